import Derived.Test.YtpngikmcjkjdaaaGreatDoorG0
import Derived.Deep.AppendLies
import Derived.Deep.RegionLaw
import Derived.Deep.RegionWith
import Derived.Test.YtpngikmcjkjdaaaGreatDoorG11
import Derived.Test.YtpngikmcjkjdaaaGreatDoorG12
import Derived.Test.YtpngikmcjkjdaaaGreatDoorG13
set_option linter.unusedVariables false
set_option linter.unusedSimpArgs false
set_option maxRecDepth 20000
set_option maxHeartbeats 80000000
namespace Go.Proofs.YtpngikmcjkjdaaaGreatDoor
open Go.RowKit Tryz
def qh_ (l:Nat)(fs:Nat->Nat)(D:Nat->Nat->Bool)(s:Nat)(w:World)(e:Ending)(w':World):Prop:=
 w'=w/\((∃k,k<l/\e= .returned (.int .i64 k)/\D (fs k) s=false/\∀j,j<k->D (fs j) s=true)\/(e= .returned (.int .i64 (-1))/\∀j,j<l->D (fs j) s=true))
theorem sv_ (ao:Option Addr)(gl l cl:Nat)(fs:Nat->Nat)(B g n:Nat)(rb:Nat->Nat)(D:Nat->Nat->Bool)(s:Nat)(w:World)(ha:0<l->ao=some ⟨gl,0,none⟩)(hl:∀i,i<l->w.cell? ⟨gl,i,none⟩=some (.int .i64 (fs i)))(hfs:∀i,i<l->fs i<n)
 (hm:c4_ w B g n n rb D) (hs:s<n) (hl0:l<=100000000) (hn:n<=100000000):
 Calls prog 104 #[.slice ao l cl,.slice (some ⟨g,0,none⟩) n n,.int .i64 s] w (qh_ l fs D s w):=by
 go_enter func104,ntmps104;go_wp2_with fail;go_loop [7] (fun k'=>∃k:Nat,k<=l/\k'= .int .i64 k/\∀j,j<k->D (fs j) s=true) (fun k'=>l - (intOf k').toNat)
 case atStart=>exact⟨0,o_,rfl,fun j hj=>absurd hj o_⟩
 case round=>
  obtain⟨k,hk,rfl,hno⟩:=hrel;by_cases hlt:k<l
  . obtain rfl:=ha o_;have c0:=hl k hlt;have hf:=hfs k hlt;obtain⟨fk,HFK⟩:=hx__ (fs k);rw[HFK.out]at c0 hf;have t0:=hm.top.cell hf;rw[if_pos hf]at t0;have r0:=(hm.row fk hf).cell hs;obtain⟨dv,HDV⟩:=hx__ (D fk s);rw[HDV.out]at r0;have HNO:Hid _:=hno;have HM:Hid _:=hm;clear hno hm hl;cases dv
    . go_wp2_with fail;go_ret;exact⟨rfl,.inl ⟨k,hlt,rfl,by rw[HFK.out];exact HDV.out,HNO.out⟩⟩
    . go_wp2_with fail;go_round
      case rel=>
       refine⟨k+1,o_,by go_num,fun j hj=> ?_⟩;by_cases e:j=k
       . subst e;rw[HFK.out];exact HDV.out
       . exact HNO.out j o_
      case measure=>simp[intOf];omega
  . have he:k=l:=o_;subst he;have HNO:Hid _:=hno;clear hno hm hl;go_wp2_with fail;go_ret;exact⟨rfl,.inr ⟨rfl,HNO.out⟩⟩
theorem PRel.bnd {M:Tab}{S:Nat->Nat->Nat}{ps:List Nat}{p:Nat}(h:PRel (ic_ M) S ps p):ps.length<=M.n:=d3_ M.n ps h.nd (fun x hx=>(h.inr x hx).1)
structure ff_ (W:World)(B:Nat)(w:World)(g n:Nat)(rb:Nat->Nat)(D:Nat->Nat->Bool)(vf:Value)(fs:List Nat):Prop where
 blw:Below B W w
 siz:B<=w.heap.size
 mat:c4_ w B g n n rb D
 own:w.ownsRow B 3 1 vf fs.length (ints fs)
theorem ff_.below {W w w2:World}{B g n:Nat}{rb:Nat->Nat}{D:Nat->Nat->Bool}{vf:Value}{fs:List Nat}(h:ff_ W B w g n rb D vf fs)(hb:Below w.heap.size w w2):ff_ W B w2 g n rb D vf fs:=
 ⟨h.blw.trans (hb.mono h.siz),Nat.le_trans h.siz hb.size,h.mat.below hb,al_ h.own hb⟩
theorem qi_ {w w2:World}{b t n base e s k:Nat}{f:Nat->Value}{v:Value}{x:List Value}(h:w.rowIs b t n f)(ho:w.ownsRow base e s v k x)(hne:t≠e)(hg:w.grownBy w2 v.ownBlock):w2.rowIs b t n f:=by
 refine h.of_block (hg.block b h.lt (fun e'=> ?_));rcases ho.2 with ⟨rfl,_⟩|⟨g,cap,cur,rfl,_,hg',_⟩
 . simp[Value.ownBlock]at e'
 . simp only[Value.ownBlock,Option.some.injEq]at e';subst e';obtain⟨c,hb,_,_⟩:=h;rw[hb]at hg';simp only[Option.some.injEq,Obj.cells.injEq]at hg';exact hne hg'.2.1
theorem c4_.grown {w w2:World}{B g n k base s m:Nat}{rb:Nat->Nat}{D:Nat->Nat->Bool}{v:Value}{x:List Value}(h:c4_ w B g n k rb D)(ho:w.ownsRow base 3 s v m x)(hg:w.grownBy w2 v.ownBlock):c4_ w2 B g n k rb D:=
 ⟨qi_ h.top ho d_ hg,fun i hi=>qi_ (h.row i hi) ho d_ hg,h.inj,h.lg,h.lr⟩
theorem ff_.app {W w w2:World}{B g n:Nat}{rb:Nat->Nat}{D:Nat->Nat->Bool}{vf:Value}{fs:List Nat}(h:ff_ W B w g n rb D vf fs){s gg cap:Nat}
 (hown:w2.ownsRow B 3 1 (.slice (some ⟨gg,0,none⟩) (fs.length+1) cap) (fs.length+1) (ints fs++ [.int .i64 (s:Int)])) (hg:w.grownBy w2 vf.ownBlock):ff_ W B w2 g n rb D (.slice (some ⟨gg,0,none⟩) (fs.length+1) cap) (fs++ [s]):=
 ⟨h.blw.grown hg h.siz (fun x e=>(h.own.lt x e).1),Nat.le_trans h.siz hg.size,h.mat.grown h.own hg,by rw[hz_]at hown;simpa using hown⟩
def wn_ (L:List Nat->Bool)(w:World)(e:Ending)(w':World):Prop:=
 Below w.heap.size w w'/\∃(U:Lay) (R:Tab),b8_ R L/\e= .returned (.agg #[.slice (some ⟨U.ba,U.oa,none⟩) R.n U.ca,.slice (some ⟨U.bn,U.on,none⟩) R.n U.cn])/\av_ w' U R/\U.From w.heap.size R.n
theorem ud_ {M:Tab}{fs:List Nat}{D:Nat->Nat->Bool}(hD:∀x y,x<M.n->y<M.n->(D x y=true↔d9_ M x y))(hfs:∀i,i<fs.length->fs.getD i 0<M.n){s:Nat}(hs:s<M.n)(hmem:cr M s∈fs.map (cr M)){w w':World}{e:Ending}(h:qh_ fs.length (fun i=>fs.getD i 0) D s w e w'):
 e= .returned (.int .i64 ((fs.map (cr M)).idxOf (cr M s):Nat))/\w'=w:=by
 have hp:=qx_ (M:=M) (fs:=fs) hD hfs hs;obtain⟨h0,h1⟩:=h;refine⟨?_,h0⟩;rcases h1 with ⟨k,hk,rfl,hd,hno⟩|⟨rfl,hno⟩
 . rw[(hp.1 k hk hd hno).2]
 . exact absurd hmem (hp.2 hno)
theorem qj_ (V:Lay)(M:Tab)(w:World)(hlo:1<=M.n)(hhi:M.n<=100000000)(hnx:∀i c,i<M.n->c<8->M.nxt i c<M.n)(hV:av_ w V M):
 Calls prog 67 #[.agg #[.slice (some ⟨V.ba,V.oa,none⟩) M.n V.ca,.slice (some ⟨V.bn,V.on,none⟩) M.n V.cn]] w
  (wn_ M.accepts w):=by
 obtain⟨i3,hi3,hz3,hz31,hz32⟩:=info_parts du_;obtain⟨i4,hi4,hz4,hz41,hz42⟩:=info_parts fa_;obtain⟨iR,hiR,hzR,hzR1,hzR2⟩:=info_parts ke_;obtain⟨W,hW,BW,b0,b1⟩:=n2__ w #[.slice (some ⟨V.ba,V.oa,none⟩) M.n V.ca,.slice (some ⟨V.bn,V.on,none⟩) M.n V.cn] 41 #[.slice none 0 0,.slice none 0 0] 41;have hWs:W.heap.size=w.heap.size+1+1:=by rw[hW];simp
 have hV0:=hV.below BW;go_enter func67,ntmps67;go_wp2_with fail;rw[<-hW];clear hW;refine(rm_ V M W hlo hhi hnx hV0).mono ?_;rintro e w1 ⟨hB1,g,rb,D,rfl,hm,hD⟩;have hs1:=hB1.size;have hm1:c4_ w1 (w.heap.size+1+1) g M.n M.n rb D:=⟨hm.top,hm.row,hm.inj,by have:=hm.lg;omega,fun i hi=>by have:=hm.lr i hi;omega⟩;have hbW1:Below (w.heap.size+1+1) W w1:=hB1.mono o_;have P0:ff_ W (w.heap.size+1+1) (w1.alloc (.cells #[.int .i64 0] 3)) g M.n rb D (.slice (some ⟨w1.heap.size,0,none⟩) 1 1) [0]:=by
  refine⟨hbW1.alloc o_ _,s_,hm1.below ba__, ?_⟩;exact World.ownsRow_lit (base:=w.heap.size+1+1) (e:=3) (size:=1) w1 #[.int .i64 0] 1 o_ d_ rfl
 have hg0:ic_ M 0:=⟨o_,by have:=ri_ M 0;omega⟩;have Q0:PRel (ic_ M) (crS M) (([0]:List Nat).map (cr M)) 0:=by
  have:([0]:List Nat).map (cr M)=[0]:=by simp[hg0.2]
  rw[this];exact PRel.start hg0
 go_wp2_with fail;clear hm hm1 hB1 hbW1 hV0;go_loopw [4,5,6,7,8] (fun vf k' _ _ _ wr=>∃(k:Nat) (fs:List Nat),k<=fs.length/\k'= .int .i64 k/\ff_ W (w.heap.size+1+1) wr g M.n rb D vf fs/\PRel (ic_ M) (crS M) (fs.map (cr M)) (8*k)/\∀i,i<fs.length->fs.getD i 0<M.n)
  (fun _ k' _ _ _ _=>M.n+1 - (intOf k').toNat)
 case atStart=>exact⟨0,[0],i_,rfl,P0,Q0,fun i hi=>by
  have h0:i=0:=by simpa using hi
  rw[h0];simp;omega⟩
 case round=>
  obtain⟨k,fs,hk,rfl,hF,hR,hfs⟩:=hrel;clear P0 Q0;have hbd:=hR.bnd;rw[List.length_map]at hbd;obtain⟨af,cf,rfl,haf⟩:=af_ hF.own;have hbw:Below w.heap.size w wr:=BW.trans (hF.blw.mono o_);obtain⟨x0,x1,_,_⟩:=aa_ ((hF.blw.block _ o_).trans b0);have hlen:0<fs.length:=by have:=hR.len;rw[List.length_map]at this;omega
  by_cases hlt:k<fs.length
  . have HF:Hid _:=hF;have HR:Hid _:=hR;have HFS:Hid _:=hfs;clear hF hR hfs haf;go_wp2_with fail;go_loopw [4,6,7,8] (fun vf c' _ _ wr=>∃(c:Nat) (fs:List Nat),c<=8/\c'= .int .i64 c/\k<fs.length/\ff_ W (w.heap.size+1+1) wr g M.n rb D vf fs/\PRel (ic_ M) (crS M) (fs.map (cr M)) (8*k+c)/\∀i,i<fs.length->fs.getD i 0<M.n)
     (fun _ c' _ _ _=>8 - (intOf c').toNat)
    case atStart=>exact⟨0,fs,o_,rfl,hlt,HF.out,HR.out,HFS.out⟩
    case round=>
     clear HF HR HFS hlt hbd hlen;obtain⟨c,fs,hc,rfl,hlt,hF,hR,hfs⟩:=hrel;have hbd:=hR.bnd;rw[List.length_map]at hbd;obtain⟨af,cf,rfl,haf⟩:=af_ hF.own;obtain⟨gf,rfl,hcf⟩:=haf o_;have hbw:Below w.heap.size w wr:=BW.trans (hF.blw.mono o_);obtain⟨x0,x1,_,_⟩:=aa_ ((hF.blw.block _ o_).trans b0);have hnats:=if_ rfl hcf;have HNT:Hid (ch_ wr gf fs.length (fun i=>fs.getD i 0)):=hnats;have HF:Hid _:=hF;have HR:Hid _:=hR;have HFS:Hid _:=hfs;by_cases hl8:c<8
     . have c0:=hnats k hlt;have hfk:=hfs k hlt;obtain⟨fk,HFK⟩:=hx__ (fs.getD k 0);simp only at c0;rw[HFK.out]at c0 hfk;have y0:=(hV.below hbw).row fk hfk;have y1:=(hV.below hbw).cel fk c hfk hl8;have hs:=hnx fk c hfk hl8;obtain⟨s,HS⟩:=hx__ (M.nxt fk c);rw[HS.out]at y1 hs;have HSC:Hid (crS M ((fs.map (cr M)).getD ((8*k+c)/8) 0) ((8*k+c)%8)=cr M s):=by
        unfold Hid;rw[show(8*k+c)/8=k by omega,show(8*k+c)%8=c by omega,vw_ M fs k c hlt hl8,HFK.out,HS.out]
       have hsz:=hF.siz;clear hF hR hfs haf hcf hnats;go_wp2_with fail;go_quiet (fail);have hFq:=HF.out.below (below_drewN br__ nq);have HC:=sv_ (some ⟨gf,0,none⟩) gf fs.length cf (fun i=>fs.getD i 0) (w.heap.size+1+1) g M.n rb D s (wr.drewN nq) (fun _=>rfl) (fun i hi=>HNT.out i hi) (fun i hi=>HFS.out i hi) hFq.mat hs o_ hhi;have HFQ:Hid _:=hFq;have HPM:=qx_ (M:=M) (fs:=fs) hD HFS.out hs;clear hFq;go_wp2_with fail;refine HC.mono ?_;clear HC;rintro e w2 ⟨hw2,hcase⟩;obtain rfl:wr.drewN nq=w2:=hw2.symm;rcases hcase with ⟨kk,hkk,rfl,hd,hno⟩|⟨rfl,hno⟩
       . have hmem:=(HPM.1 kk hkk hd hno).1;have hnn:¬((kk:Int)<0):=o_;have HMM:Hid _:=hmem;clear HPM hd hno hmem;go_wp2_with fail;go_roundw
         case rel=>exact⟨c+1,fs,o_,by go_num,hlt,HFQ.out,HR.out.old (by rw[List.length_map];omega) (by rw[HSC.out];exact HMM.out),HFS.out⟩
         case measure=>simp[intOf];omega
       . have hnm:=HPM.2 hno;have HNM:Hid _:=hnm;have hna:=(HFQ.out.below (br__.alloc lr__ (.cells #[.int .i64 (s:Int)] 3))).own;have HFA:Hid _:=HFQ.out.below (br__.alloc lr__ (.cells #[.int .i64 (s:Int)] 3));clear HPM hno hnm;go_wp2_with (at_builtin;refine ae_ _ rfl _ _ 24 rfl (w.heap.size+1+1) 3 i3 (.int .i64 0) 1 8 underlying24 hi3 hz3 hz31 hz32 rfl d_ _ fs.length (ints fs) rfl hna ⟨wr.heap.size,0,none⟩ 1 1 [.int .i64 (s:Int)] rfl rfl (cell_one_new _ _ _) (oc__ rfl) d_ u_ o_ s_ ?_;intro gg cap w3 hown hgr hfr;have HO:Hid _:=hown;have HG:Hid _:=hgr;clear hown hgr hfr);go_roundw
         case rel=>
          have hgd:ic_ M (cr M s):=⟨by have:=ri_ M s;omega,afz_ M s⟩;have hnew:=HR.out.new (by rw[List.length_map];omega) (by rw[HSC.out];exact HNM.out) (by rw[HSC.out];exact hgd);rw[HSC.out]at hnew;refine⟨c+1,fs++ [s],o_,by go_num,s_,by simpa using HFA.out.app HO.out HG.out,by rw[<-Nat.add_assoc];simpa using hnew,fun i hi=> ?_⟩;by_cases e:i<fs.length
          . rw[ce_ _ _ _ e];exact HFS.out i e
          . have:i=fs.length:=by simp at hi;omega
            subst this;simp[List.getD_eq_getElem?_getD,hs]
         case measure=>simp[intOf];omega
     . have he:c=8:=o_;subst he;clear hF hR hfs haf hcf hnats;go_wp2_with fail;go_roundw
       case rel=>exact⟨k+1,fs,o_,by go_num,HF.out,by rw[show 8*(k+1)=8*k+8 by omega];exact HR.out,HFS.out⟩
       case measure=>simp[intOf];omega
  . have he:k=fs.length:=o_;subst he;obtain⟨ps,HPS⟩:=hx__ (fs.map (cr M));rw[HPS.out]at hR;have hpl:ps.length=fs.length:=by rw[<-HPS.out];simp
    rw[<-hpl]at hR;have hL:=xn_ hR;obtain⟨A,HA⟩:∃A:Nat->Bool,Hid (A=fun k=>M.acc (fs.getD k 0)):=⟨_,rfl⟩;obtain⟨X,HX⟩:∃X:Nat->Nat->Nat,Hid (X=(eg_ M ps).nxt):=⟨_,rfl⟩;have HQA:Hid (∀k,k<fs.length->(eg_ M ps).acc k=A k):=by
     intro k hk;rw[HA.out];show M.acc (ps.getD k 0)=M.acc (fs.getD k 0)
     rw[<-HPS.out,lg_ M fs k hk];exact(h3_ M _).acc
    have HXC:Hid (∀k c,k<fs.length->c<8->cr M (M.nxt (fs.getD k 0) c)∈ps/\ps.idxOf (cr M (M.nxt (fs.getD k 0) c))=X k c):=by
     intro k c hk hc;have h1:=(hR.clo (8*k+c) o_).2;rw[show(8*k+c)/8=k by omega,show(8*k+c)%8=c by omega]at h1;have h2:=vw_ M fs k c hk hc;rw[HPS.out]at h2;rw[h2]at h1;refine⟨h1, ?_⟩;rw[HX.out];show _=pn (crS M) ps k c
     unfold pn;rw[h2]
    have HL:Hid _:=hL;have HFS:Hid _:=hfs;obtain⟨gf,rfl,hcf⟩:=haf hlen;have hnats:=if_ rfl hcf;rename World=>wo
    obtain⟨W2,hW2,hB2,hs2,d0⟩:=nw__ wo #[.slice none 0 0,.slice none 0 0] 41;have d1:W2.heap[w.heap.size]? =some (.cells #[.slice (some ⟨V.ba,V.oa,none⟩) M.n V.ca,.slice (some ⟨V.bn,V.on,none⟩) M.n V.cn] 41 (0,0)):=(hB2.block _ (by have:=hF.siz;omega)).trans ((hF.blw.block _ o_).trans b0);have d2:W2.heap[w.heap.size+1]? =some (.cells #[.slice none 0 0,.slice none 0 0] 41 (0,0)):=(hB2.block _ (by have:=hF.siz;omega)).trans ((hF.blw.block _ o_).trans b1);have hF2:=hF.below hB2;have hbw2:Below w.heap.size w W2:=hbw.trans (hB2.mono (by have:=hF.siz;omega));have hnats2:=hnats.below hB2;have hsz:=hF.siz;have B0:au_ W2 wo.heap.size W2 (.slice none 0 0) (.slice none 0 0) 0 0 A (fun _=>0) (fun _=>0) X:=au_.start br__ d0;have HF2:Hid _:=hF2;have HGF:Hid (gf<wo.heap.size):=(hF.own.lt gf rfl).2;have HGG:Hid (g<wo.heap.size):=hF.mat.top.lt;have HGR:Hid (∀i,i<M.n->rb i<wo.heap.size):=fun i hi=>(hF.mat.row i hi).lt
    have HNT2:Hid (ch_ W2 gf fs.length (fun i=>fs.getD i 0)):=hnats2;clear hF hR hL hfs haf hcf hnats hbw hnats2 hF2;go_upto_region 14 with fail;rw[<-hW2];clear hW2;go_wp2_with fail;go_loopw [10,11,12,13] (fun k' _ _ _ wi=>∃(k:Nat) (va vn:Value) (R C:Nat->Nat),k<=fs.length/\k'= .int .i64 k/\au_ W2 wo.heap.size wi va vn k k A R C X)
     (fun k' _ _ _ _=>fs.length - (intOf k').toNat)
    case atStart=>exact⟨0,_,_,_,_,o_,rfl,B0⟩
    case round=>
     obtain⟨k,va,vn,R,C,hk2,rfl,hB⟩:=hrel;clear B0;have hbm:=hB.two.blw;have hbw:Below w.heap.size w wr:=hbw2.trans (hbm.mono o_);obtain⟨x0,x1,_,_⟩:=aa_ ((hbm.block _ o_).trans d1);obtain⟨y0,y1,z0,z1⟩:=aa_ hB.two.blk;have hszb:=ac_ hB.two.blk;by_cases hltk:k<fs.length
     . have hgfl:gf<wo.heap.size:=HGF.out;have c0:wr.cell? ⟨gf,k,none⟩=some (.int .i64 (fs.getD k 0)):=by
        rw[hbm.cell (p:=⟨gf,k,none⟩) hgfl];exact HNT2.out k hltk
       have hfk:=HFS.out k hltk;have HAK:Hid (A k=M.acc (fs.getD k 0)):=by unfold Hid;rw[HA.out]
       have hXk:=fun c=>HXC.out k c hltk
       obtain⟨fk,HFK⟩:=hx__ (fs.getD k 0);rw[HFK.out]at c0 hfk HAK;have a0:=(hV.below hbw).acc fk hfk;obtain⟨bb,HBB⟩:=hx__ (M.acc fk);rw[HBB.out]at a0 HAK;have HXK:Hid _:=hXk;have HBa:Hid (au_ W2 wo.heap.size ((wr.alloc (.cells #[.bool bb] 4)).drew) va vn k k A R C X):=hB.below (ba__.drew);have hna:=HBa.out.two.own0;have HACC:Hid (∀g cap' w2,w2.ownsRow (wo.heap.size+1) 4 1 (.slice (some ⟨g,0,none⟩) (k+1) cap') (k+1) (a0_ A k++ [.bool bb])->
        ((wr.alloc (.cells #[.bool bb] 4)).drew).grownBy w2 va.ownBlock->(va.ownBlock=some g\/g=wr.heap.size+1)->
        au_ W2 wo.heap.size (w2.setCell ⟨wo.heap.size,0,none⟩ (.slice (some ⟨g,0,none⟩) (k+1) cap')) (.slice (some ⟨g,0,none⟩) (k+1) cap') vn (k+1) k A R C X):=by
        intro g cap' w2 ho hg hf;rw[<-HAK.out]at ho;refine HBa.out.acc ho hg ?_;rcases hf with hf|hf
        . exact .inl hf
        . right;rw[hf];simp
       clear hB hXk;go_upto_region 17 with fail;go_cut [65] (fun _ wc=>∃va',Hid (au_ W2 wo.heap.size wc va' vn (k+1) k A R C X))
       case first=>
        go_region_law
         ((refine step_append_lies _ (by rfl) _ _ _ (by rfl) (wo.heap.size+1) 4 i4 (.bool false) 1 1 underlying38 hi4 hz4 hz41 hz42 rfl d_ va k (a0_ A k) (by rfl) hna ⟨wr.heap.size,0,none⟩ 1 1 [.bool bb] (by rfl) (by rfl) (cell_one_new _ _ _) (oc__ rfl) d_ u_ o_ s_ (wr.heap.size+1) i_ ?_;intro g cap' w2 hown hgr hfr hlt2;obtain⟨f0',f1',f2',f3'⟩:=aa_ (HBa.out.two.grown0 hgr);have HFR:Hid _:=hfr;clear hfr))
        all_goals go_wp2_with fail
        all_goals go_meet
        all_goals exact⟨_,HACC.out g cap' w2 hown hgr HFR.out⟩
       case rest=>
        obtain⟨va',hB'⟩:=hcut;clear HACC HBa hna x0 x1 y0 y1 z0 z1 hbw hbm c0 a0;go_wp2_with fail;go_loopw [11,12,13] (fun vr c' _ wi=>∃c:Nat,c<=8/\c'= .int .i64 c/\au_ W2 wo.heap.size wi va' vn (k+1) k A R C X/\
         wi.ownsRow (wo.heap.size+1) 3 1 vr c (am_ (X k) c)/\∀j,j<k->vr.ownBlock≠some (R j))
         (fun _ c' _ _=>8 - (intOf c').toNat)
        case atStart=>exact⟨0,o_,rfl,hB'.out,on__,by intro j _ h;simp[Value.ownBlock]at h⟩
        case round=>
         clear hB';obtain⟨c,hc,rfl,hBi,hr,hd⟩:=hrel;have hbm:=hBi.two.blw;have hbw:Below w.heap.size w wr:=hbw2.trans (hbm.mono o_);obtain⟨x0,x1,_,_⟩:=aa_ ((hbm.block _ o_).trans d1);have hsz2:=ac_ hBi.two.blk;by_cases hl8:c<8
         . have c0:wr.cell? ⟨gf,k,none⟩=some (.int .i64 fk):=by
            rw[<-HFK.out,hbm.cell (p:=⟨gf,k,none⟩) hgfl];exact HNT2.out k hltk
           have y0:=(hV.below hbw).row fk hfk;have y1:=(hV.below hbw).cel fk c hfk hl8;have hs:=hnx fk c hfk hl8;have hxc:=HXK.out c hl8;rw[HFK.out]at hxc;obtain⟨s,HS⟩:=hx__ (M.nxt fk c);rw[HS.out]at y1 hs hxc;obtain⟨pv,HPV⟩:=hx__ (X k c);rw[HPV.out]at hxc;have HMq:c4_ wr (w.heap.size+1+1) g M.n M.n rb D:=by
            refine⟨HF2.out.mat.top.of_block (hbm.block _ HGG.out),fun i hi=>(HF2.out.mat.row i hi).of_block (hbm.block _ (HGR.out i hi)),HF2.out.mat.inj,HF2.out.mat.lg,HF2.out.mat.lr⟩
           have HC:∀q:Nat,Calls prog 104 #[.slice (some ⟨gf,0,none⟩) fs.length cf,.slice (some ⟨g,0,none⟩) M.n M.n,.int .i64 s] (wr.drewN q) fun e w'=>e= .returned (.int .i64 (pv:Nat))/\w'=wr.drewN q:=by
            intro q;have hq:Below wr.heap.size wr (wr.drewN q):=below_drewN br__ q;have:=(sv_ (some ⟨gf,0,none⟩) gf fs.length cf (fun i=>fs.getD i 0) (w.heap.size+1+1) g M.n rb D s (wr.drewN q) (fun _=>rfl) (fun i hi=>by rw[hq.cell (p:=⟨gf,i,none⟩) (show gf<wr.heap.size by omega),hbm.cell (p:=⟨gf,i,none⟩) hgfl];exact HNT2.out i hi) (fun i hi=>HFS.out i hi) (HMq.below hq) hs o_ hhi).mono (fun e w' h=>ud_ hD HFS.out hs (by rw[HPS.out];exact hxc.1) h);rw[HPS.out,hxc.2]at this;exact this
           have HBi:Hid _:=hBi;have HD:Hid (∀j,j<k->(u11:Value).ownBlock≠some (R j)):=hd;have HRR:Hid _:=hr;clear hBi hd hr hbw hbm HMq hxc;go_wp2_with fail;go_quiet ((go_at_call 104;exact Calls.quiet_of_same (HC _)));clear HC x0 x1 c0 y0 y1;have hq:Below wr.heap.size wr (wr.drewN nq):=below_drewN br__ nq;have HBq:Hid (au_ W2 wo.heap.size ((wr.drewN nq).alloc (.cells #[.int .i64 (pv:Int)] 3)) va' vn (k+1) k A R C X):=(HBi.out.below hq).below ba__;have hna:=(al_ HRR.out hq).alloc (.cells #[.int .i64 (pv:Int)] 3);have HRO:Hid (∀j,j<k->R j<wr.heap.size):=fun j hj=>((HBi.out.rows j hj).lt (R j) rfl).2
           clear hq;go_wp2_with (at_builtin;refine ae_ _ rfl _ _ 24 rfl (wo.heap.size+1) 3 i3 (.int .i64 0) 1 8 underlying24 hi3 hz3 hz31 hz32 rfl d_ _ c (am_ (X k) c) rfl hna ⟨wr.heap.size,0,none⟩ 1 1 [.int .i64 (pv:Int)] rfl rfl (cell_one_new _ _ _) (oc__ rfl) d_ u_ o_ s_ ?_;intro g2 cap2 w2 hown hgr hfr;have HO:Hid _:=hown;have HG:Hid _:=hgr;have HFR:Hid _:=hfr;clear hown hgr hfr);go_roundw
           case rel=>
            have ho:=HO.out;rw[show am_ (X k) c++ [.int .i64 (pv:Int)]=am_ (X k) (c+1)by rw[e3_,HPV.out]]at ho;refine⟨c+1,o_,by go_num,HBq.out.grown hna HD.out HG.out,ho, ?_⟩;intro j hj e;simp only[Value.ownBlock,Option.some.injEq]at e;rcases HFR.out with h'|h'
            . exact HD.out j hj (by subst e;exact h')
            . have:=HRO.out j hj;simp at h';omega
           case measure=>simp[intOf];omega
         . have he:c=8:=o_;subst he;obtain⟨ar,cr',rfl,har⟩:=af_ hr;obtain⟨gr,rfl,_⟩:=har o_;obtain⟨y0,y1,_,_⟩:=aa_ hBi.two.blk;have HBi:Hid (au_ W2 wo.heap.size (wr.alloc (.cells #[.slice (some ⟨gr,0,none⟩) 8 cr'] 24)) va' vn (k+1) k A R C X):=hBi.below ba__;have hna:=HBi.out.two.own1;have HR:Hid ((wr.alloc (.cells #[.slice (some ⟨gr,0,none⟩) 8 cr'] 24)).ownsRow (wo.heap.size+1) 3 1 (.slice (some ⟨gr,0,none⟩) 8 cr') 8 (am_ (X k) 8)):=hr.alloc _;clear hBi hd hr hbw har;go_wp2_with (at_builtin;refine ae_ _ rfl _ _ 39 rfl (wo.heap.size+1) 24 iR (.slice none 0 0) 1 24 underlying39 hiR hzR hzR1 hzR2 rfl d_ _ k (eb_ R C k) rfl hna ⟨wr.heap.size,0,none⟩ 1 1 [.slice (some ⟨gr,0,none⟩) 8 cr'] rfl rfl (cell_one_new _ _ _) (oc__ rfl) d_ u_ o_ s_ ?_;intro g2 cap2 w2 hown hgr hfr;obtain⟨f0',f1',f2',f3'⟩:=aa_ (HBi.out.two.grown1 hgr);have HO:Hid _:=hown;have HG:Hid _:=hgr;have HFR:Hid _:=hfr;clear hown hgr hfr);go_roundw
           case rel=>
            exact⟨k+1,_,_,_,_,o_,by go_num,HBi.out.nxt HR.out HO.out HG.out HFR.out⟩
           case measure=>simp[intOf];omega
     . have he:k=fs.length:=o_;subst he;obtain⟨U,rfl,rfl,hT,hFr⟩:=hB.done (N:=eg_ M ps) o_ hpl HQA.out (fun i c hi hc=>by rw[HX.out]);have hq:wr.heap[w.heap.size+1]? =some (.cells #[.slice none 0 0,.slice none 0 0] 41 (0,0)):=(hbm.block _ o_).trans d2;obtain⟨q0,q1,p0,p1⟩:=aa_ hq;have HT:Hid (av_ wr U (eg_ M ps)):=hT;have HB:Hid _:=hbw;clear hB hT;go_wp2_with fail;obtain⟨r1,r2,r3⟩:=a7_ (u:= .slice (some ⟨U.ba,U.oa,none⟩) fs.length U.ca) (v:= .slice (some ⟨U.bn,U.on,none⟩) fs.length U.cn) hq;refine bodyPost_ret (v:= .agg #[.slice (some ⟨U.ba,U.oa,none⟩) fs.length U.ca,.slice (some ⟨U.bn,U.on,none⟩) fs.length U.cn]) (by simp[results,results67,go_sem,r1,r2]) rfl ?_;have hn:(eg_ M ps).n=fs.length:=hpl;have hF':U.From (wo.heap.size+1) (eg_ M ps).n:=by rw[hn];exact hFr
       refine⟨az_ HB.out o_ _ _,U,eg_ M ps,HL.out,by rw[hn],HT.out.res hF' o_ _ _,hF'.mono o_⟩
theorem ue_ {m:Mach}{ps:List Nat}{q k:Nat}(hk:k<=ps.length):a0_ (m.tab (ps++ [q])).acc k=a0_ (m.tab ps).acc k:=by
 induction k with
 |zero=>rfl
 |succ k ih=>
  simp only[a0_];rw[ih o_];simp only[Mach.tab];rw[ce_ _ _ _ o_]
theorem wo_ (S L:Nat)(hS:S<2048)(hL:L<2048):(bits BinOp.and IntKind.i64 (S:Int) (L:Int) !=0)=(S&&&L !=0):=by
 rw[g0_ S L o_ o_,Bool.eq_iff_iff];simp
theorem y0_ (bm gb n cap:Nat)(beh rdr:Nat->Nat)(lasts:Nat)(w:World)(hn:n<=11)(hn1:1<=n)(hL:lasts<2048)(h:cg_ w bm (.slice (some ⟨gb,0,none⟩) n cap) n beh rdr):
 Calls prog 145 #[.pointer (some ⟨bm,0,none⟩),.int .i64 1,.int .i64 lasts] w
  fun e w'=>Below w.heap.size w w'/\∃ps gw ga ca gn cn,PRel Mach.good (Mach.succ ⟨n,beh,rdr,lasts⟩) ps (8*ps.length)/\e= .returned (.pointer (some ⟨gw,0,none⟩))/\ez_ w' gw ga ca gn cn (Mach.tab ⟨n,beh,rdr,lasts⟩ ps):=by
 have hz:=xx_;obtain⟨m,HMM⟩:∃m:Mach,Hid ((⟨n,beh,rdr,lasts⟩:Mach)=m):=⟨_,rfl⟩;rw[HMM.out];obtain⟨i3,hi3,hz3,hz31,hz32⟩:=info_parts du_;have Hmn:Hid (m.n=n):=by unfold Hid;rw[<-HMM.out]
 have Hmb:Hid (m.beh=beh):=by unfold Hid;rw[<-HMM.out]
 have Hmr:Hid (m.rdr=rdr):=by unfold Hid;rw[<-HMM.out]
 have Hml:Hid (m.lasts=lasts):=by unfold Hid;rw[<-HMM.out]
 have hbl:∀i,i<m.n->m.beh i<2048:=by rw[Hmn.out,Hmb.out];exact h.lb
 obtain⟨W0,hW0,BW0,b3,b4⟩:=n2__ w #[.slice none 0 0,.slice none 0 0] 169 (zs 2048) 222;have hW0s:W0.heap.size=w.heap.size+1+1:=by rw[hW0];simp
 have r4:W0.rowIs (w.heap.size+1) 222 2048 (fun _=> .int .i64 0):=⟨_,b4,by simp[zs],fun i hi=>by simp[zs,hi]⟩;have s0:=r4.cell (i:=1) o_;have s1:=r4.frozen 1;have R4:=hi__ r4;clear r4 b4;go_enter func145,ntmps145;go_upto_region 3 with fail;rw[<-hW0];clear hW0 hz;go_wp2_with fail;clear s0 s1;obtain⟨W2,hW2⟩:=ew__ ((W0.setCell ⟨w.heap.size+1,1,none⟩ (.int .i64 1)).alloc (.cells #[.int .i64 1] 3));have P0:ii_ W0 w.heap.size W2 [0] (.slice (some ⟨w.heap.size+1+1,0,none⟩) 1 1) (.slice none 0 0) (.slice none 0 0) 0 0 [] []:=by
  rw[hW2];refine⟨(br__.setCell (p:=⟨w.heap.size+1,1,none⟩) i_ _).alloc s_ _,ah_ (aj_ b3 i_), ?_,on__,on__, ?_⟩
  . refine((R4.out.set 1 (.int .i64 1)).congr (fun S _=> ?_)).alloc _;by_cases e:S=1
    . subst e;simp[metv,swp]
    . have:swp 1 S≠0:=by unfold swp;rw[if_neg e];split<;>omega
      simp[metv,e,this]
  . have h:=World.ownsRow_lit (base:=w.heap.size+1+1) (e:=3) (size:=1) (W0.setCell ⟨w.heap.size+1,1,none⟩ (.int .i64 1)) #[.int .i64 1] 1 s_ d_ rfl;have hsz:(W0.setCell ⟨w.heap.size+1,1,none⟩ (.int .i64 1)).heap.size=W0.heap.size:=i_;rw[hsz,hW0s]at h;exact h
 rw[<-hW2];clear hW2 R4 b3;have hbig:∀qs r,PRel Mach.good m.succ qs r->qs.length<=2048:=fun qs r h=>Mach.bound h
 have hbm:bm<w.heap.size:=h.blk.lt;have hgb:gb<w.heap.size:=(h.own.lt gb rfl).2;have HMA:Hid (∀wr,Below w.heap.size w wr->cg_ wr bm (.slice (some ⟨gb,0,none⟩) n cap) n beh rdr):=fun wr hb=>h.below hb
 have hlb:=h.lb;have hlr:=h.lr;clear h;go_loopw [9,10,11,12,13,14] (fun vs k' _ _ _ _ wr=>∃(k:Nat) (ps:List Nat) (va vn:Value),k<=ps.length/\k'= .int .i64 k/\PRel Mach.good m.succ ps (8*k)/\ii_ W0 w.heap.size wr ps vs va vn k k (a0_ (m.tab ps).acc k) (b4_ (pn m.succ ps) k))
  (fun _ k' _ _ _ _ _=>4096 - (intOf k').toNat)
 case atStart=>exact⟨0,[0],_,_,i_,rfl,PRel.start (by unfold Mach.good;omega),P0⟩
 case round=>
  obtain⟨k,ps,va,vn,hk,rfl,hR,hP⟩:=hrel;clear P0;have hbd:=hbig _ _ hR;have hlen:=hR.len;have hbw:Below w.heap.size w wr:=BW0.trans (hP.blw.mono o_);obtain⟨ap,cp,rfl,hap⟩:=af_ hP.own2;obtain⟨gp,rfl,hcp⟩:=hap o_;have hszs:=ac_ hP.blk;rename World=>wo
  by_cases hlt:k<ps.length
  . have e0:=(hcp k o_).trans (m2_ ps k hlt);obtain⟨q,HQ⟩:=hx__ (ps.getD k 0);rw[HQ.out]at e0;have hgq:q<2048:=by rw[<-HQ.out];exact hR.inr _ (ds_ ps k hlt)
    obtain⟨S,HSQ⟩:=hx__ (swp 1 q);rw[HSQ.out]at e0;have hS:S<2048:=by rw[<-HSQ.out];exact xw_ o_ hgq
    have hM:=HMA.out wo hbw;have x0:=hM.blk.cell (i:=0) o_;simp only[if_true]at x0;have HC:=xv_ bm gb n cap beh S wo hn hS hlb x0 (fun i hi=>(hM.own.cellAt i o_).trans (by simp[am_,hi]));obtain⟨nx,HNX⟩:=hx__ (folF beh S n);rw[HNX.out]at HC;have hnx:nx<2048:=by rw[<-HNX.out];exact va_ hlb
    have R0:b5_ W0 w.heap.size wo.heap.size (wo.alloc (.cells #[.int .i64 0,.int .i64 0,.int .i64 0,.int .i64 0,.int .i64 0,.int .i64 0,.int .i64 0,.int .i64 0] 174)) ps (.slice (some ⟨gp,0,none⟩) ps.length cp) va vn k (a0_ (m.tab ps).acc k) (b4_ (pn m.succ ps) k) (fun _=>0):=by
     refine⟨hP.below ba__,⟨_,ag_ rfl,rfl,fun i hi=> ?_⟩,by have:=hP.met.lt;omega,fun g hg=> ?_,fun g hg=>(hP.own0.lt g hg).2,fun g hg=>(hP.own1.lt g hg).2⟩
     . rcases (show i=0\/i=1\/i=2\/i=3\/i=4\/i=5\/i=6\/i=7 by omega)with rfl|rfl|rfl|rfl|rfl|rfl|rfl|rfl<;>rfl
     . have:=(hP.own2.lt g hg).2;omega
    have HR:Hid _:=hR;have hmz:=hP.met.lt;clear hP hR hap hcp hM;go_wp2_with (go_at_call 173;refine HC.mono ?_;rintro e w' ⟨rfl,rfl⟩);clear e0 x0 HC;go_loopw [9,13,14] (fun vs c' _ wr=>∃(c:Nat) (qs:List Nat),c<=8/\c'= .int .i64 c/\k<qs.length/\Hid (qs.getD k 0=q)/\PRel Mach.good m.succ qs (8*k+c)/\b5_ W0 w.heap.size wo.heap.size wr qs vs va vn k (a0_ (m.tab qs).acc k) (b4_ (pn m.succ qs) k) (fun c'=>if c'<c then pn m.succ qs k c' else 0))
     (fun _ c' _ _=>8 - (intOf c').toNat)
    case atStart=>exact⟨0,ps,o_,rfl,hlt,HQ,HR.out,R0.rcongr (fun x _=>i_)⟩
    case round=>
     clear R0 HR HQ hlt hbd hlen;obtain⟨c,qs,hc,rfl,hlt,HQ,hR,hP⟩:=hrel;have hbd:=hbig _ _ hR;have hlen:=hR.len;have hbw2:Below w.heap.size w wr:=BW0.trans (hP.mem.blw.mono o_);obtain⟨ap,cp,rfl,hap⟩:=af_ hP.mem.own2;obtain⟨gq,rfl,hcp⟩:=hap o_;have hszs2:=ac_ hP.mem.blk;have hM:=HMA.out wr hbw2;by_cases hl8:c<8
     . have x1:=hM.blk.cell (i:=1+c) o_;rw[if_neg o_,show 1+c - 1=c by omega]at x1;have hba:=g0_ nx (rdr c) o_ (by have:=hlr c hl8;omega);obtain⟨T,HT⟩:=hx__ (nx&&&rdr c);rw[HT.out]at hba;have hT:T<2048:=by
        rw[<-HT.out];have:nx&&&rdr c<=nx:=Nat.and_le_left;omega
       have HS1:Hid (m.succ (qs.getD ((8*k+c)/8) 0) ((8*k+c)%8)=swp 1 T):=by
        unfold Hid;rw[show(8*k+c)/8=k by omega,show(8*k+c)%8=c by omega,HQ.out];unfold Mach.succ Mach.step;rw[HSQ.out,Hmn.out,Hmb.out,Hmr.out,HNX.out,HT.out]
       have m0:=hP.mem.met.cell (i:=T) o_;have m1:=hP.mem.met.frozen T;have r0:=hP.rw.cell hl8;have r1:=hP.rw.frozen c;simp only[Nat.lt_irrefl,if_false]at r0;have HP:Hid (b5_ W0 w.heap.size wo.heap.size wr qs (.slice (some ⟨gq,0,none⟩) qs.length cp) va vn k (a0_ (m.tab qs).acc k) (b4_ (pn m.succ qs) k) (fun c'=>if c'<c then pn m.succ qs k c' else 0)):=hP;have HR:Hid (PRel Mach.good m.succ qs (8*k+c)):=hR;have HH:=hP.rw.lt;have HH2:=hP.lo;clear hP hR hap hcp hM hbw2;have d1:¬wo.heap.size=w.heap.size+1:=o_;have d2:¬w.heap.size+1=wo.heap.size:=o_;by_cases hmem:swp 1 T∈qs
       . have hmv:metv qs (swp 1 T)=qs.idxOf (swp 1 T)+1:=by simp[metv,hmem]
         have hil:=List.idxOf_lt_length_of_mem hmem;rw[hmv]at m0;obtain⟨ix,HX⟩:=hx__ (qs.idxOf (swp 1 T));rw[HX.out]at m0 hil;have hpn:Hid (pn m.succ qs k c=ix):=by
          have:=HS1.out;rw[show(8*k+c)/8=k by omega,show(8*k+c)%8=c by omega]at this;unfold Hid pn;rw[this];exact HX.out
         have HM:Hid (swp 1 T∈qs):=hmem;clear hmem hmv;have mb:(((ix+1:Nat):Int)==0)=false:=s_;go_wp2_with fail;go_roundw
         case rel=>
          have hm:m.succ (qs.getD ((8*k+c)/8) 0) ((8*k+c)%8)∈qs:=by rw[HS1.out];exact HM.out
          have hn:=(HP.out.old (c:=c) (v:=ix)).rcongr (r':=fun c'=>if c'<c+1 then pn m.succ qs k c' else 0) (fun x _=>by
           by_cases e:x=c
           . subst e;simp[hpn.out]
           . by_cases h':x<c
             . simp only[e,h',if_false,if_true];rw[if_pos o_]
             . simp only[e,h',if_false];rw[if_neg o_])
          exact⟨c+1,qs,o_,by go_num,hlt,HQ,HR.out.old o_ hm,hn⟩
         case measure=>simp[intOf];omega
       . have hmv:metv qs (swp 1 T)=0:=by simp[metv,hmem]
         rw[hmv]at m0;have HM:Hid (swp 1 T∉qs):=hmem;clear hmem hmv;have HPa:Hid (b5_ W0 w.heap.size wo.heap.size (wr.alloc (.cells #[.int .i64 (T:Int)] 3)) qs (.slice (some ⟨gq,0,none⟩) qs.length cp) va vn k (a0_ (m.tab qs).acc k) (b4_ (pn m.succ qs) k) (fun c'=>if c'<c then pn m.succ qs k c' else 0)):=HP.out.below ba__;have hna:=HPa.out.mem.own2;have hcells:Hid (ea_ qs++ [.int .i64 (T:Int)]=ea_ (qs++ [swp 1 T])):=by
          have:=q3_ qs (swp 1 T);rw[mo_]at this;exact this
         have HG:Hid (∀g cap w2,w2.ownsRow (w.heap.size+1+1) 3 1 (.slice (some ⟨g,0,none⟩) (qs.length+1) cap) (qs.length+1) (ea_ qs++ [.int .i64 (T:Int)])->
          (wr.alloc (.cells #[.int .i64 (T:Int)] 3)).grownBy w2 (Value.slice (some ⟨gq,0,none⟩) qs.length cp).ownBlock->((Value.slice (some ⟨gq,0,none⟩) qs.length cp).ownBlock=some g\/g=(wr.alloc (.cells #[.int .i64 (T:Int)] 3)).heap.size)->
          w2.cell? ⟨w.heap.size+1,T,none⟩=some (.int .i64 0)/\w2.frozen? ⟨w.heap.size+1,T,none⟩=false/\w2.cell? ⟨wo.heap.size,c,none⟩=some (.int .i64 0)/\w2.frozen? ⟨wo.heap.size,c,none⟩=false/\
          Hid (b5_ W0 w.heap.size wo.heap.size ((w2.setCell ⟨w.heap.size+1,T,none⟩ (.int .i64 ((qs.length:Int)+1))).setCell ⟨wo.heap.size,c,none⟩ (.int .i64 (qs.length:Int))) (qs++ [swp 1 T]) (.slice (some ⟨g,0,none⟩) (qs.length+1) cap) va vn k (a0_ (m.tab qs).acc k) (b4_ (pn m.succ qs) k) (fun x=>if x=c then qs.length else if x<c then pn m.succ qs k x else 0))):=by
          intro g cap w2 ho hg hf;rw[hcells.out]at ho;obtain⟨_,_,g3,_,_,g7,_⟩:=HPa.out.grown ho hg hf;refine⟨?_,g3.frozen _, ?_,g7.frozen _,HPa.out.new HM.out ho hg hf⟩
          . rw[g3.cell o_];simp[metv,HM.out]
          . rw[g7.cell hl8];simp
         go_wp2_with (at_builtin;refine ae_ _ rfl _ _ 24 rfl (w.heap.size+1+1) 3 i3 (.int .i64 0) 1 8 underlying24 hi3 hz3 hz31 hz32 rfl d_ _ qs.length (ea_ qs) rfl hna ⟨wr.heap.size,0,none⟩ 1 1 [.int .i64 (T:Int)] rfl rfl (cell_one_new _ _ _) (oc__ rfl) d_ u_ o_ s_ ?_;intro g cap w2 hown hgr hfr;obtain⟨f0,f1,f2,f3,HN⟩:=HG.out g cap w2 hown hgr hfr;clear hown hgr hfr);go_roundw
         case rel=>
          have hnm:m.succ (qs.getD ((8*k+c)/8) 0) ((8*k+c)%8)∉qs:=by rw[HS1.out];exact HM.out
          have hgd:Mach.good (m.succ (qs.getD ((8*k+c)/8) 0) ((8*k+c)%8)):=by
           rw[HS1.out];exact xw_ o_ hT
          have hnew:=HR.out.new o_ hnm hgd;rw[HS1.out]at hnew;have hpnew:pn m.succ (qs++ [swp 1 T]) k c=qs.length:=by
           have:=HS1.out;rw[show(8*k+c)/8=k by omega,show(8*k+c)%8=c by omega]at this;simp only[pn];rw[ce_ _ _ _ hlt,this,List.idxOf_append,if_neg HM.out];simp
          have hn:=HN.out.rcongr (r':=fun c'=>if c'<c+1 then pn m.succ (qs++ [swp 1 T]) k c' else 0) (fun x hx=>by
           by_cases e:x=c
           . subst e;simp[hpnew]
           . by_cases h':x<c
             . simp only[e,h',if_false,if_true];rw[if_pos o_,hn_ HR.out k x hx o_]
             . simp only[e,h',if_false];rw[if_neg o_])
          rw[<-ue_ (m:=m) (q:=swp 1 T) o_,<-lo_ (X:=pn m.succ (qs++ [swp 1 T])) (fun x c' hx hc'=>hn_ HR.out x c' hc' o_)]at hn;exact⟨c+1,qs++ [swp 1 T],o_,by go_num,s_,by unfold Hid;rw[ce_ _ _ _ hlt];exact HQ.out,hnew,hn⟩
         case measure=>simp[intOf];omega
     . have hc8:c=8:=o_;subst hc8;have e0:=(hcp k o_).trans (m2_ qs k hlt);rw[HQ.out,HSQ.out]at e0;have hba:=wo_ S lasts hS hL;obtain⟨ab,HAB⟩:=hx__ (S&&&lasts !=0);rw[HAB.out]at hba;have HP:Hid (b5_ W0 w.heap.size wo.heap.size wr qs (.slice (some ⟨gq,0,none⟩) qs.length cp) va vn k (a0_ (m.tab qs).acc k) (b4_ (pn m.succ qs) k) (fun c'=>if c'<8 then pn m.succ qs k c' else 0)):=hP;have HR:Hid (PRel Mach.good m.succ qs (8*k+8)):=hR;have HP3:Hid (b5_ W0 w.heap.size wo.heap.size wr.drew qs (.slice (some ⟨gq,0,none⟩) qs.length cp) va vn k (a0_ (m.tab qs).acc k) (b4_ (pn m.succ qs) k) (fun c'=>if c'<8 then pn m.succ qs k c' else 0)):=HP.out.below (Below.refl wr.heap.size wr).drew;have f2:=HP.out.rw;have c0:=f2.cell (i:=0) o_;have c1:=f2.cell (i:=1) o_;have c2:=f2.cell (i:=2) o_;have c3:=f2.cell (i:=3) o_;have c4:=f2.cell (i:=4) o_;have c5:=f2.cell (i:=5) o_;have c6:=f2.cell (i:=6) o_;have c7:=f2.cell (i:=7) o_;simp only[show(0:Nat)<8 from by decide,show(1:Nat)<8 from by decide,show(2:Nat)<8 from by decide,show(3:Nat)<8 from by decide,show(4:Nat)<8 from by decide,show(5:Nat)<8 from by decide,show(6:Nat)<8 from by decide,show(7:Nat)<8 from by decide,if_true]at c0 c1 c2 c3 c4 c5 c6 c7;have HA:=xt_ w.heap.size (w.heap.size+1+1) va vn k _ _ ab (pn m.succ qs k) wr.drew HP3.out.mem.blk HP3.out.mem.own0 HP3.out.mem.own1 o_ (by have:=HP3.out.mem.met.lt;omega) o_;unfold row8 at HA;clear hP hR hap hcp hM hbw2 f2 HP;go_wp2_with fail;go_region_with (go_at_call 138;refine HA.mono ?_;rintro e w6 ⟨rfl,va',vn',f0,f1,f2,f3,_,_⟩;have F1:Hid _:=HP3.out.add f0 f1 f2 f3;clear f0 f1 f2 f3)
       all_goals
        go_wp2_with fail;go_roundw
        case rel=>
         have f1:=F1.out;have ea:a0_ (m.tab qs).acc k++ [.bool ab]=a0_ (m.tab qs).acc (k+1):=by
          simp only[a0_,Mach.tab];rw[HQ.out,HSQ.out,Hml.out,HAB.out]
         have er:b4_ (pn m.succ qs) k++ [(.int .i64 ((pn m.succ qs k 0:Nat):Int)),(.int .i64 ((pn m.succ qs k 1:Nat):Int)),(.int .i64 ((pn m.succ qs k 2:Nat):Int)),(.int .i64 ((pn m.succ qs k 3:Nat):Int)),(.int .i64 ((pn m.succ qs k 4:Nat):Int)),(.int .i64 ((pn m.succ qs k 5:Nat):Int)),(.int .i64 ((pn m.succ qs k 6:Nat):Int)),(.int .i64 ((pn m.succ qs k 7:Nat):Int))]=b4_ (pn m.succ qs) (k+1):=by
          simp only[b4_];rfl
         rw[ea,er]at f1;exact⟨k+1,qs,_,_,o_,by go_num,by rw[show 8*(k+1)=8*k+8 by omega];exact HR.out,f1⟩
        case measure=>simp[intOf];omega
  . have he:k=ps.length:=o_;subst he;obtain⟨y0,y1,_,_⟩:=aa_ hP.blk;obtain⟨aa,ca,rfl,haa⟩:=af_ hP.own0;obtain⟨an,cn,rfl,han⟩:=af_ hP.own1;obtain⟨ga,rfl,_⟩:=haa hR.len;obtain⟨gn,rfl,_⟩:=han hR.len;have HP:Hid _:=hP;have HR:Hid (PRel Mach.good m.succ ps (8*ps.length)):=hR;have HY0:Hid _:=y0;have HY1:Hid _:=y1;clear hP hR hap y0 y1;go_wp2_with fail;go_ret;have hp:=HP.out;refine⟨hbw,ps,w.heap.size,ga,ca,gn,cn,HR.out,rfl,⟨HY0.out,HY1.out,fun x hx=> ?_,fun x c hx hc=> ?_⟩⟩
    . have hx':x<ps.length:=hx;rw[hp.own0.cellAt x o_];exact lp_ _ _ _ hx'
    . have hx':x<ps.length:=hx;rw[hp.own1.cellAt (x*8+c) o_];exact ps_ _ _ _ _ hx' hc
end Go.Proofs.YtpngikmcjkjdaaaGreatDoor
