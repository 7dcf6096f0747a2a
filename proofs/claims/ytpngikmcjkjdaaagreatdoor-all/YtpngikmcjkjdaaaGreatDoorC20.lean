import Derived.Deep.RegionWith
import Derived.Test.YtpngikmcjkjdaaaGreatDoorC11
set_option linter.unusedVariables false
set_option linter.unusedSimpArgs false
set_option maxRecDepth 20000
set_option maxHeartbeats 80000000
namespace Go.Proofs.YtpngikmcjkjdaaaGreatDoor
open Go.RowKit Tryz List Nat
variable {fs ps:List Nat} {x:List Value} {B b base cap g k n s:Nat} {A:Nat->Bool} {rb:Nat->Nat} {D:Nat->Nat->Bool} {v va vf vn:Value} {W w w2:World}
def xs_ (l:Nat)(fs:Nat->Nat)(D:Nat->Nat->Bool)(s:Nat)(w:World)(e:Ending)(w':World):Prop:=
 w'=w/\((∃k,k<l/\e= .returned (.int .i64 k)/\D (fs k) s=false/\∀j,j<k->D (fs j) s=true)\/(e= .returned (.int .i64 (-1))/\∀j,j<l->D (fs j) s=true))
theorem xt_ (ao:Option Addr)(gl l cl:Nat)(fs:Nat->Nat)(B g n:Nat)(rb:Nat->Nat)(D:Nat->Nat->Bool)(s:Nat)(w:World)(ha:0<l->ao=some ⟨gl,0,none⟩)(hl:∀i,i<l->w.cell? ⟨gl,i,none⟩=some (.int .i64 (fs i)))(hfs:∀i,i<l->fs i<n)
 (hm:c4_ w B g n n rb D) (hs:s<n) (hl0:l<=100000000) (hn:n<=100000000):
 Calls prog 104 #[.slice ao l cl,.slice (some ⟨g,0,none⟩) n n,.int .i64 s] w (xs_ l fs D s w):=by
 go_enter func104,ntmps104;go_wp2_with fail;go_loop [7] (fun k'=>∃k:Nat,k<=l/\k'= .int .i64 k/\∀j,j<k->D (fs j) s=true) (fun k'=>l - (intOf k').toNat)
 case atStart=>exact⟨0,o_,rfl,fun j hj=>absurd hj o_⟩
 case round=>
  obtain⟨k,t,rfl,c⟩:=hrel;by_cases h:k<l
  . obtain rfl:=ha o_;have o:=hl k h;have b:=hfs k h;obtain⟨m,f⟩:=δ (fs k);rw[f.out]at o b;have t0:=hm.top.cell b;rw[if_pos b]at t0;have r:=(hm.row m b).cell hs;obtain⟨p,d⟩:=δ (D m s);rw[d.out]at r;have a:Hid _:=c;clear c hm hl;cases p
    . go_wp2_with fail;go_ret;exact⟨rfl,.inl ⟨k,h,rfl,by rw[f.out];exact d.out,a.out⟩⟩
    . go_wp2_with fail;go_round
      case rel=>
       refine⟨k+1,o_,by go_num,fun j hj=> ?_⟩;by_cases e:j=k
       . subst e;rw[f.out];exact d.out
       . exact a.out j o_
      case measure=>exact c_
  . have q:k=l:=o_;subst q;have a:Hid _:=c;clear c hm hl;go_wp2_with fail;go_ret;exact⟨rfl,.inr ⟨rfl,a.out⟩⟩
theorem Κ.fq {M:γ}{S:Nat->Nat->Nat}{p:Nat}(h:Κ (h2_ M) S ps p):ps.length<=M.n:=i2_ M.n ps h.nd (fun x hx=>(h.inr x hx).1)
structure jj_ (W:World)(B:Nat)(w:World)(g n:Nat)(rb:Nat->Nat)(D:Nat->Nat->Bool)(vf:Value)(fs:List Nat):Prop where
 cz:Below B W w
 cQ:B<=w.heap.size
 ef:c4_ w B g n n rb D
 own:w.ownsRow B 3 1 vf fs.length (du_ fs)
theorem jj_.below (h:jj_ W B w g n rb D vf fs)(hb:Bl w w2):jj_ W B w2 g n rb D vf fs:=
 ⟨h.cz.trans (hb.mono h.cQ),Nat.le_trans h.cQ hb.size,h.ef.below hb,ao_ h.own hb⟩
theorem xu_ {t e:Nat}{f:Nat->Value}(h:w.rowIs b t n f)(ho:w.ownsRow base e s v k x)(hne:t≠e)(hg:w.grownBy w2 v.ownBlock):w2.rowIs b t n f:=by
 refine h.of_block (hg.block b h.lt (fun e'=> ?_));rcases ho.2 with ⟨rfl,_⟩|⟨g,i,j,rfl,_,a,_⟩
 . simp[Value.ownBlock]at e'
 . simp only[Value.ownBlock,Δ]at e';subst e';obtain⟨c,d,_,_⟩:=h;rw[d]at a;simp only[Δ,Obj.cells.injEq]at a;exact hne a.2.1
theorem c4_.grown {m:Nat}(h:c4_ w B g n k rb D)(ho:w.ownsRow base 3 s v m x)(hg:w.grownBy w2 v.ownBlock):c4_ w2 B g n k rb D:=
 ⟨xu_ h.top ho d_ hg,fun i hi=>xu_ (h.row i hi) ho d_ hg,h.inj,h.lg,h.lr⟩
theorem jj_.app (h:jj_ W B w g n rb D vf fs){gg:Nat}
 (hown:w2.ownsRow B 3 1 (.slice (some ⟨gg,0,none⟩) (fs.length+1) cap) (fs.length+1) (du_ fs++ [.int .i64 (s:Int)])) (hg:w.grownBy w2 vf.ownBlock):jj_ W B w2 g n rb D (.slice (some ⟨gg,0,none⟩) (fs.length+1) cap) (fs++ [s]):=
 ⟨h.cz.grown hg h.cQ (fun x e=>(h.own.lt x e).1),Nat.le_trans h.cQ hg.size,h.ef.grown h.own hg,by rw[md_]at hown;simpa using hown⟩
def ag4_ (L:List Nat->Bool)(w:World)(e:Ending)(w':World):Prop:=
 Bl w w'/\∃(U:ρ) (R:γ),ch_ R L/\e= .returned (.agg #[.slice (some ⟨U.ba,U.oa,none⟩) R.n U.ca,.slice (some ⟨U.bn,U.on,none⟩) R.n U.cn])/\π w' U R/\U.cP w.heap.size R.n
theorem ag5_ {M:γ}(hD:∀x y,x<M.n->y<M.n->(D x y=true↔e5_ M x y))(hfs:∀i,i<fs.length->fs.getD i 0<M.n)(hs:s<M.n)(hmem:cr M s∈fs.map (cr M)){w':World}{e:Ending}(h:xs_ fs.length (fun i=>fs.getD i 0) D s w e w'):
 e= .returned (.int .i64 ((fs.map (cr M)).idxOf (cr M s):Nat))/\w'=w:=by
 have b:=zw_ (M:=M) (fs:=fs) hD hfs hs;obtain⟨c,d⟩:=h;refine⟨?_,c⟩;rcases d with ⟨k,g,rfl,f,a⟩|⟨rfl,a⟩
 . rw[(b.1 k g f a).2]
 . exact absurd hmem (b.2 a)
theorem nq_ (V:ρ)(M:γ)(w:World)(hlo:1<=M.n)(hhi:M.n<=100000000)(hnx:∀i c,i<M.n->c<8->M.b7 i c<M.n)(hV:π w V M):
 Calls prog 67 #[.agg #[.slice (some ⟨V.ba,V.oa,none⟩) M.n V.ca,.slice (some ⟨V.bn,V.on,none⟩) M.n V.cn]] w
  (ag4_ M.b6 w):=by
 obtain⟨i3,aQ,aX,aY,aZ⟩:=info_parts e9_;obtain⟨i4,bq,bv,bw,bx⟩:=info_parts hc_;obtain⟨iR,br,bz,bA,bB⟩:=info_parts mn_;obtain⟨W,hW,BW,b0,b1⟩:=bl_ w #[.slice (some ⟨V.ba,V.oa,none⟩) M.n V.ca,.slice (some ⟨V.bn,V.on,none⟩) M.n V.cn] 41 #[.slice none 0 0,.slice none 0 0] 41;have bD:W.heap.size=w.heap.size+1+1:=by rw[hW];simp
 have aJ:=hV.below BW;go_enter func67,ntmps67;go_wp2_with fail;rw[<-hW];clear hW;refine(aot_ V M W hlo hhi hnx aJ).mono ?_;rintro e w1 ⟨az,g,K,D,rfl,hm,hD⟩;have bG:=az.size;have aS:c4_ w1 (w.heap.size+1+1) g M.n M.n K D:=⟨hm.top,hm.row,hm.inj,by have:=hm.lg;omega,fun i hi=>by have:=hm.lr i hi;omega⟩;have aN:Below (w.heap.size+1+1) W w1:=az.mono o_;have P0:jj_ W (w.heap.size+1+1) (w1.alloc (.cells #[.int .i64 0] 3)) g M.n K D (.slice (some ⟨w1.heap.size,0,none⟩) 1 1) [0]:=by
  refine⟨aN.alloc o_ _,s_,aS.below ξ, ?_⟩;exact World.ownsRow_lit (base:=w.heap.size+1+1) (e:=3) (size:=1) w1 #[.int .i64 0] 1 o_ d_ rfl
 have aP:h2_ M 0:=⟨o_,by have:=me_ M 0;omega⟩;have Q0:Κ (h2_ M) (crS M) (([0]:List Nat).map (cr M)) 0:=by
  have:([0]:List Nat).map (cr M)=[0]:=by simp[aP.2]
  rw[this];exact Κ.start aP
 go_wp2_with fail;clear hm aS az aN aJ;go_loopw [4,5,6,7,8] (fun vf k' _ _ _ wr=>∃(k:Nat) (fs:List Nat),k<=fs.length/\k'= .int .i64 k/\jj_ W (w.heap.size+1+1) wr g M.n K D vf fs/\Κ (h2_ M) (crS M) (fs.map (cr M)) (8*k)/\∀i,i<fs.length->fs.getD i 0<M.n)
  (fun _ k' _ _ _ _=>M.n+1 - (intOf k').toNat)
 case atStart=>exact⟨0,[0],i_,rfl,P0,Q0,fun i hi=>by
  have h0:i=0:=by simpa using hi
  rw[h0];simp;omega⟩
 case round=>
  obtain⟨k,fs,hk,rfl,a,d,F⟩:=hrel;clear P0 Q0;have aq:=d.fq;rw[length_map]at aq;obtain⟨af,cf,rfl,S⟩:=Β a.own;have f:=η BW a.cz;obtain⟨x0,x1,_,_⟩:=β ((a.cz.block _ o_).trans b0);have aR:0<fs.length:=by have:=d.len;rw[length_map]at this;omega
  by_cases Z:k<fs.length
  . have HF:Hid _:=a;have I:Hid _:=d;have m:Hid _:=F;clear a d F S;go_wp2_with fail;go_loopw [4,6,7,8] (fun vf c' _ _ wr=>∃(c:Nat) (fs:List Nat),c<=8/\c'= .int .i64 c/\k<fs.length/\jj_ W (w.heap.size+1+1) wr g M.n K D vf fs/\Κ (h2_ M) (crS M) (fs.map (cr M)) (8*k+c)/\∀i,i<fs.length->fs.getD i 0<M.n)
     (fun _ c' _ _ _=>8 - (intOf c').toNat)
    case atStart=>exact⟨0,fs,o_,rfl,Z,HF.out,I.out,m.out⟩
    case round=>
     clear HF I m Z aq aR;obtain⟨c,fs,hc,rfl,Z,a,d,F⟩:=hrel;have aq:=d.fq;rw[length_map]at aq;obtain⟨af,cf,rfl,S⟩:=Β a.own;obtain⟨b,rfl,ag⟩:=S o_;have f:=η BW a.cz;obtain⟨x0,x1,_,_⟩:=β ((a.cz.block _ o_).trans b0);have aa:=ld_ rfl ag;have a9:=α aa;have HF:Hid _:=a;have I:Hid _:=d;have m:Hid _:=F;by_cases Y:c<8
     . have O:=aa k Z;have y:=F k Z;obtain⟨r,ac⟩:=δ (fs.getD k 0);simp only at O;rw[ac.out]at O y;have y0:=(hV.below f).row r y;have y1:=(hV.below f).cT r c y Y;have J:=hnx r c y Y;obtain⟨s,HS⟩:=δ (M.b7 r c);rw[HS.out]at y1 J;have ap:Hid (crS M ((fs.map (cr M)).getD ((8*k+c)/8) 0) ((8*k+c)%8)=cr M s):=by
        unfold Hid;rw[show(8*k+c)/8=k by omega,show(8*k+c)%8=c by omega,zv_ M fs k c Z Y,ac.out,HS.out]
       have bt:=a.cQ;clear a d F S ag aa;go_wp2_with fail;go_quiet (fail);have aA:=HF.out.below (below_drewN μ nq);have HC:=xt_ (some ⟨b,0,none⟩) b fs.length cf (fun i=>fs.getD i 0) (w.heap.size+1+1) g M.n K D s (wr.drewN nq) (fun _=>rfl) (fun i hi=>a9.out i hi) (fun i hi=>m.out i hi) aA.ef J o_ hhi;have aw:Hid _:=aA;have ao:=zw_ (M:=M) (fs:=fs) hD m.out J;clear aA;go_wp2_with fail;refine HC.mono ?_;clear HC;rintro e E ⟨bu,bo⟩;obtain rfl:wr.drewN nq=E:=bu.symm;rcases bo with ⟨kk,bs,rfl,hd,al⟩|⟨rfl,al⟩
       . have aT:=(ao.1 kk bs hd al).1;have a7:Hid _:=aT;clear ao hd al aT;go_wp2_with fail;go_roundw
         case rel=>exact⟨c+1,fs,o_,by go_num,Z,aw.out,I.out.old (by rw[length_map];omega) (by rw[ap.out];exact a7.out),m.out⟩
         case measure=>exact c_
       . have aW:=ao.2 al;have a8:Hid _:=aW;have G:=(aw.out.below (μ.alloc ι (.cells #[.int .i64 (s:Int)] 3))).own;have a3:Hid _:=aw.out.below (μ.alloc ι (.cells #[.int .i64 (s:Int)] 3));clear ao al aW;go_wp2_with (at_builtin;refine Υ underlying24 aQ aX aY aZ G ?_;intro gg bC w3 B t z;have HO:Hid _:=B;have HG:Hid _:=t;clear B t z);go_roundw
         case rel=>
          have bp:h2_ M (cr M s):=⟨by have:=me_ M s;omega,zt_ M s⟩;have aV:=I.out.new (by rw[length_map];omega) (by rw[ap.out];exact a8.out) (by rw[ap.out];exact bp);rw[ap.out]at aV;refine⟨c+1,fs++ [s],o_,by go_num,s_,by simpa using a3.out.app HO.out HG.out,by rw[<-Nat.add_assoc];simpa using aV,fun i hi=> ?_⟩;by_cases e:i<fs.length
          . rw[b8_ _ _ _ e];exact m.out i e
          . have:i=fs.length:=by simp at hi;omega
            subst this;simp[gd_,J]
         case measure=>exact c_
     . have T:c=8:=o_;subst T;clear a d F S ag aa;go_wp2_with fail;go_roundw
       case rel=>exact⟨k+1,fs,o_,by go_num,HF.out,by rw[show 8*(k+1)=8*k+8 by omega];exact I.out,m.out⟩
       case measure=>exact c_
  . have T:k=fs.length:=o_;subst T;obtain⟨x,ad⟩:=δ (fs.map (cr M));rw[ad.out]at d;have aC:x.length=fs.length:=by rw[<-ad.out];simp
    rw[<-aC]at d;have hL:=zu_ d;obtain⟨A,HA⟩:∃A:Nat->Bool,Hid (A=fun k=>M.acc (fs.getD k 0)):=⟨_,rfl⟩;obtain⟨X,HX⟩:∃X:Nat->Nat->Nat,Hid (X=(hm_ M x).b7):=⟨_,rfl⟩;have bc:Hid (∀k,k<fs.length->(hm_ M x).acc k=A k):=by
     intro k hk;rw[HA.out];show M.acc (x.getD k 0)=M.acc (fs.getD k 0)
     rw[<-ad.out,s5_ M fs k hk];exact(ke_ M _).acc
    have bf:Hid (∀k c,k<fs.length->c<8->cr M (M.b7 (fs.getD k 0) c)∈x/\x.idxOf (cr M (M.b7 (fs.getD k 0) c))=X k c):=by
     intro k c hk hc;have h1:=(d.dt (8*k+c) o_).2;rw[show(8*k+c)/8=k by omega,show(8*k+c)%8=c by omega]at h1;have h2:=zv_ M fs k c hk hc;rw[ad.out]at h2;rw[h2]at h1;refine⟨h1, ?_⟩;rw[HX.out];show _=pn (crS M) x k c
     unfold pn;rw[h2]
    have HL:Hid _:=hL;have m:Hid _:=F;obtain⟨b,rfl,ag⟩:=S aR;have aa:=ld_ rfl ag;rename World=>wo
    obtain⟨o,aK,ak,bH,d0⟩:=ν wo #[.slice none 0 0,.slice none 0 0] 41;have d1:o.heap[w.heap.size]? =some (.cells #[.slice (some ⟨V.ba,V.oa,none⟩) M.n V.ca,.slice (some ⟨V.bn,V.on,none⟩) M.n V.cn] 41 (0,0)):=(ak.block _ (by have:=a.cQ;omega)).trans ((a.cz.block _ o_).trans b0);have d2:o.heap[w.heap.size+1]? =some (.cells #[.slice none 0 0,.slice none 0 0] 41 (0,0)):=(ak.block _ (by have:=a.cQ;omega)).trans ((a.cz.block _ o_).trans b1);have aI:=a.below ak;have aO:Bl w o:=f.trans (ak.mono (by have:=a.cQ;omega));have aU:=aa.below ak;have bt:=a.cQ;have B0:ak_ o wo.heap.size o (.slice none 0 0) (.slice none 0 0) 0 0 A (fun _=>0) (fun _=>0) X:=ak_.start μ d0;have ai:Hid _:=aI;have a4:Hid (b<wo.heap.size):=(a.own.lt b rfl).2;have a5:=α a.ef.top.lt;have a6:Hid (∀i,i<M.n->K i<wo.heap.size):=fun i hi=>(a.ef.row i hi).lt
    have ax:=α aU;clear a d hL F S ag aa f aU aI;go_upto_region 14 with fail;rw[<-aK];clear aK;go_wp2_with fail;go_loopw [10,11,12,13] (fun k' _ _ _ wi=>∃(k:Nat) (va L:Value) (R C:Nat->Nat),k<=fs.length/\k'= .int .i64 k/\ak_ o wo.heap.size wi va L k k A R C X)
     (fun k' _ _ _ _=>fs.length - (intOf k').toNat)
    case atStart=>exact⟨0,_,_,_,_,o_,rfl,B0⟩
    case round=>
     obtain⟨k,va,L,R,C,bE,rfl,P⟩:=hrel;clear B0;have l:=P.two.cz;have f:=η aO l;obtain⟨x0,x1,_,_⟩:=β ((l.block _ o_).trans d1);obtain⟨y0,y1,z0,z1⟩:=β P.two.cg;have bJ:=κ P.two.cg;by_cases au:k<fs.length
     . have aB:b<wo.heap.size:=a4.out;have O:wr.cell? ⟨b,k,none⟩=some (.int .i64 (fs.getD k 0)):=by
        rw[l.cell (p:=⟨b,k,none⟩) aB];exact ax.out k au
       have y:=m.out k au;have av:Hid (A k=M.acc (fs.getD k 0)):=by unfold Hid;rw[HA.out]
       have aL:=fun c=>bf.out k c au
       obtain⟨r,ac⟩:=δ (fs.getD k 0);rw[ac.out]at O y av;have a0:=(hV.below f).acc r y;obtain⟨bb,a1⟩:=δ (M.acc r);rw[a1.out]at a0 av;have bg:Hid _:=aL;have an:Hid (ak_ o wo.heap.size ((wr.alloc (.cells #[.bool bb] 4)).drew) va L k k A R C X):=P.below (ξ.drew);have G:=an.out.two.cB;have aD:Hid (∀g ae E,E.ownsRow (wo.heap.size+1) 4 1 (.slice (some ⟨g,0,none⟩) (k+1) ae) (k+1) (aa_ A k++ [.bool bb])->
        ((wr.alloc (.cells #[.bool bb] 4)).drew).grownBy E va.ownBlock->(va.ownBlock=some g\/g=wr.heap.size+1)->
        ak_ o wo.heap.size (E.setCell ⟨wo.heap.size,0,none⟩ (.slice (some ⟨g,0,none⟩) (k+1) ae)) (.slice (some ⟨g,0,none⟩) (k+1) ae) L (k+1) k A R C X):=by
        intro g ae E ho hg hf;rw[<-av.out]at ho;refine an.out.acc ho hg ?_;rcases hf with hf|hf
        . exact .inl hf
        . right;rw[hf];simp
       clear P aL;go_upto_region 17 with fail;go_cut [65] (fun _ wc=>∃am,Hid (ak_ o wo.heap.size wc am L (k+1) k A R C X))
       case first=>
        go_region_law
         ((refine step_append_lies _ (by rfl) _ _ _ (by rfl) (wo.heap.size+1) 4 i4 (.bool false) 1 1 underlying38 bq bv bw bx rfl d_ va k (aa_ A k) (by rfl) G ⟨wr.heap.size,0,none⟩ 1 1 [.bool bb] (by rfl) (by rfl) (cell_one_new _ _ _) (gt_ rfl) d_ u_ o_ s_ (wr.heap.size+1) i_ ?_;intro g ae E B t z bF;obtain⟨bi,bj,bk,bl⟩:=β (an.out.two.cM t);have aj:Hid _:=z;clear z))
        all_goals go_wp2_with fail
        all_goals go_meet
        all_goals exact⟨_,aD.out g ae E B t aj.out⟩
       case rest=>
        obtain⟨am,aG⟩:=hcut;clear aD an G x0 x1 y0 y1 z0 z1 f l O a0;go_wp2_with fail;go_loopw [11,12,13] (fun vr c' _ wi=>∃c:Nat,c<=8/\c'= .int .i64 c/\ak_ o wo.heap.size wi am L (k+1) k A R C X/\
         wi.ownsRow (wo.heap.size+1) 3 1 vr c (Λ (X k) c)/\∀j,j<k->vr.ownBlock≠some (R j))
         (fun _ c' _ _=>8 - (intOf c').toNat)
        case atStart=>exact⟨0,o_,rfl,aG.out,a8_,by intro j _ h;simp[Value.ownBlock]at h⟩
        case round=>
         clear aG;obtain⟨c,hc,rfl,Q,hr,hd⟩:=hrel;have l:=Q.two.cz;have f:=η aO l;obtain⟨x0,x1,_,_⟩:=β ((l.block _ o_).trans d1);have bI:=κ Q.two.cg;by_cases Y:c<8
         . have O:wr.cell? ⟨b,k,none⟩=some (.int .i64 r):=by
            rw[<-ac.out,l.cell (p:=⟨b,k,none⟩) aB];exact ax.out k au
           have y0:=(hV.below f).row r y;have y1:=(hV.below f).cT r c y Y;have J:=hnx r c y Y;have ah:=bg.out c Y;rw[ac.out]at ah;obtain⟨s,HS⟩:=δ (M.b7 r c);rw[HS.out]at y1 J ah;obtain⟨pv,aF⟩:=δ (X k c);rw[aF.out]at ah;have aE:c4_ wr (w.heap.size+1+1) g M.n M.n K D:=by
            refine⟨ai.out.ef.top.of_block (l.block _ a5.out),fun i hi=>(ai.out.ef.row i hi).of_block (l.block _ (a6.out i hi)),ai.out.ef.inj,ai.out.ef.lg,ai.out.ef.lr⟩
           have HC:∀q:Nat,Calls prog 104 #[.slice (some ⟨b,0,none⟩) fs.length cf,.slice (some ⟨g,0,none⟩) M.n M.n,.int .i64 s] (wr.drewN q) fun e w'=>e= .returned (.int .i64 (pv:Nat))/\w'=wr.drewN q:=by
            intro q;have H:Bl wr (wr.drewN q):=below_drewN μ q;have:=(xt_ (some ⟨b,0,none⟩) b fs.length cf (fun i=>fs.getD i 0) (w.heap.size+1+1) g M.n K D s (wr.drewN q) (fun _=>rfl) (fun i hi=>by rw[H.cell (p:=⟨b,i,none⟩) (show b<wr.heap.size by omega),l.cell (p:=⟨b,i,none⟩) aB];exact ax.out i hi) (fun i hi=>m.out i hi) (aE.below H) J o_ hhi).mono (fun e w' h=>ag5_ hD m.out J (by rw[ad.out];exact ah.1) h);rw[ad.out,ah.2]at this;exact this
           have ab:Hid _:=Q;have HD:=α hd;have be:Hid _:=hr;clear Q hd hr f l aE ah;go_wp2_with fail;go_quiet ((go_at_call 104;exact Calls.quiet_of_same (HC _)));clear HC x0 x1 O y0 y1;have H:Bl wr (wr.drewN nq):=below_drewN μ nq;have a2:Hid (ak_ o wo.heap.size ((wr.drewN nq).alloc (.cells #[.int .i64 (pv:Int)] 3)) am L (k+1) k A R C X):=(ab.out.below H).below ξ;have G:=(ao_ be.out H).alloc (.cells #[.int .i64 (pv:Int)] 3);have bd:Hid (∀j,j<k->R j<wr.heap.size):=fun j hj=>((ab.out.rows j hj).lt (R j) rfl).2
           clear H;go_wp2_with (at_builtin;refine Υ underlying24 aQ aX aY aZ G ?_;intro g2 bh E B t z;have HO:Hid _:=B;have HG:Hid _:=t;have aj:Hid _:=z;clear B t z);go_roundw
           case rel=>
            have ho:=HO.out;rw[show Λ (X k) c++ [.int .i64 (pv:Int)]=Λ (X k) (c+1)by rw[kp_,aF.out]]at ho;refine⟨c+1,o_,by go_num,a2.out.grown G HD.out HG.out,ho, ?_⟩;intro j hj e;simp only[Value.ownBlock,Δ]at e;rcases aj.out with h'|h'
            . exact HD.out j hj (by subst e;exact h')
            . have:=bd.out j hj;simp at h';omega
           case measure=>exact c_
         . have T:c=8:=o_;subst T;obtain⟨ar,ay,rfl,aM⟩:=Β hr;obtain⟨gr,rfl,_⟩:=aM o_;obtain⟨y0,y1,_,_⟩:=β Q.two.cg;have ab:Hid (ak_ o wo.heap.size (wr.alloc (.cells #[.slice (some ⟨gr,0,none⟩) 8 ay] 24)) am L (k+1) k A R C X):=Q.below ξ;have G:=ab.out.two.cA;have I:Hid ((wr.alloc (.cells #[.slice (some ⟨gr,0,none⟩) 8 ay] 24)).ownsRow (wo.heap.size+1) 3 1 (.slice (some ⟨gr,0,none⟩) 8 ay) 8 (Λ (X k) 8)):=hr.alloc _;clear Q hd hr f aM;go_wp2_with (at_builtin;refine Υ underlying39 br bz bA bB G ?_;intro g2 bh E B t z;obtain⟨bi,bj,bk,bl⟩:=β (ab.out.two.cN t);have HO:Hid _:=B;have HG:Hid _:=t;have aj:Hid _:=z;clear B t z);go_roundw
           case rel=>
            exact⟨k+1,_,_,_,_,o_,by go_num,ab.out.b7 I.out HO.out HG.out aj.out⟩
           case measure=>exact c_
     . have T:k=fs.length:=o_;subst T;obtain⟨U,rfl,rfl,hT,bm⟩:=P.done (N:=hm_ M x) o_ aC bc.out (fun i c hi hc=>by rw[HX.out]);have H:wr.heap[w.heap.size+1]? =some (.cells #[.slice none 0 0,.slice none 0 0] 41 (0,0)):=(l.block _ o_).trans d2;obtain⟨q0,q1,p0,p1⟩:=β H;have HT:=α hT;have HB:Hid _:=f;clear P hT;go_wp2_with fail;obtain⟨r1,r2,r3⟩:=Φ (u:= .slice (some ⟨U.ba,U.oa,none⟩) fs.length U.ca) (v:= .slice (some ⟨U.bn,U.on,none⟩) fs.length U.cn) H;refine bodyPost_ret (v:= .agg #[.slice (some ⟨U.ba,U.oa,none⟩) fs.length U.ca,.slice (some ⟨U.bn,U.on,none⟩) fs.length U.cn]) (by simp[results,results67,go_sem,r1,r2]) rfl ?_;have hn:(hm_ M x).n=fs.length:=aC;have aH:U.cP (wo.heap.size+1) (hm_ M x).n:=by rw[hn];exact bm
       refine⟨av_ HB.out o_ _ _,U,hm_ M x,HL.out,by rw[hn],HT.out.res aH o_ _ _,aH.mono o_⟩
def xv_ (L:List Nat->Bool)(w:World)(e:Ending)(w':World):Prop:=
 Bl w w'/\∃(U:ρ) (R:γ),ch_ R L/\e= .returned (.tuple #[.agg #[.slice (some ⟨U.ba,U.oa,none⟩) R.n U.ca,.slice (some ⟨U.bn,U.on,none⟩) R.n U.cn],.int .i64 0])/\π w' U R
theorem ag6_ (V:ρ)(M:γ)(w:World)(hM:M.Ok)(hV:π w V M):
 Calls prog 37 #[.agg #[.slice (some ⟨V.ba,V.oa,none⟩) M.n V.ca,.slice (some ⟨V.bn,V.on,none⟩) M.n V.cn]] w (xv_ M.b6 w):=by
 have z:=hM.lo;have I:=hM.hi;obtain⟨W,h,d,f,l⟩:=bl_ w #[.slice (some ⟨V.ba,V.oa,none⟩) M.n V.ca,.slice (some ⟨V.bn,V.on,none⟩) M.n V.cn] 41 #[.slice none 0 0,.slice none 0 0] 41;have E:w.heap.size+1<W.heap.size:=by rw[h];simp
 have g:=hV.below d;obtain⟨i,j,_,_⟩:=β f;go_enter func37,ntmps37;go_wp2_with fail;rw[<-h];clear h;refine(kn_ V M W hM g).mono ?_;rintro e C ⟨rfl,a⟩;have F:=a.size;have m:=(a.block _ o_).trans f;have o:=(a.block _ o_).trans l;have k:=nq_ V M C z o_ hM.nx (g.below a);have r:=η d a;clear i j f l a d g;obtain⟨i,j,_,_⟩:=β m;go_wp2_with fail;refine k.mono ?_;clear k;rintro e D ⟨c,U,R,p,rfl,q,y⟩;have G:=c.size;have d1:=(c.block _ o_).trans o;have s:=η r c;obtain⟨L,N,J,K⟩:=β d1;have t:Hid _:=p;have x:Hid _:=q;clear p q c i j m o;have H:w.heap.size+1<D.heap.size:=o_;go_wp2_with fail;obtain⟨A,B⟩:=mo_ (u:= .slice (some ⟨U.ba,U.oa,none⟩) R.n U.ca) (v:= .slice (some ⟨U.bn,U.on,none⟩) R.n U.cn) d1 (.cells #[.slice (some ⟨U.ba,U.oa,none⟩) R.n U.ca,.slice (some ⟨U.bn,U.on,none⟩) R.n U.cn] 41);refine bodyPost_ret (v:= .tuple #[.agg #[.slice (some ⟨U.ba,U.oa,none⟩) R.n U.ca,.slice (some ⟨U.bn,U.on,none⟩) R.n U.cn],.int .i64 0]) (by simp[results,results37,go_sem,A,B]) rfl ?_;exact⟨(av_ s (b:=w.heap.size+1) o_ _ _).alloc s_ _,U,R,t.out,rfl,(x.out.res y (b:=w.heap.size+1) o_ _ _).below ξ⟩
theorem ag7_ (r:aj_)(A:Nat->Bool)(X:Nat->Nat->Int)(w:World)(h:az_ w r A X)(hok:Ο r X=false):
 Calls prog 37 #[.agg #[.slice r.aa r.na r.ca,.slice r.an r.nn r.cn]] w
  fun e w'=>e= .returned (.tuple #[.agg #[.slice none 0 0,.slice none 0 0],.int .i64 6])/\Bl w w':=by
 obtain⟨W,c,f,-,g⟩:=bl_ w #[.slice r.aa r.na r.ca,.slice r.an r.nn r.cn] 41 #[.slice none 0 0,.slice none 0 0] 41;have n:w.heap.size+1<W.heap.size:=by rw[c];simp
 have a:=lk_ r A X W (h.below f);rw[hok]at a;clear h hok;go_enter func37,ntmps37;go_wp2_with fail;rw[<-c];clear c;refine a.mono ?_;rintro e t ⟨rfl,d⟩;have i:=(d.block _ o_).trans g;have j:=η f d;obtain⟨q,s,o,p⟩:=β i;have k:Hid _:=av_ j (b:=w.heap.size+1) o_ (.slice none 0 0) (.slice none 0 0);clear a d g;go_wp2_with fail;obtain⟨_,m,l⟩:=Φ (u:= .slice none 0 0) (v:= .slice none 0 0) i;refine bodyPost_ret (v:= .tuple #[.agg #[.slice none 0 0,.slice none 0 0],.int .i64 6]) (by simp[results,results37,go_sem,l,m]) rfl ?_;exact⟨rfl,k.out⟩
theorem ag8_ (r:aj_)(A:Nat->Bool)(X:Nat->Nat->Int)(w:World)(h:az_ w r A X)(hok:Ο r X=false):
 Calls prog 39 #[.agg #[.slice r.aa r.na r.ca,.slice r.an r.nn r.cn]] w
  fun e w'=>e= .returned (.tuple #[.agg #[.slice none 0 0,.slice none 0 0],.int .i64 6])/\Bl w w':=by
 obtain⟨W,c,f,-,g⟩:=bl_ w #[.slice r.aa r.na r.ca,.slice r.an r.nn r.cn] 41 #[.slice none 0 0,.slice none 0 0] 41;have n:w.heap.size+1<W.heap.size:=by rw[c];simp
 have a:=lk_ r A X W (h.below f);rw[hok]at a;clear h hok;go_enter func39,ntmps39;go_wp2_with fail;rw[<-c];clear c;refine a.mono ?_;rintro e t ⟨rfl,d⟩;have i:=(d.block _ o_).trans g;have j:=η f d;obtain⟨q,s,o,p⟩:=β i;have k:Hid _:=av_ j (b:=w.heap.size+1) o_ (.slice none 0 0) (.slice none 0 0);clear a d g;go_wp2_with fail;obtain⟨_,m,l⟩:=Φ (u:= .slice none 0 0) (v:= .slice none 0 0) i;refine bodyPost_ret (v:= .tuple #[.agg #[.slice none 0 0,.slice none 0 0],.int .i64 6]) (by simp[results,results39,go_sem,l,m]) rfl ?_;exact⟨rfl,k.out⟩
def l6_ (M:γ):γ:=⟨M.n,fun i=> !M.acc i,M.b7⟩
structure iu_ (W:World)(b:Nat)(w:World)(va vn:Value)(k:Nat)(A:Nat->Bool):Prop where
 cz:Below b W w
 cg:w.heap[b]? =some (.cells #[va,vn] 41 (0,0))
 own:w.ownsRow (b+1) 4 1 va k (aa_ A k)
theorem iu_.below (h:iu_ W b w va vn k A)(hb:Bl w w2):iu_ W b w2 va vn k A:=
 ⟨h.cz.trans (hb.mono (by have:=κ h.cg;omega)),by rw[hb.block _ (κ h.cg)];exact h.cg,ao_ h.own hb⟩
theorem iu_.app (h:iu_ W b w va vn k A)(hown:w2.ownsRow (b+1) 4 1 (.slice (some ⟨g,0,none⟩) (k+1) cap) (k+1) (aa_ A k++ [.bool (A k)]))(hg:w.grownBy w2 va.ownBlock):
 w2.heap[b]? =some (.cells #[va,vn] 41 (0,0))/\iu_ W b (w2.setCell ⟨b,0,none⟩ (.slice (some ⟨g,0,none⟩) (k+1) cap)) (.slice (some ⟨g,0,none⟩) (k+1) cap) vn (k+1) A:=by
 have d:=κ h.cg;have c:=fun x e=>h.own.lt x e
 have a:w2.heap[b]? =some (.cells #[va,vn] 41 (0,0)):=by
  rw[hg.block _ d (fun e=>by have:=(c _ e.symm).1;omega)];exact h.cg
 exact⟨a,(h.cz.grown hg o_ (fun x e=>by have:=(c x e).1;omega)).setCell (p:=⟨b,0,none⟩) ι _,cb_ a,ownsRow_setCell_below hown i_ _⟩
theorem ag9_ (V:ρ)(M:γ)(w:World)(hM:M.Ok)(hV:π w V M):
 Calls prog 39 #[.agg #[.slice (some ⟨V.ba,V.oa,none⟩) M.n V.ca,.slice (some ⟨V.bn,V.on,none⟩) M.n V.cn]] w (xv_ (fun x=> !M.b6 x) w):=by
 obtain⟨i4,an,ap,aq,ar⟩:=info_parts hc_;have l1:=hM.lo;have l2:=hM.hi;obtain⟨W,J,E,H,O⟩:=bl_ w #[.slice (some ⟨V.ba,V.oa,none⟩) M.n V.ca,.slice (some ⟨V.bn,V.on,none⟩) M.n V.cn] 41 #[.slice none 0 0,.slice none 0 0] 41;have ay:w.heap.size+1<W.heap.size:=by rw[J];simp
 have Y:=hV.below E;obtain⟨h,j,_,_⟩:=β H;go_enter func39,ntmps39;go_wp2_with fail;rw[<-J];clear J;refine(kn_ V M W hM Y).mono ?_;rintro e a ⟨rfl,r⟩;have aA:=r.size;have I:=(r.block _ o_).trans H;have P:=(r.block _ o_).trans O;have ah:=η E r;clear h j H O r E Y;obtain⟨h,j,_,_⟩:=β I;go_upto_region 5 with fail;obtain⟨q,ab,y,aB,d0⟩:=ν a #[.slice none 0 0,.slice none 0 0] 41;have d1:=(y.block _ o_).trans I;have d2:=(y.block _ o_).trans P;have ai:=η ah y;rw[<-ab];clear ab I P h j y;obtain⟨h,j,_,_⟩:=β d1;obtain⟨A,B,C,D⟩:=β d0;have L:iu_ q a.heap.size (q.setCell ⟨a.heap.size,1,none⟩ (.slice (some ⟨V.bn,V.on,none⟩) M.n V.cn)) (.slice none 0 0) (.slice (some ⟨V.bn,V.on,none⟩) M.n V.cn) 0 (fun i=> !M.acc i):=
  ⟨μ.setCell (p:=⟨a.heap.size,1,none⟩) ι _,fr_ d0,a8_⟩
 go_wp2_with fail;clear h j A B C D d0;go_loopw [6] (fun k' wr=>∃(k:Nat) (o:Value),k<=M.n/\k'= .int .i64 k/\iu_ q a.heap.size wr o (.slice (some ⟨V.bn,V.on,none⟩) M.n V.cn) k (fun i=> !M.acc i)) (fun k' _=>M.n - (intOf k').toNat)
 case atStart=>exact⟨0,_,o_,rfl,L⟩
 case round=>
  obtain⟨k,o,hk,rfl,d⟩:=hrel;clear L;have m:=η ai d.cz;obtain⟨h,j,_,_⟩:=β ((d.cz.block _ o_).trans d1);obtain⟨A,B,C,D⟩:=β d.cg;have aE:=κ d.cg;by_cases ao:k<M.n
  . have N:=(hV.below m).acc k ao;obtain⟨t,K⟩:=δ (M.acc k);rw[K.out]at N;have G:Hid (iu_ q a.heap.size ((wr.alloc (.cells #[.bool (!t)] 4)).drew) o (.slice (some ⟨V.bn,V.on,none⟩) M.n V.cn) k (fun i=> !M.acc i)):=d.below (ξ.drew);have af:=G.out.own;have F:Hid (∀(g l:Nat) (f:World),f.ownsRow (a.heap.size+1) 4 1 (.slice (some ⟨g,0,none⟩) (k+1) l) (k+1) (aa_ (fun i=> !M.acc i) k++ [.bool (!t)])->((wr.alloc (.cells #[.bool (!t)] 4)).drew).grownBy f o.ownBlock->
     f.heap[a.heap.size]? =some (.cells #[o,.slice (some ⟨V.bn,V.on,none⟩) M.n V.cn] 41 (0,0))/\iu_ q a.heap.size (f.setCell ⟨a.heap.size,0,none⟩ (.slice (some ⟨g,0,none⟩) (k+1) l)) (.slice (some ⟨g,0,none⟩) (k+1) l) (.slice (some ⟨V.bn,V.on,none⟩) M.n V.cn) (k+1) (fun i=> !M.acc i)):=by
     intro g l f ho hg;rw[<-K.out]at ho;exact G.out.app ho hg
    clear d m;go_upto_region 9 with fail;go_region_law
     ((refine step_append_lies _ (by rfl) _ _ _ (by rfl) (a.heap.size+1) 4 i4 (.bool false) 1 1 underlying38 an ap aq ar rfl d_ o k (aa_ (fun i=> !M.acc i) k) (by rfl) af ⟨wr.heap.size,0,none⟩ 1 1 [.bool (!t)] (by rfl) (by rfl) (cell_one_new _ _ _) (gt_ rfl) d_ u_ o_ s_ (wr.heap.size+1) i_ ?_;intro g l f ag ae al az;obtain⟨au,av,aw,ax⟩:=β (F.out g l f ag ae).1;clear al))
    all_goals
     have ak:Hid _:=(F.out g l f ag ae).2;clear F G af h j A B C D N;go_wp2_with fail;go_roundw
     case rel=>exact⟨k+1,_,o_,by go_num,ak.out⟩
     case measure=>exact c_
  . have he:k=M.n:=o_;subst he;obtain⟨aa,ca,rfl,ac⟩:=Β d.own;obtain⟨S,rfl,ad⟩:=ac o_;have Z:π wr ⟨S,0,ca,V.bn,V.on,V.cn,V.rb,V.ro,V.rc⟩ (l6_ M):=by
     refine⟨fun i hi=> ?_,fun i hi=>(hV.below m).row i hi,fun i c hi hc=>(hV.below m).cT i c hi hc⟩;have am:i<M.n:=hi;simp only[Nat.zero_add];rw[ad i o_,n8_ _ _ _ am];rfl
    have s:=nq_ ⟨S,0,ca,V.bn,V.on,V.cn,V.rb,V.ro,V.rc⟩ (l6_ M) wr l1 (by show M.n<=100000000;omega) hM.nx Z;have hn:(l6_ M).n=M.n:=rfl;rw[hn]at s;simp only at s;have e2:=(d.cz.block _ o_).trans d2;have HB:Hid _:=m;clear d ac ad Z m;go_wp2_with fail;refine s.mono ?_;clear s;rintro e w3 ⟨z,U,R,T,rfl,X,hF⟩;have aC:=z.size;have Q:=(z.block _ o_).trans e2;have aj:=η HB.out z;obtain⟨q0,q1,p0,p1⟩:=β Q;have HR:Hid _:=T;have HT:Hid _:=X;clear T X z h j A B C D;have aD:w.heap.size+1<w3.heap.size:=o_;go_wp2_with fail;obtain⟨r1,r2⟩:=mo_ (u:= .slice (some ⟨U.ba,U.oa,none⟩) R.n U.ca) (v:= .slice (some ⟨U.bn,U.on,none⟩) R.n U.cn) Q (.cells #[.slice (some ⟨U.ba,U.oa,none⟩) R.n U.ca,.slice (some ⟨U.bn,U.on,none⟩) R.n U.cn] 41);refine bodyPost_ret (v:= .tuple #[.agg #[.slice (some ⟨U.ba,U.oa,none⟩) R.n U.ca,.slice (some ⟨U.bn,U.on,none⟩) R.n U.cn],.int .i64 0]) (by simp[results,results39,go_sem,r1,r2]) rfl ?_;exact⟨(av_ aj (b:=w.heap.size+1) o_ _ _).alloc s_ _,U,R,HR.out,rfl,(HT.out.res hF (b:=w.heap.size+1) o_ _ _).below ξ⟩
theorem aha_ {m:cw_}{q:Nat}(hk:k<=ps.length):aa_ (m.tab (ps++ [q])).acc k=aa_ (m.tab ps).acc k:=by
 induction k with
 |zero=>rfl
 |succ k ih=>
  simp only[aa_];rw[ih o_];simp only[cw_.tab];rw[b8_ _ _ _ o_]
theorem ahb_ (S L:Nat)(hS:S<2048)(hL:L<2048):(bits BinOp.and IntKind.i64 (S:Int) (L:Int) !=0)=(S&&&L !=0):=by
 rw[oi_ S L o_ o_,Bool.eq_iff_iff];simp
theorem ahc_ (bm gb n cap:Nat)(cj cw:Nat->Nat)(dc:Nat)(w:World)(hn:n<=11)(hn1:1<=n)(hL:dc<2048)(h:c6_ w bm (.slice (some ⟨gb,0,none⟩) n cap) n cj cw):
 Calls prog 145 #[.pointer (some ⟨bm,0,none⟩),.int .i64 1,.int .i64 dc] w
  fun e w'=>Bl w w'/\∃ps gw ga ca gn cn,Κ cw_.good (cw_.succ ⟨n,cj,cw,dc⟩) ps (8*ps.length)/\e= .returned (.pointer (some ⟨gw,0,none⟩))/\gj_ w' gw ga ca gn cn (cw_.tab ⟨n,cj,cw,dc⟩ ps):=by
 have hz:=acf_;obtain⟨m,H⟩:∃m:cw_,Hid ((⟨n,cj,cw,dc⟩:cw_)=m):=⟨_,rfl⟩;rw[H.out];obtain⟨i3,aH,aP,aQ,aR⟩:=info_parts e9_;have az:Hid (m.n=n):=by unfold Hid;rw[<-H.out]
 have ax:Hid (m.cj=cj):=by unfold Hid;rw[<-H.out]
 have aA:Hid (m.cw=cw):=by unfold Hid;rw[<-H.out]
 have ay:Hid (m.dc=dc):=by unfold Hid;rw[<-H.out]
 obtain⟨f,W,af,b3,b4⟩:=bl_ w #[.slice none 0 0,.slice none 0 0] 169 (zs 2048) 222;have aB:f.heap.size=w.heap.size+1+1:=by rw[W];simp
 have P:f.rowIs (w.heap.size+1) 222 2048 (fun _=> .int .i64 0):=⟨_,b4,by simp[zs],fun i hi=>by simp[zs,hi]⟩;have s0:=P.cell (i:=1) o_;have s1:=P.frozen 1;have R4:=α P;clear P b4;go_enter func145,ntmps145;go_upto_region 3 with fail;rw[<-W];clear W hz;go_wp2_with fail;clear s0 s1;obtain⟨W2,Y⟩:=af_ ((f.setCell ⟨w.heap.size+1,1,none⟩ (.int .i64 1)).alloc (.cells #[.int .i64 1] 3));have P0:kt_ f w.heap.size W2 [0] (.slice (some ⟨w.heap.size+1+1,0,none⟩) 1 1) (.slice none 0 0) (.slice none 0 0) 0 0 [] []:=by
  rw[Y];refine⟨(μ.setCell (p:=⟨w.heap.size+1,1,none⟩) i_ _).alloc s_ _,φ (a3_ b3 i_), ?_,a8_,a8_, ?_⟩
  . refine((R4.out.set 1 (.int .i64 1)).congr (fun S _=> ?_)).alloc _;by_cases e:S=1
    . subst e;simp[ew_,swp]
    . have:swp 1 S≠0:=by unfold swp;rw[if_neg e];split<;>omega
      simp[ew_,e,this]
  . have h:=World.ownsRow_lit (base:=w.heap.size+1+1) (e:=3) (size:=1) (f.setCell ⟨w.heap.size+1,1,none⟩ (.int .i64 1)) #[.int .i64 1] 1 s_ d_ rfl;have aO:(f.setCell ⟨w.heap.size+1,1,none⟩ (.int .i64 1)).heap.size=f.heap.size:=i_;rw[aO,aB]at h;exact h
 rw[<-Y];clear Y R4 b3;have aj:∀a r,Κ cw_.good m.succ a r->a.length<=2048:=fun a r h=>cw_.bound h
 have ah:Hid (∀wr,Bl w wr->c6_ wr bm (.slice (some ⟨gb,0,none⟩) n cap) n cj cw):=fun wr hb=>h.below hb
 have ao:=h.lb;have aJ:=h.lr;clear h;go_loopw [9,10,11,12,13,14] (fun vs k' _ _ _ _ wr=>∃(k:Nat) (ps:List Nat) (y z:Value),k<=ps.length/\k'= .int .i64 k/\Κ cw_.good m.succ ps (8*k)/\kt_ f w.heap.size wr ps vs y z k k (aa_ (m.tab ps).acc k) (b9_ (pn m.succ ps) k))
  (fun _ k' _ _ _ _ _=>4096 - (intOf k').toNat)
 case atStart=>exact⟨0,[0],_,_,i_,rfl,Κ.start (by unfold cw_.good;omega),P0⟩
 case round=>
  obtain⟨k,ps,y,z,hk,rfl,d,b⟩:=hrel;clear P0;have ai:=aj _ _ d;have aq:=d.len;have ak:=η af b.cz;obtain⟨ap,F,rfl,B⟩:=Β b.cG;obtain⟨gp,rfl,G⟩:=B o_;rename World=>wo
  by_cases s:k<ps.length
  . have K:=(G k o_).trans (uh_ ps k s);obtain⟨q,l⟩:=δ (ps.getD k 0);rw[l.out]at K;have aG:q<2048:=by rw[<-l.out];exact d.inr _ (fj_ ps k s)
    obtain⟨S,J⟩:=δ (swp 1 q);rw[J.out]at K;have hS:S<2048:=by rw[<-J.out];exact ue_ o_ aG
    have A:=ah.out wo ak;have x0:=A.cg.cell (i:=0) o_;simp only[if_true]at x0;have Q:=acc_ bm gb n cap cj S wo hn hS ao x0 (fun i hi=>(A.own.cellAt i o_).trans (by simp[Λ,hi]));obtain⟨N,R⟩:=δ (fn_ cj S n);rw[R.out]at Q;have aT:N<2048:=by rw[<-R.out];exact ub_ ao
    have R0:el_ f w.heap.size wo.heap.size (wo.alloc (.cells #[.int .i64 0,.int .i64 0,.int .i64 0,.int .i64 0,.int .i64 0,.int .i64 0,.int .i64 0,.int .i64 0] 174)) ps (.slice (some ⟨gp,0,none⟩) ps.length F) y z k (aa_ (m.tab ps).acc k) (b9_ (pn m.succ ps) k) (fun _=>0):=by
     refine⟨b.below ξ,⟨_,ο rfl,rfl,fun i hi=> ?_⟩,by have:=b.met.lt;omega,fun g u=> ?_,fun g u=>(b.cB.lt g u).2,fun g u=>(b.cA.lt g u).2⟩
     . rcases (show i=0\/i=1\/i=2\/i=3\/i=4\/i=5\/i=6\/i=7 by omega)with rfl|rfl|rfl|rfl|rfl|rfl|rfl|rfl<;>rfl
     . have:=(b.cG.lt g u).2;omega
    have j:Hid _:=d;have aS:=b.met.lt;clear b d B G A;go_wp2_with (go_at_call 173;refine Q.mono ?_;rintro e w' ⟨rfl,rfl⟩);clear K x0 Q;go_loopw [9,13,14] (fun vs c' _ wr=>∃(c:Nat) (a:List Nat),c<=8/\c'= .int .i64 c/\k<a.length/\Hid (a.getD k 0=q)/\Κ cw_.good m.succ a (8*k+c)/\el_ f w.heap.size wo.heap.size wr a vs y z k (aa_ (m.tab a).acc k) (b9_ (pn m.succ a) k) (fun c'=>if c'<c then pn m.succ a k c' else 0))
     (fun _ c' _ _=>8 - (intOf c').toNat)
    case atStart=>exact⟨0,ps,o_,rfl,s,l,j.out,R0.cY (fun x _=>i_)⟩
    case round=>
     clear R0 j l s ai aq;obtain⟨c,a,hc,rfl,s,l,d,b⟩:=hrel;have ai:=aj _ _ d;have aq:=d.len;have ac:=η af b.mem.cz;obtain⟨ap,F,rfl,B⟩:=Β b.mem.cG;obtain⟨O,rfl,G⟩:=B o_;have aU:=κ b.mem.cg;have A:=ah.out wr ac;by_cases ad:c<8
     . have x1:=A.cg.cell (i:=1+c) o_;rw[if_neg o_,show 1+c - 1=c by omega]at x1;have Z:=oi_ N (cw c) o_ (by have:=aJ c ad;omega);obtain⟨T,V⟩:=δ (N&&&cw c);rw[V.out]at Z;have hT:T<2048:=by
        rw[<-V.out];have:N&&&cw c<=N:=and_le_left;omega
       have E:Hid (m.succ (a.getD ((8*k+c)/8) 0) ((8*k+c)%8)=swp 1 T):=by
        unfold Hid;rw[show(8*k+c)/8=k by omega,show(8*k+c)%8=c by omega,l.out];unfold cw_.succ cw_.step;rw[J.out,az.out,ax.out,aA.out,R.out,V.out]
       have m0:=b.mem.met.cell (i:=T) o_;have r0:=b.rw.cell ad;have r1:=b.rw.frozen c;simp only[Nat.lt_irrefl,if_false]at r0;have t:=α b;have j:=α d;clear b d B G A ac;by_cases C:swp 1 T∈a
       . have M:ew_ a (swp 1 T)=a.idxOf (swp 1 T)+1:=by simp[ew_,C]
         have aI:=ix_ C;rw[M]at m0;obtain⟨ix,HX⟩:=δ (a.idxOf (swp 1 T));rw[HX.out]at m0 aI;have aM:Hid (pn m.succ a k c=ix):=by
          have:=E.out;rw[show(8*k+c)/8=k by omega,show(8*k+c)%8=c by omega]at this;unfold Hid pn;rw[this];exact HX.out
         have D:=α C;clear C M;go_wp2_with fail;go_roundw
         case rel=>
          have hm:m.succ (a.getD ((8*k+c)/8) 0) ((8*k+c)%8)∈a:=by rw[E.out];exact D.out
          have hn:=(t.out.old (c:=c) (v:=ix)).cY (r':=fun c'=>if c'<c+1 then pn m.succ a k c' else 0) (fun x _=>by
           by_cases e:x=c
           . subst e;simp[aM.out]
           . by_cases L:x<c
             . simp only[e,L,if_false,if_true];rw[if_pos o_]
             . simp only[e,L,if_false];rw[if_neg o_])
          exact⟨c+1,a,o_,by go_num,s,l,j.out.old o_ hm,hn⟩
         case measure=>exact c_
       . have M:ew_ a (swp 1 T)=0:=by simp[ew_,C]
         rw[M]at m0;have D:=α C;clear C M;have U:Hid (el_ f w.heap.size wo.heap.size (wr.alloc (.cells #[.int .i64 (T:Int)] 3)) a (.slice (some ⟨O,0,none⟩) a.length F) y z k (aa_ (m.tab a).acc k) (b9_ (pn m.succ a) k) (fun c'=>if c'<c then pn m.succ a k c' else 0)):=t.out.below ξ;have aK:=U.out.mem.cG;have hcells:Hid (ia_ a++ [.int .i64 (T:Int)]=ia_ (a++ [swp 1 T])):=by
          have:=acg_ a (swp 1 T);rw[oj_]at this;exact this
         have HG:Hid (∀g cap o,o.ownsRow (w.heap.size+1+1) 3 1 (.slice (some ⟨g,0,none⟩) (a.length+1) cap) (a.length+1) (ia_ a++ [.int .i64 (T:Int)])->
          (wr.alloc (.cells #[.int .i64 (T:Int)] 3)).grownBy o (Value.slice (some ⟨O,0,none⟩) a.length F).ownBlock->((Value.slice (some ⟨O,0,none⟩) a.length F).ownBlock=some g\/g=(wr.alloc (.cells #[.int .i64 (T:Int)] 3)).heap.size)->
          o.cell? ⟨w.heap.size+1,T,none⟩=some (.int .i64 0)/\o.frozen? ⟨w.heap.size+1,T,none⟩=false/\o.cell? ⟨wo.heap.size,c,none⟩=some (.int .i64 0)/\o.frozen? ⟨wo.heap.size,c,none⟩=false/\
          Hid (el_ f w.heap.size wo.heap.size ((o.setCell ⟨w.heap.size+1,T,none⟩ (.int .i64 ((a.length:Int)+1))).setCell ⟨wo.heap.size,c,none⟩ (.int .i64 (a.length:Int))) (a++ [swp 1 T]) (.slice (some ⟨g,0,none⟩) (a.length+1) cap) y z k (aa_ (m.tab a).acc k) (b9_ (pn m.succ a) k) (fun x=>if x=c then a.length else if x<c then pn m.succ a k x else 0))):=by
          intro g cap o ho u hf;rw[hcells.out]at ho;obtain⟨_,_,g3,_,_,g7,_⟩:=U.out.grown ho u hf;refine⟨?_,g3.frozen _, ?_,g7.frozen _,U.out.new D.out ho u hf⟩
          . rw[g3.cell o_];simp[ew_,D.out]
          . rw[g7.cell ad];simp
         go_wp2_with (at_builtin;refine Υ underlying24 aH aP aQ aR aK ?_;intro g cap o au am al;obtain⟨f0,f1,f2,f3,HN⟩:=HG.out g cap o au am al;clear au am al);go_roundw
         case rel=>
          have aL:m.succ (a.getD ((8*k+c)/8) 0) ((8*k+c)%8)∉a:=by rw[E.out];exact D.out
          have aF:cw_.good (m.succ (a.getD ((8*k+c)/8) 0) ((8*k+c)%8)):=by
           rw[E.out];exact ue_ o_ hT
          have ar:=j.out.new o_ aL aF;rw[E.out]at ar;have aN:pn m.succ (a++ [swp 1 T]) k c=a.length:=by
           have:=E.out;rw[show(8*k+c)/8=k by omega,show(8*k+c)%8=c by omega]at this;simp only[pn];rw[b8_ _ _ _ s,this,idxOf_append,if_neg D.out];simp
          have hn:=HN.out.cY (r':=fun c'=>if c'<c+1 then pn m.succ (a++ [swp 1 T]) k c' else 0) (fun x hx=>by
           by_cases e:x=c
           . subst e;simp[aN]
           . by_cases L:x<c
             . simp only[e,L,if_false,if_true];rw[if_pos o_,h7_ j.out k x hx o_]
             . simp only[e,L,if_false];rw[if_neg o_])
          rw[<-aha_ (m:=m) (q:=swp 1 T) o_,<-tx_ (X:=pn m.succ (a++ [swp 1 T])) (fun x c' hx hc'=>h7_ j.out x c' hc' o_)]at hn;exact⟨c+1,a++ [swp 1 T],o_,by go_num,s_,by unfold Hid;rw[b8_ _ _ _ s];exact l.out,ar,hn⟩
         case measure=>exact c_
     . have aE:c=8:=o_;subst aE;have K:=(G k o_).trans (uh_ a k s);rw[l.out,J.out]at K;have Z:=ahb_ S dc hS hL;obtain⟨ab,ag⟩:=δ (S&&&dc !=0);rw[ag.out]at Z;have t:=α b;have j:=α d;have I:Hid (el_ f w.heap.size wo.heap.size wr.drew a (.slice (some ⟨O,0,none⟩) a.length F) y z k (aa_ (m.tab a).acc k) (b9_ (pn m.succ a) k) (fun c'=>if c'<8 then pn m.succ a k c' else 0)):=t.out.below (Below.refl wr.heap.size wr).drew;have f2:=t.out.rw;have c0:=f2.cell (i:=0) o_;have c1:=f2.cell (i:=1) o_;have c2:=f2.cell (i:=2) o_;have c3:=f2.cell (i:=3) o_;have c4:=f2.cell (i:=4) o_;have c5:=f2.cell (i:=5) o_;have c6:=f2.cell (i:=6) o_;have c7:=f2.cell (i:=7) o_;simp only[show(0:Nat)<8 from by decide,show(1:Nat)<8 from by decide,show(2:Nat)<8 from by decide,show(3:Nat)<8 from by decide,show(4:Nat)<8 from by decide,show(5:Nat)<8 from by decide,show(6:Nat)<8 from by decide,show(7:Nat)<8 from by decide,if_true]at c0 c1 c2 c3 c4 c5 c6 c7;have HA:=tw_ w.heap.size (w.heap.size+1+1) y z k _ _ ab (pn m.succ a k) wr.drew I.out.mem.cg I.out.mem.cB I.out.mem.cA o_ (by have:=I.out.mem.met.lt;omega) o_;unfold do_ at HA;clear b d B G A ac f2 t;go_wp2_with fail;go_region_with (go_at_call 138;refine HA.mono ?_;rintro e w6 ⟨rfl,aV,aW,f0,f1,f2,f3,_,_⟩;have F1:Hid _:=I.out.add f0 f1 f2 f3;clear f0 f1 f2 f3)
       all_goals
        go_wp2_with fail;go_roundw
        case rel=>
         have f1:=F1.out;have ea:aa_ (m.tab a).acc k++ [.bool ab]=aa_ (m.tab a).acc (k+1):=by
          simp only[aa_,cw_.tab];rw[l.out,J.out,ay.out,ag.out]
         have er:b9_ (pn m.succ a) k++ [(.int .i64 ((pn m.succ a k 0:Nat):Int)),(.int .i64 ((pn m.succ a k 1:Nat):Int)),(.int .i64 ((pn m.succ a k 2:Nat):Int)),(.int .i64 ((pn m.succ a k 3:Nat):Int)),(.int .i64 ((pn m.succ a k 4:Nat):Int)),(.int .i64 ((pn m.succ a k 5:Nat):Int)),(.int .i64 ((pn m.succ a k 6:Nat):Int)),(.int .i64 ((pn m.succ a k 7:Nat):Int))]=b9_ (pn m.succ a) (k+1):=by
          simp only[b9_];rfl
         rw[ea,er]at f1;exact⟨k+1,a,_,_,o_,by go_num,by rw[show 8*(k+1)=8*k+8 by omega];exact j.out,f1⟩
        case measure=>exact c_
  . have he:k=ps.length:=o_;subst he;obtain⟨y0,y1,_,_⟩:=β b.cg;obtain⟨aa,ca,rfl,aC⟩:=Β b.cB;obtain⟨an,cn,rfl,aD⟩:=Β b.cA;obtain⟨ga,rfl,_⟩:=aC d.len;obtain⟨gn,rfl,_⟩:=aD d.len;have t:Hid _:=b;have j:=α d;have av:Hid _:=y0;have aw:Hid _:=y1;clear b d B y0 y1;go_wp2_with fail;go_ret;have hp:=t.out;refine⟨ak,ps,w.heap.size,ga,ca,gn,cn,j.out,rfl,⟨av.out,aw.out,fun x hx=> ?_,fun x c hx hc=> ?_⟩⟩
    . have ae:x<ps.length:=hx;rw[hp.cB.cellAt x o_];exact n8_ _ _ _ ae
    . have ae:x<ps.length:=hx;rw[hp.cA.cellAt (x*8+c) o_];exact t0_ _ _ _ _ ae hc
end Go.Proofs.YtpngikmcjkjdaaaGreatDoor
