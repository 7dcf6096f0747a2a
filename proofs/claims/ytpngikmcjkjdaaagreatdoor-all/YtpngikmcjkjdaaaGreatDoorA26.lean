import Derived.Deep.RegionWith
import Derived.Test.YtpngikmcjkjdaaaGreatDoorA12
set_option linter.unusedVariables false
set_option linter.unusedSimpArgs false
set_option maxRecDepth 20000
set_option maxHeartbeats 80000000
namespace Go.Proofs.YtpngikmcjkjdaaaGreatDoor
open Go.RowKit Tryz List Nat
variable {fs:List Nat} {x:List Value} {B b base cap g k n s:Nat} {A:Nat->Bool} {rb:Nat->Nat} {D:Nat->Nat->Bool} {v va vf vn:Value} {W w w2:World}
def w1_ (l:Nat)(fs:Nat->Nat)(D:Nat->Nat->Bool)(s:Nat)(w:World)(e:Ending)(w':World):Prop:=
 w'=w/\((∃k,k<l/\e= .returned (.int .i64 k)/\D (fs k) s=false/\∀j,j<k->D (fs j) s=true)\/(e= .returned (.int .i64 (-1))/\∀j,j<l->D (fs j) s=true))
theorem w2_ (ao:Option Addr)(gl l cl:Nat)(fs:Nat->Nat)(B g n:Nat)(rb:Nat->Nat)(D:Nat->Nat->Bool)(s:Nat)(w:World)(ha:0<l->ao=some ⟨gl,0,none⟩)(hl:∀i,i<l->w.cell? ⟨gl,i,none⟩=some (.int .i64 (fs i)))(hfs:∀i,i<l->fs i<n)
 (hm:c4_ w B g n n rb D) (hs:s<n) (hl0:l<=100000000) (hn:n<=100000000):
 Calls prog 104 #[.slice ao l cl,.slice (some ⟨g,0,none⟩) n n,.int .i64 s] w (w1_ l fs D s w):=by
 go_enter func104,ntmps104;go_wp2_with fail;go_loop [7] (fun k'=>∃k:Nat,k<=l/\k'= .int .i64 k/\∀j,j<k->D (fs j) s=true) (fun k'=>l - (intOf k').toNat)
 case atStart=>exact⟨0,o_,rfl,fun j hj=>absurd hj o_⟩
 case round=>
  obtain⟨k,t,rfl,c⟩:=hrel;by_cases h:k<l
  . obtain rfl:=ha o_;have o:=hl k h;have b:=hfs k h;obtain⟨m,f⟩:=δ (fs k);rw[f.out]at o b;have t0:=hm.top.cell b;rw[if_pos b]at t0;have r:=(hm.row m b).cell hs;obtain⟨p,d⟩:=δ (D m s);rw[d.out]at r;have a:Hid _:=c;clear c hm hl;cases p
    . go_wp2_with fail;go_ret;exact⟨rfl,.inl ⟨k,h,rfl,by rw[f.out];exact d.out,a.out⟩⟩
    . go_wp2_with fail;go_round
      case rel=>
       refine⟨k+1,o_,by go_num,fun j hj=> ?_⟩;by_cases e:j=k
       . subst e;rw[f.out];exact d.out
       . exact a.out j o_
      case measure=>exact c_
  . have q:k=l:=o_;subst q;have a:Hid _:=c;clear c hm hl;go_wp2_with fail;go_ret;exact⟨rfl,.inr ⟨rfl,a.out⟩⟩
theorem Κ.bnd {M:γ}{S:Nat->Nat->Nat}{ps:List Nat}{p:Nat}(h:Κ (h3_ M) S ps p):ps.length<=M.n:=i2_ M.n ps h.nd (fun x hx=>(h.inr x hx).1)
structure jf_ (W:World)(B:Nat)(w:World)(g n:Nat)(rb:Nat->Nat)(D:Nat->Nat->Bool)(vf:Value)(fs:List Nat):Prop where
 blw:Below B W w
 siz:B<=w.heap.size
 mat:c4_ w B g n n rb D
 own:w.ownsRow B 3 1 vf fs.length (dt_ fs)
theorem jf_.below (h:jf_ W B w g n rb D vf fs)(hb:Bl w w2):jf_ W B w2 g n rb D vf fs:=
 ⟨h.blw.trans (hb.mono h.siz),Nat.le_trans h.siz hb.size,h.mat.below hb,ao_ h.own hb⟩
theorem w3_ {t e:Nat}{f:Nat->Value}(h:w.rowIs b t n f)(ho:w.ownsRow base e s v k x)(hne:t≠e)(hg:w.grownBy w2 v.ownBlock):w2.rowIs b t n f:=by
 refine h.of_block (hg.block b h.lt (fun e'=> ?_));rcases ho.2 with ⟨rfl,_⟩|⟨g,i,j,rfl,_,a,_⟩
 . simp[Value.ownBlock]at e'
 . simp only[Value.ownBlock,Δ]at e';subst e';obtain⟨c,d,_,_⟩:=h;rw[d]at a;simp only[Δ,Obj.cells.injEq]at a;exact hne a.2.1
theorem c4_.grown {m:Nat}(h:c4_ w B g n k rb D)(ho:w.ownsRow base 3 s v m x)(hg:w.grownBy w2 v.ownBlock):c4_ w2 B g n k rb D:=
 ⟨w3_ h.top ho d_ hg,fun i hi=>w3_ (h.row i hi) ho d_ hg,h.inj,h.lg,h.lr⟩
theorem jf_.app (h:jf_ W B w g n rb D vf fs){gg:Nat}
 (hown:w2.ownsRow B 3 1 (.slice (some ⟨gg,0,none⟩) (fs.length+1) cap) (fs.length+1) (dt_ fs++ [.int .i64 (s:Int)])) (hg:w.grownBy w2 vf.ownBlock):jf_ W B w2 g n rb D (.slice (some ⟨gg,0,none⟩) (fs.length+1) cap) (fs++ [s]):=
 ⟨h.blw.grown hg h.siz (fun x e=>(h.own.lt x e).1),Nat.le_trans h.siz hg.size,h.mat.grown h.own hg,by rw[mb_]at hown;simpa using hown⟩
def afc_ (L:List Nat->Bool)(w:World)(e:Ending)(w':World):Prop:=
 Bl w w'/\∃(U:ρ) (R:γ),cg_ R L/\e= .returned (.agg #[.slice (some ⟨U.ba,U.oa,none⟩) R.n U.ca,.slice (some ⟨U.bn,U.on,none⟩) R.n U.cn])/\π w' U R/\U.From w.heap.size R.n
theorem afd_ {M:γ}(hD:∀x y,x<M.n->y<M.n->(D x y=true↔e5_ M x y))(hfs:∀i,i<fs.length->fs.getD i 0<M.n)(hs:s<M.n)(hmem:cr M s∈fs.map (cr M)){w':World}{e:Ending}(h:w1_ fs.length (fun i=>fs.getD i 0) D s w e w'):
 e= .returned (.int .i64 ((fs.map (cr M)).idxOf (cr M s):Nat))/\w'=w:=by
 have b:=zy_ (M:=M) (fs:=fs) hD hfs hs;obtain⟨c,d⟩:=h;refine⟨?_,c⟩;rcases d with ⟨k,g,rfl,f,a⟩|⟨rfl,a⟩
 . rw[(b.1 k g f a).2]
 . exact absurd hmem (b.2 a)
theorem nh_ (V:ρ)(M:γ)(w:World)(hlo:1<=M.n)(hhi:M.n<=100000000)(hnx:∀i c,i<M.n->c<8->M.nxt i c<M.n)(hV:π w V M):
 Calls prog 67 #[.agg #[.slice (some ⟨V.ba,V.oa,none⟩) M.n V.ca,.slice (some ⟨V.bn,V.on,none⟩) M.n V.cn]] w
  (afc_ M.accepts w):=by
 obtain⟨i3,aQ,aX,aY,aZ⟩:=info_parts e9_;obtain⟨i4,bq,bv,bw,bx⟩:=info_parts hc_;obtain⟨iR,br,bz,bA,bB⟩:=info_parts mm_;obtain⟨W,hW,BW,b0,b1⟩:=bl_ w #[.slice (some ⟨V.ba,V.oa,none⟩) M.n V.ca,.slice (some ⟨V.bn,V.on,none⟩) M.n V.cn] 41 #[.slice none 0 0,.slice none 0 0] 41;have bD:W.heap.size=w.heap.size+1+1:=by rw[hW];simp
 have aJ:=hV.below BW;go_enter func67,ntmps67;go_wp2_with fail;rw[<-hW];clear hW;refine(anw_ V M W hlo hhi hnx aJ).mono ?_;rintro e w1 ⟨az,g,K,D,rfl,hm,hD⟩;have bG:=az.size;have aS:c4_ w1 (w.heap.size+1+1) g M.n M.n K D:=⟨hm.top,hm.row,hm.inj,by have:=hm.lg;omega,fun i hi=>by have:=hm.lr i hi;omega⟩;have aN:Below (w.heap.size+1+1) W w1:=az.mono o_;have P0:jf_ W (w.heap.size+1+1) (w1.alloc (.cells #[.int .i64 0] 3)) g M.n K D (.slice (some ⟨w1.heap.size,0,none⟩) 1 1) [0]:=by
  refine⟨aN.alloc o_ _,s_,aS.below ξ, ?_⟩;exact World.ownsRow_lit (base:=w.heap.size+1+1) (e:=3) (size:=1) w1 #[.int .i64 0] 1 o_ d_ rfl
 have aP:h3_ M 0:=⟨o_,by have:=md_ M 0;omega⟩;have Q0:Κ (h3_ M) (crS M) (([0]:List Nat).map (cr M)) 0:=by
  have:([0]:List Nat).map (cr M)=[0]:=by simp[aP.2]
  rw[this];exact Κ.start aP
 go_wp2_with fail;clear hm aS az aN aJ;go_loopw [4,5,6,7,8] (fun vf k' _ _ _ wr=>∃(k:Nat) (fs:List Nat),k<=fs.length/\k'= .int .i64 k/\jf_ W (w.heap.size+1+1) wr g M.n K D vf fs/\Κ (h3_ M) (crS M) (fs.map (cr M)) (8*k)/\∀i,i<fs.length->fs.getD i 0<M.n)
  (fun _ k' _ _ _ _=>M.n+1 - (intOf k').toNat)
 case atStart=>exact⟨0,[0],i_,rfl,P0,Q0,fun i hi=>by
  have h0:i=0:=by simpa using hi
  rw[h0];simp;omega⟩
 case round=>
  obtain⟨k,fs,hk,rfl,a,d,F⟩:=hrel;clear P0 Q0;have aq:=d.bnd;rw[length_map]at aq;obtain⟨af,cf,rfl,S⟩:=Β a.own;have f:=η BW a.blw;obtain⟨x0,x1,_,_⟩:=β ((a.blw.block _ o_).trans b0);have aR:0<fs.length:=by have:=d.len;rw[length_map]at this;omega
  by_cases Z:k<fs.length
  . have HF:Hid _:=a;have I:Hid _:=d;have m:Hid _:=F;clear a d F S;go_wp2_with fail;go_loopw [4,6,7,8] (fun vf c' _ _ wr=>∃(c:Nat) (fs:List Nat),c<=8/\c'= .int .i64 c/\k<fs.length/\jf_ W (w.heap.size+1+1) wr g M.n K D vf fs/\Κ (h3_ M) (crS M) (fs.map (cr M)) (8*k+c)/\∀i,i<fs.length->fs.getD i 0<M.n)
     (fun _ c' _ _ _=>8 - (intOf c').toNat)
    case atStart=>exact⟨0,fs,o_,rfl,Z,HF.out,I.out,m.out⟩
    case round=>
     clear HF I m Z aq aR;obtain⟨c,fs,hc,rfl,Z,a,d,F⟩:=hrel;have aq:=d.bnd;rw[length_map]at aq;obtain⟨af,cf,rfl,S⟩:=Β a.own;obtain⟨b,rfl,ag⟩:=S o_;have f:=η BW a.blw;obtain⟨x0,x1,_,_⟩:=β ((a.blw.block _ o_).trans b0);have aa:=lc_ rfl ag;have a9:=α aa;have HF:Hid _:=a;have I:Hid _:=d;have m:Hid _:=F;by_cases Y:c<8
     . have O:=aa k Z;have y:=F k Z;obtain⟨r,ac⟩:=δ (fs.getD k 0);simp only at O;rw[ac.out]at O y;have y0:=(hV.below f).row r y;have y1:=(hV.below f).cel r c y Y;have J:=hnx r c y Y;obtain⟨s,HS⟩:=δ (M.nxt r c);rw[HS.out]at y1 J;have ap:Hid (crS M ((fs.map (cr M)).getD ((8*k+c)/8) 0) ((8*k+c)%8)=cr M s):=by
        unfold Hid;rw[show(8*k+c)/8=k by omega,show(8*k+c)%8=c by omega,zx_ M fs k c Z Y,ac.out,HS.out]
       have bt:=a.siz;clear a d F S ag aa;go_wp2_with fail;go_quiet (fail);have aA:=HF.out.below (below_drewN μ nq);have HC:=w2_ (some ⟨b,0,none⟩) b fs.length cf (fun i=>fs.getD i 0) (w.heap.size+1+1) g M.n K D s (wr.drewN nq) (fun _=>rfl) (fun i hi=>a9.out i hi) (fun i hi=>m.out i hi) aA.mat J o_ hhi;have aw:Hid _:=aA;have ao:=zy_ (M:=M) (fs:=fs) hD m.out J;clear aA;go_wp2_with fail;refine HC.mono ?_;clear HC;rintro e E ⟨bu,bo⟩;obtain rfl:wr.drewN nq=E:=bu.symm;rcases bo with ⟨kk,bs,rfl,hd,al⟩|⟨rfl,al⟩
       . have aT:=(ao.1 kk bs hd al).1;have a7:Hid _:=aT;clear ao hd al aT;go_wp2_with fail;go_roundw
         case rel=>exact⟨c+1,fs,o_,by go_num,Z,aw.out,I.out.old (by rw[length_map];omega) (by rw[ap.out];exact a7.out),m.out⟩
         case measure=>exact c_
       . have aW:=ao.2 al;have a8:Hid _:=aW;have G:=(aw.out.below (μ.alloc ι (.cells #[.int .i64 (s:Int)] 3))).own;have a3:Hid _:=aw.out.below (μ.alloc ι (.cells #[.int .i64 (s:Int)] 3));clear ao al aW;go_wp2_with (at_builtin;refine Υ underlying24 aQ aX aY aZ G ?_;intro gg bC w3 B t z;have HO:Hid _:=B;have HG:Hid _:=t;clear B t z);go_roundw
         case rel=>
          have bp:h3_ M (cr M s):=⟨by have:=md_ M s;omega,zv_ M s⟩;have aV:=I.out.new (by rw[length_map];omega) (by rw[ap.out];exact a8.out) (by rw[ap.out];exact bp);rw[ap.out]at aV;refine⟨c+1,fs++ [s],o_,by go_num,s_,by simpa using a3.out.app HO.out HG.out,by rw[<-Nat.add_assoc];simpa using aV,fun i hi=> ?_⟩;by_cases e:i<fs.length
          . rw[b8_ _ _ _ e];exact m.out i e
          . have:i=fs.length:=by simp at hi;omega
            subst this;simp[gd_,J]
         case measure=>exact c_
     . have T:c=8:=o_;subst T;clear a d F S ag aa;go_wp2_with fail;go_roundw
       case rel=>exact⟨k+1,fs,o_,by go_num,HF.out,by rw[show 8*(k+1)=8*k+8 by omega];exact I.out,m.out⟩
       case measure=>exact c_
  . have T:k=fs.length:=o_;subst T;obtain⟨x,ad⟩:=δ (fs.map (cr M));rw[ad.out]at d;have aC:x.length=fs.length:=by rw[<-ad.out];simp
    rw[<-aC]at d;have hL:=zw_ d;obtain⟨A,HA⟩:∃A:Nat->Bool,Hid (A=fun k=>M.acc (fs.getD k 0)):=⟨_,rfl⟩;obtain⟨X,HX⟩:∃X:Nat->Nat->Nat,Hid (X=(hn_ M x).nxt):=⟨_,rfl⟩;have bc:Hid (∀k,k<fs.length->(hn_ M x).acc k=A k):=by
     intro k hk;rw[HA.out];show M.acc (x.getD k 0)=M.acc (fs.getD k 0)
     rw[<-ad.out,s3_ M fs k hk];exact(kf_ M _).acc
    have bf:Hid (∀k c,k<fs.length->c<8->cr M (M.nxt (fs.getD k 0) c)∈x/\x.idxOf (cr M (M.nxt (fs.getD k 0) c))=X k c):=by
     intro k c hk hc;have h1:=(d.clo (8*k+c) o_).2;rw[show(8*k+c)/8=k by omega,show(8*k+c)%8=c by omega]at h1;have h2:=zx_ M fs k c hk hc;rw[ad.out]at h2;rw[h2]at h1;refine⟨h1, ?_⟩;rw[HX.out];show _=pn (crS M) x k c
     unfold pn;rw[h2]
    have HL:Hid _:=hL;have m:Hid _:=F;obtain⟨b,rfl,ag⟩:=S aR;have aa:=lc_ rfl ag;rename World=>wo
    obtain⟨o,aK,ak,bH,d0⟩:=ν wo #[.slice none 0 0,.slice none 0 0] 41;have d1:o.heap[w.heap.size]? =some (.cells #[.slice (some ⟨V.ba,V.oa,none⟩) M.n V.ca,.slice (some ⟨V.bn,V.on,none⟩) M.n V.cn] 41 (0,0)):=(ak.block _ (by have:=a.siz;omega)).trans ((a.blw.block _ o_).trans b0);have d2:o.heap[w.heap.size+1]? =some (.cells #[.slice none 0 0,.slice none 0 0] 41 (0,0)):=(ak.block _ (by have:=a.siz;omega)).trans ((a.blw.block _ o_).trans b1);have aI:=a.below ak;have aO:Bl w o:=f.trans (ak.mono (by have:=a.siz;omega));have aU:=aa.below ak;have bt:=a.siz;have B0:ak_ o wo.heap.size o (.slice none 0 0) (.slice none 0 0) 0 0 A (fun _=>0) (fun _=>0) X:=ak_.start μ d0;have ai:Hid _:=aI;have a4:Hid (b<wo.heap.size):=(a.own.lt b rfl).2;have a5:=α a.mat.top.lt;have a6:Hid (∀i,i<M.n->K i<wo.heap.size):=fun i hi=>(a.mat.row i hi).lt
    have ax:=α aU;clear a d hL F S ag aa f aU aI;go_upto_region 14 with fail;rw[<-aK];clear aK;go_wp2_with fail;go_loopw [10,11,12,13] (fun k' _ _ _ wi=>∃(k:Nat) (va L:Value) (R C:Nat->Nat),k<=fs.length/\k'= .int .i64 k/\ak_ o wo.heap.size wi va L k k A R C X)
     (fun k' _ _ _ _=>fs.length - (intOf k').toNat)
    case atStart=>exact⟨0,_,_,_,_,o_,rfl,B0⟩
    case round=>
     obtain⟨k,va,L,R,C,bE,rfl,P⟩:=hrel;clear B0;have l:=P.two.blw;have f:=η aO l;obtain⟨x0,x1,_,_⟩:=β ((l.block _ o_).trans d1);obtain⟨y0,y1,z0,z1⟩:=β P.two.blk;have bJ:=κ P.two.blk;by_cases au:k<fs.length
     . have aB:b<wo.heap.size:=a4.out;have O:wr.cell? ⟨b,k,none⟩=some (.int .i64 (fs.getD k 0)):=by
        rw[l.cell (p:=⟨b,k,none⟩) aB];exact ax.out k au
       have y:=m.out k au;have av:Hid (A k=M.acc (fs.getD k 0)):=by unfold Hid;rw[HA.out]
       have aL:=fun c=>bf.out k c au
       obtain⟨r,ac⟩:=δ (fs.getD k 0);rw[ac.out]at O y av;have a0:=(hV.below f).acc r y;obtain⟨bb,a1⟩:=δ (M.acc r);rw[a1.out]at a0 av;have bg:Hid _:=aL;have an:Hid (ak_ o wo.heap.size ((wr.alloc (.cells #[.bool bb] 4)).drew) va L k k A R C X):=P.below (ξ.drew);have G:=an.out.two.own0;have aD:Hid (∀g ae E,E.ownsRow (wo.heap.size+1) 4 1 (.slice (some ⟨g,0,none⟩) (k+1) ae) (k+1) (aa_ A k++ [.bool bb])->
        ((wr.alloc (.cells #[.bool bb] 4)).drew).grownBy E va.ownBlock->(va.ownBlock=some g\/g=wr.heap.size+1)->
        ak_ o wo.heap.size (E.setCell ⟨wo.heap.size,0,none⟩ (.slice (some ⟨g,0,none⟩) (k+1) ae)) (.slice (some ⟨g,0,none⟩) (k+1) ae) L (k+1) k A R C X):=by
        intro g ae E ho hg hf;rw[<-av.out]at ho;refine an.out.acc ho hg ?_;rcases hf with hf|hf
        . exact .inl hf
        . right;rw[hf];simp
       clear P aL;go_upto_region 17 with fail;go_cut [65] (fun _ wc=>∃am,Hid (ak_ o wo.heap.size wc am L (k+1) k A R C X))
       case first=>
        go_region_law
         ((refine step_append_lies _ (by rfl) _ _ _ (by rfl) (wo.heap.size+1) 4 i4 (.bool false) 1 1 underlying38 bq bv bw bx rfl d_ va k (aa_ A k) (by rfl) G ⟨wr.heap.size,0,none⟩ 1 1 [.bool bb] (by rfl) (by rfl) (cell_one_new _ _ _) (gt_ rfl) d_ u_ o_ s_ (wr.heap.size+1) i_ ?_;intro g ae E B t z bF;obtain⟨bi,bj,bk,bl⟩:=β (an.out.two.grown0 t);have aj:Hid _:=z;clear z))
        all_goals go_wp2_with fail
        all_goals go_meet
        all_goals exact⟨_,aD.out g ae E B t aj.out⟩
       case rest=>
        obtain⟨am,aG⟩:=hcut;clear aD an G x0 x1 y0 y1 z0 z1 f l O a0;go_wp2_with fail;go_loopw [11,12,13] (fun vr c' _ wi=>∃c:Nat,c<=8/\c'= .int .i64 c/\ak_ o wo.heap.size wi am L (k+1) k A R C X/\
         wi.ownsRow (wo.heap.size+1) 3 1 vr c (Λ (X k) c)/\∀j,j<k->vr.ownBlock≠some (R j))
         (fun _ c' _ _=>8 - (intOf c').toNat)
        case atStart=>exact⟨0,o_,rfl,aG.out,a8_,by intro j _ h;simp[Value.ownBlock]at h⟩
        case round=>
         clear aG;obtain⟨c,hc,rfl,Q,hr,hd⟩:=hrel;have l:=Q.two.blw;have f:=η aO l;obtain⟨x0,x1,_,_⟩:=β ((l.block _ o_).trans d1);have bI:=κ Q.two.blk;by_cases Y:c<8
         . have O:wr.cell? ⟨b,k,none⟩=some (.int .i64 r):=by
            rw[<-ac.out,l.cell (p:=⟨b,k,none⟩) aB];exact ax.out k au
           have y0:=(hV.below f).row r y;have y1:=(hV.below f).cel r c y Y;have J:=hnx r c y Y;have ah:=bg.out c Y;rw[ac.out]at ah;obtain⟨s,HS⟩:=δ (M.nxt r c);rw[HS.out]at y1 J ah;obtain⟨pv,aF⟩:=δ (X k c);rw[aF.out]at ah;have aE:c4_ wr (w.heap.size+1+1) g M.n M.n K D:=by
            refine⟨ai.out.mat.top.of_block (l.block _ a5.out),fun i hi=>(ai.out.mat.row i hi).of_block (l.block _ (a6.out i hi)),ai.out.mat.inj,ai.out.mat.lg,ai.out.mat.lr⟩
           have HC:∀q:Nat,Calls prog 104 #[.slice (some ⟨b,0,none⟩) fs.length cf,.slice (some ⟨g,0,none⟩) M.n M.n,.int .i64 s] (wr.drewN q) fun e w'=>e= .returned (.int .i64 (pv:Nat))/\w'=wr.drewN q:=by
            intro q;have H:Bl wr (wr.drewN q):=below_drewN μ q;have:=(w2_ (some ⟨b,0,none⟩) b fs.length cf (fun i=>fs.getD i 0) (w.heap.size+1+1) g M.n K D s (wr.drewN q) (fun _=>rfl) (fun i hi=>by rw[H.cell (p:=⟨b,i,none⟩) (show b<wr.heap.size by omega),l.cell (p:=⟨b,i,none⟩) aB];exact ax.out i hi) (fun i hi=>m.out i hi) (aE.below H) J o_ hhi).mono (fun e w' h=>afd_ hD m.out J (by rw[ad.out];exact ah.1) h);rw[ad.out,ah.2]at this;exact this
           have ab:Hid _:=Q;have HD:=α hd;have be:Hid _:=hr;clear Q hd hr f l aE ah;go_wp2_with fail;go_quiet ((go_at_call 104;exact Calls.quiet_of_same (HC _)));clear HC x0 x1 O y0 y1;have H:Bl wr (wr.drewN nq):=below_drewN μ nq;have a2:Hid (ak_ o wo.heap.size ((wr.drewN nq).alloc (.cells #[.int .i64 (pv:Int)] 3)) am L (k+1) k A R C X):=(ab.out.below H).below ξ;have G:=(ao_ be.out H).alloc (.cells #[.int .i64 (pv:Int)] 3);have bd:Hid (∀j,j<k->R j<wr.heap.size):=fun j hj=>((ab.out.rows j hj).lt (R j) rfl).2
           clear H;go_wp2_with (at_builtin;refine Υ underlying24 aQ aX aY aZ G ?_;intro g2 bh E B t z;have HO:Hid _:=B;have HG:Hid _:=t;have aj:Hid _:=z;clear B t z);go_roundw
           case rel=>
            have ho:=HO.out;rw[show Λ (X k) c++ [.int .i64 (pv:Int)]=Λ (X k) (c+1)by rw[kp_,aF.out]]at ho;refine⟨c+1,o_,by go_num,a2.out.grown G HD.out HG.out,ho, ?_⟩;intro j hj e;simp only[Value.ownBlock,Δ]at e;rcases aj.out with h'|h'
            . exact HD.out j hj (by subst e;exact h')
            . have:=bd.out j hj;simp at h';omega
           case measure=>exact c_
         . have T:c=8:=o_;subst T;obtain⟨ar,ay,rfl,aM⟩:=Β hr;obtain⟨gr,rfl,_⟩:=aM o_;obtain⟨y0,y1,_,_⟩:=β Q.two.blk;have ab:Hid (ak_ o wo.heap.size (wr.alloc (.cells #[.slice (some ⟨gr,0,none⟩) 8 ay] 24)) am L (k+1) k A R C X):=Q.below ξ;have G:=ab.out.two.own1;have I:Hid ((wr.alloc (.cells #[.slice (some ⟨gr,0,none⟩) 8 ay] 24)).ownsRow (wo.heap.size+1) 3 1 (.slice (some ⟨gr,0,none⟩) 8 ay) 8 (Λ (X k) 8)):=hr.alloc _;clear Q hd hr f aM;go_wp2_with (at_builtin;refine Υ underlying39 br bz bA bB G ?_;intro g2 bh E B t z;obtain⟨bi,bj,bk,bl⟩:=β (ab.out.two.grown1 t);have HO:Hid _:=B;have HG:Hid _:=t;have aj:Hid _:=z;clear B t z);go_roundw
           case rel=>
            exact⟨k+1,_,_,_,_,o_,by go_num,ab.out.nxt I.out HO.out HG.out aj.out⟩
           case measure=>exact c_
     . have T:k=fs.length:=o_;subst T;obtain⟨U,rfl,rfl,hT,bm⟩:=P.done (N:=hn_ M x) o_ aC bc.out (fun i c hi hc=>by rw[HX.out]);have H:wr.heap[w.heap.size+1]? =some (.cells #[.slice none 0 0,.slice none 0 0] 41 (0,0)):=(l.block _ o_).trans d2;obtain⟨q0,q1,p0,p1⟩:=β H;have HT:=α hT;have HB:Hid _:=f;clear P hT;go_wp2_with fail;obtain⟨r1,r2,r3⟩:=Φ (u:= .slice (some ⟨U.ba,U.oa,none⟩) fs.length U.ca) (v:= .slice (some ⟨U.bn,U.on,none⟩) fs.length U.cn) H;refine bodyPost_ret (v:= .agg #[.slice (some ⟨U.ba,U.oa,none⟩) fs.length U.ca,.slice (some ⟨U.bn,U.on,none⟩) fs.length U.cn]) (by simp[results,results67,go_sem,r1,r2]) rfl ?_;have hn:(hn_ M x).n=fs.length:=aC;have aH:U.From (wo.heap.size+1) (hn_ M x).n:=by rw[hn];exact bm
       refine⟨av_ HB.out o_ _ _,U,hn_ M x,HL.out,by rw[hn],HT.out.res aH o_ _ _,aH.mono o_⟩
def w4_ (L:List Nat->Bool)(w:World)(e:Ending)(w':World):Prop:=
 Bl w w'/\∃(U:ρ) (R:γ),cg_ R L/\e= .returned (.tuple #[.agg #[.slice (some ⟨U.ba,U.oa,none⟩) R.n U.ca,.slice (some ⟨U.bn,U.on,none⟩) R.n U.cn],.int .i64 0])/\π w' U R
theorem afe_ (V:ρ)(M:γ)(w:World)(hM:M.Ok)(hV:π w V M):
 Calls prog 37 #[.agg #[.slice (some ⟨V.ba,V.oa,none⟩) M.n V.ca,.slice (some ⟨V.bn,V.on,none⟩) M.n V.cn]] w (w4_ M.accepts w):=by
 have z:=hM.lo;have I:=hM.hi;obtain⟨W,h,d,f,l⟩:=bl_ w #[.slice (some ⟨V.ba,V.oa,none⟩) M.n V.ca,.slice (some ⟨V.bn,V.on,none⟩) M.n V.cn] 41 #[.slice none 0 0,.slice none 0 0] 41;have E:w.heap.size+1<W.heap.size:=by rw[h];simp
 have g:=hV.below d;obtain⟨i,j,_,_⟩:=β f;go_enter func37,ntmps37;go_wp2_with fail;rw[<-h];clear h;refine(kn_ V M W hM g).mono ?_;rintro e C ⟨rfl,a⟩;have F:=a.size;have m:=(a.block _ o_).trans f;have o:=(a.block _ o_).trans l;have k:=nh_ V M C z o_ hM.nx (g.below a);have r:=η d a;clear i j f l a d g;obtain⟨i,j,_,_⟩:=β m;go_wp2_with fail;refine k.mono ?_;clear k;rintro e D ⟨c,U,R,p,rfl,q,y⟩;have G:=c.size;have d1:=(c.block _ o_).trans o;have s:=η r c;obtain⟨L,N,J,K⟩:=β d1;have t:Hid _:=p;have x:Hid _:=q;clear p q c i j m o;have H:w.heap.size+1<D.heap.size:=o_;go_wp2_with fail;obtain⟨A,B⟩:=mn_ (u:= .slice (some ⟨U.ba,U.oa,none⟩) R.n U.ca) (v:= .slice (some ⟨U.bn,U.on,none⟩) R.n U.cn) d1 (.cells #[.slice (some ⟨U.ba,U.oa,none⟩) R.n U.ca,.slice (some ⟨U.bn,U.on,none⟩) R.n U.cn] 41);refine bodyPost_ret (v:= .tuple #[.agg #[.slice (some ⟨U.ba,U.oa,none⟩) R.n U.ca,.slice (some ⟨U.bn,U.on,none⟩) R.n U.cn],.int .i64 0]) (by simp[results,results37,go_sem,A,B]) rfl ?_;exact⟨(av_ s (b:=w.heap.size+1) o_ _ _).alloc s_ _,U,R,t.out,rfl,(x.out.res y (b:=w.heap.size+1) o_ _ _).below ξ⟩
theorem aff_ (r:aj_)(A:Nat->Bool)(X:Nat->Nat->Int)(w:World)(h:az_ w r A X)(hok:Ο r X=false):
 Calls prog 37 #[.agg #[.slice r.aa r.na r.ca,.slice r.an r.nn r.cn]] w
  fun e w'=>e= .returned (.tuple #[.agg #[.slice none 0 0,.slice none 0 0],.int .i64 6])/\Bl w w':=by
 obtain⟨W,c,f,-,g⟩:=bl_ w #[.slice r.aa r.na r.ca,.slice r.an r.nn r.cn] 41 #[.slice none 0 0,.slice none 0 0] 41;have n:w.heap.size+1<W.heap.size:=by rw[c];simp
 have a:=li_ r A X W (h.below f);rw[hok]at a;clear h hok;go_enter func37,ntmps37;go_wp2_with fail;rw[<-c];clear c;refine a.mono ?_;rintro e t ⟨rfl,d⟩;have i:=(d.block _ o_).trans g;have j:=η f d;obtain⟨q,s,o,p⟩:=β i;have k:Hid _:=av_ j (b:=w.heap.size+1) o_ (.slice none 0 0) (.slice none 0 0);clear a d g;go_wp2_with fail;obtain⟨_,m,l⟩:=Φ (u:= .slice none 0 0) (v:= .slice none 0 0) i;refine bodyPost_ret (v:= .tuple #[.agg #[.slice none 0 0,.slice none 0 0],.int .i64 6]) (by simp[results,results37,go_sem,l,m]) rfl ?_;exact⟨rfl,k.out⟩
theorem afg_ (r:aj_)(A:Nat->Bool)(X:Nat->Nat->Int)(w:World)(h:az_ w r A X)(hok:Ο r X=false):
 Calls prog 39 #[.agg #[.slice r.aa r.na r.ca,.slice r.an r.nn r.cn]] w
  fun e w'=>e= .returned (.tuple #[.agg #[.slice none 0 0,.slice none 0 0],.int .i64 6])/\Bl w w':=by
 obtain⟨W,c,f,-,g⟩:=bl_ w #[.slice r.aa r.na r.ca,.slice r.an r.nn r.cn] 41 #[.slice none 0 0,.slice none 0 0] 41;have n:w.heap.size+1<W.heap.size:=by rw[c];simp
 have a:=li_ r A X W (h.below f);rw[hok]at a;clear h hok;go_enter func39,ntmps39;go_wp2_with fail;rw[<-c];clear c;refine a.mono ?_;rintro e t ⟨rfl,d⟩;have i:=(d.block _ o_).trans g;have j:=η f d;obtain⟨q,s,o,p⟩:=β i;have k:Hid _:=av_ j (b:=w.heap.size+1) o_ (.slice none 0 0) (.slice none 0 0);clear a d g;go_wp2_with fail;obtain⟨_,m,l⟩:=Φ (u:= .slice none 0 0) (v:= .slice none 0 0) i;refine bodyPost_ret (v:= .tuple #[.agg #[.slice none 0 0,.slice none 0 0],.int .i64 6]) (by simp[results,results39,go_sem,l,m]) rfl ?_;exact⟨rfl,k.out⟩
def ly_ (M:γ):γ:=⟨M.n,fun i=> !M.acc i,M.nxt⟩
structure ir_ (W:World)(b:Nat)(w:World)(va vn:Value)(k:Nat)(A:Nat->Bool):Prop where
 blw:Below b W w
 blk:w.heap[b]? =some (.cells #[va,vn] 41 (0,0))
 own:w.ownsRow (b+1) 4 1 va k (aa_ A k)
theorem ir_.below (h:ir_ W b w va vn k A)(hb:Bl w w2):ir_ W b w2 va vn k A:=
 ⟨h.blw.trans (hb.mono (by have:=κ h.blk;omega)),by rw[hb.block _ (κ h.blk)];exact h.blk,ao_ h.own hb⟩
theorem ir_.app (h:ir_ W b w va vn k A)(hown:w2.ownsRow (b+1) 4 1 (.slice (some ⟨g,0,none⟩) (k+1) cap) (k+1) (aa_ A k++ [.bool (A k)]))(hg:w.grownBy w2 va.ownBlock):
 w2.heap[b]? =some (.cells #[va,vn] 41 (0,0))/\ir_ W b (w2.setCell ⟨b,0,none⟩ (.slice (some ⟨g,0,none⟩) (k+1) cap)) (.slice (some ⟨g,0,none⟩) (k+1) cap) vn (k+1) A:=by
 have d:=κ h.blk;have c:=fun x e=>h.own.lt x e
 have a:w2.heap[b]? =some (.cells #[va,vn] 41 (0,0)):=by
  rw[hg.block _ d (fun e=>by have:=(c _ e.symm).1;omega)];exact h.blk
 exact⟨a,(h.blw.grown hg o_ (fun x e=>by have:=(c x e).1;omega)).setCell (p:=⟨b,0,none⟩) ι _,cd_ a,ownsRow_setCell_below hown i_ _⟩
theorem afh_ (V:ρ)(M:γ)(w:World)(hM:M.Ok)(hV:π w V M):
 Calls prog 39 #[.agg #[.slice (some ⟨V.ba,V.oa,none⟩) M.n V.ca,.slice (some ⟨V.bn,V.on,none⟩) M.n V.cn]] w (w4_ (fun x=> !M.accepts x) w):=by
 obtain⟨i4,an,ap,aq,ar⟩:=info_parts hc_;have l1:=hM.lo;have l2:=hM.hi;obtain⟨W,J,E,H,O⟩:=bl_ w #[.slice (some ⟨V.ba,V.oa,none⟩) M.n V.ca,.slice (some ⟨V.bn,V.on,none⟩) M.n V.cn] 41 #[.slice none 0 0,.slice none 0 0] 41;have ay:w.heap.size+1<W.heap.size:=by rw[J];simp
 have Y:=hV.below E;obtain⟨h,j,_,_⟩:=β H;go_enter func39,ntmps39;go_wp2_with fail;rw[<-J];clear J;refine(kn_ V M W hM Y).mono ?_;rintro e a ⟨rfl,r⟩;have aA:=r.size;have I:=(r.block _ o_).trans H;have P:=(r.block _ o_).trans O;have ah:=η E r;clear h j H O r E Y;obtain⟨h,j,_,_⟩:=β I;go_upto_region 5 with fail;obtain⟨q,ab,y,aB,d0⟩:=ν a #[.slice none 0 0,.slice none 0 0] 41;have d1:=(y.block _ o_).trans I;have d2:=(y.block _ o_).trans P;have ai:=η ah y;rw[<-ab];clear ab I P h j y;obtain⟨h,j,_,_⟩:=β d1;obtain⟨A,B,C,D⟩:=β d0;have L:ir_ q a.heap.size (q.setCell ⟨a.heap.size,1,none⟩ (.slice (some ⟨V.bn,V.on,none⟩) M.n V.cn)) (.slice none 0 0) (.slice (some ⟨V.bn,V.on,none⟩) M.n V.cn) 0 (fun i=> !M.acc i):=
  ⟨μ.setCell (p:=⟨a.heap.size,1,none⟩) ι _,fr_ d0,a8_⟩
 go_wp2_with fail;clear h j A B C D d0;go_loopw [6] (fun k' wr=>∃(k:Nat) (o:Value),k<=M.n/\k'= .int .i64 k/\ir_ q a.heap.size wr o (.slice (some ⟨V.bn,V.on,none⟩) M.n V.cn) k (fun i=> !M.acc i)) (fun k' _=>M.n - (intOf k').toNat)
 case atStart=>exact⟨0,_,o_,rfl,L⟩
 case round=>
  obtain⟨k,o,hk,rfl,d⟩:=hrel;clear L;have m:=η ai d.blw;obtain⟨h,j,_,_⟩:=β ((d.blw.block _ o_).trans d1);obtain⟨A,B,C,D⟩:=β d.blk;have aE:=κ d.blk;by_cases ao:k<M.n
  . have N:=(hV.below m).acc k ao;obtain⟨t,K⟩:=δ (M.acc k);rw[K.out]at N;have G:Hid (ir_ q a.heap.size ((wr.alloc (.cells #[.bool (!t)] 4)).drew) o (.slice (some ⟨V.bn,V.on,none⟩) M.n V.cn) k (fun i=> !M.acc i)):=d.below (ξ.drew);have af:=G.out.own;have F:Hid (∀(g l:Nat) (f:World),f.ownsRow (a.heap.size+1) 4 1 (.slice (some ⟨g,0,none⟩) (k+1) l) (k+1) (aa_ (fun i=> !M.acc i) k++ [.bool (!t)])->((wr.alloc (.cells #[.bool (!t)] 4)).drew).grownBy f o.ownBlock->
     f.heap[a.heap.size]? =some (.cells #[o,.slice (some ⟨V.bn,V.on,none⟩) M.n V.cn] 41 (0,0))/\ir_ q a.heap.size (f.setCell ⟨a.heap.size,0,none⟩ (.slice (some ⟨g,0,none⟩) (k+1) l)) (.slice (some ⟨g,0,none⟩) (k+1) l) (.slice (some ⟨V.bn,V.on,none⟩) M.n V.cn) (k+1) (fun i=> !M.acc i)):=by
     intro g l f ho hg;rw[<-K.out]at ho;exact G.out.app ho hg
    clear d m;go_upto_region 9 with fail;go_region_law
     ((refine step_append_lies _ (by rfl) _ _ _ (by rfl) (a.heap.size+1) 4 i4 (.bool false) 1 1 underlying38 an ap aq ar rfl d_ o k (aa_ (fun i=> !M.acc i) k) (by rfl) af ⟨wr.heap.size,0,none⟩ 1 1 [.bool (!t)] (by rfl) (by rfl) (cell_one_new _ _ _) (gt_ rfl) d_ u_ o_ s_ (wr.heap.size+1) i_ ?_;intro g l f ag ae al az;obtain⟨au,av,aw,ax⟩:=β (F.out g l f ag ae).1;clear al))
    all_goals
     have ak:Hid _:=(F.out g l f ag ae).2;clear F G af h j A B C D N;go_wp2_with fail;go_roundw
     case rel=>exact⟨k+1,_,o_,by go_num,ak.out⟩
     case measure=>exact c_
  . have he:k=M.n:=o_;subst he;obtain⟨aa,ca,rfl,ac⟩:=Β d.own;obtain⟨S,rfl,ad⟩:=ac o_;have Z:π wr ⟨S,0,ca,V.bn,V.on,V.cn,V.rb,V.ro,V.rc⟩ (ly_ M):=by
     refine⟨fun i hi=> ?_,fun i hi=>(hV.below m).row i hi,fun i c hi hc=>(hV.below m).cel i c hi hc⟩;have am:i<M.n:=hi;simp only[Nat.zero_add];rw[ad i o_,n6_ _ _ _ am];rfl
    have s:=nh_ ⟨S,0,ca,V.bn,V.on,V.cn,V.rb,V.ro,V.rc⟩ (ly_ M) wr l1 (by show M.n<=100000000;omega) hM.nx Z;have hn:(ly_ M).n=M.n:=rfl;rw[hn]at s;simp only at s;have e2:=(d.blw.block _ o_).trans d2;have HB:Hid _:=m;clear d ac ad Z m;go_wp2_with fail;refine s.mono ?_;clear s;rintro e w3 ⟨z,U,R,T,rfl,X,hF⟩;have aC:=z.size;have Q:=(z.block _ o_).trans e2;have aj:=η HB.out z;obtain⟨q0,q1,p0,p1⟩:=β Q;have HR:Hid _:=T;have HT:Hid _:=X;clear T X z h j A B C D;have aD:w.heap.size+1<w3.heap.size:=o_;go_wp2_with fail;obtain⟨r1,r2⟩:=mn_ (u:= .slice (some ⟨U.ba,U.oa,none⟩) R.n U.ca) (v:= .slice (some ⟨U.bn,U.on,none⟩) R.n U.cn) Q (.cells #[.slice (some ⟨U.ba,U.oa,none⟩) R.n U.ca,.slice (some ⟨U.bn,U.on,none⟩) R.n U.cn] 41);refine bodyPost_ret (v:= .tuple #[.agg #[.slice (some ⟨U.ba,U.oa,none⟩) R.n U.ca,.slice (some ⟨U.bn,U.on,none⟩) R.n U.cn],.int .i64 0]) (by simp[results,results39,go_sem,r1,r2]) rfl ?_;exact⟨(av_ aj (b:=w.heap.size+1) o_ _ _).alloc s_ _,U,R,HR.out,rfl,(HT.out.res hF (b:=w.heap.size+1) o_ _ _).below ξ⟩
end Go.Proofs.YtpngikmcjkjdaaaGreatDoor
