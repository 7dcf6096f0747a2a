import Derived.BigRegion
import Derived.ChangeAlike
import Derived.Deep.DeepCutAuto
import Derived.Deep.OwnRows
import Derived.RegionTactic
import Derived.Test.YtpngikmcjkjdaaaGreatDoorC3
set_option linter.unusedVariables false
set_option linter.unusedSimpArgs false
set_option maxRecDepth 20000
set_option maxHeartbeats 80000000
namespace Go.Proofs.YtpngikmcjkjdaaaGreatDoor
open Go.RowKit Tryz List Nat
variable {b m t:Nat} {w':World}
theorem hc_:(prog.info? 4).map (fun i=>(i.zero,i.size,i.bytes))=some (some (.bool false),1,1):=k_
theorem mn_:(prog.info? 24).map (fun i=>(i.zero,i.size,i.bytes))=some (some (.slice none 0 0),1,24):=k_
structure cy_ (B:Nat)(W w:World)(gA gN bT n:Nat)(k:Nat)(A:Nat->Bool)(X:Nat->Nat->Nat)(R:Nat->Nat):Prop where
 cz:Below (B+1+1) W w
 cg:w.heap[bT]? =some (.cells #[.slice (some ⟨gA,0,none⟩) n n,.slice (some ⟨gN,0,none⟩) n n] 41 (0,0))
 rA:w.rowIs gA 4 n (fun i=>if i<k then .bool (A i)else .bool false)
 rN:w.rowIs gN 24 n (fun i=>if i<k then .slice (some ⟨R i,0,none⟩) 8 8 else .slice none 0 0)
 rR:∀i,i<k->w.rowIs (R i) 3 8 (fun c=> .int .i64 (X i c))
 dT:B+2<=gA
 ed:B+2<=gN
 ei:B+2<=bT
 eg:gA≠gN
 eu:gA≠bT
 eF:gN≠bT
 dR:∀i,i<k->R i≠gA/\R i≠gN/\R i≠bT/\B+2<=R i
 inj:∀i j,i<j->j<k->R i≠R j
variable {B:Nat} {W w w1:World} {gA gN bT n k:Nat} {A:Nat->Bool} {X:Nat->Nat->Nat} {R:Nat->Nat}
theorem cy_.alloc (h:cy_ B W w gA gN bT n k A X R)(o:Obj):cy_ B W (w.alloc o) gA gN bT n k A X R where
 cz:=h.cz.alloc (by have:=κ h.cg;have:=h.ei;omega) o
 cg:=φ h.cg
 rA:=h.rA.alloc o
 rN:=h.rN.alloc o
 rR i hi:=(h.rR i hi).alloc o
 dT:=h.dT
 ed:=h.ed
 ei:=h.ei
 eg:=h.eg
 eu:=h.eu
 eF:=h.eF
 dR:=h.dR
 inj:=h.inj
theorem cy_.drew (h:cy_ B W w gA gN bT n k A X R):cy_ B W w.drew gA gN bT n k A X R:=
 ⟨h.cz.drew,h.cg,h.rA,h.rN,h.rR,h.dT,h.ed,h.ei,h.eg,h.eu,h.eF,h.dR,h.inj⟩
theorem cy_.setOther (h:cy_ B W w gA gN bT n k A X R){a:Addr}(v:Value)(h0:B+2<=a.block)(h1:a.block≠gA)(h2:a.block≠gN)(h3:a.block≠bT)(h4:∀i,i<k->R i≠a.block):
 cy_ B W (w.setCell a v) gA gN bT n k A X R where
 cz:=h.cz.setCell h0 v
 cg:=a3_ h.cg (fun e=>h3 e.symm)
 rA:=h.rA.setOther (fun e=>h1 e.symm) v
 rN:=h.rN.setOther (fun e=>h2 e.symm) v
 rR i hi:=(h.rR i hi).setOther (h4 i hi) v
 dT:=h.dT
 ed:=h.ed
 ei:=h.ei
 eg:=h.eg
 eu:=h.eu
 eF:=h.eF
 dR:=h.dR
 inj:=h.inj
theorem cy_.next (h:cy_ B W w gA gN bT n k A X R){g:Nat}(hg:w.rowIs g 3 8 (fun c=> .int .i64 (X k c)))(hd:g≠gA/\g≠gN/\g≠bT/\B+2<=g)(hk:k<n)(hne:∀i,i<k->R i≠g):
 cy_ B W ((w.setCell ⟨gA,k,none⟩ (.bool (A k))).setCell ⟨gN,k,none⟩ (.slice (some ⟨g,0,none⟩) 8 8)) gA gN bT n (k+1) A X (fun i=>if i=k then g else R i) where
 cz:=(h.cz.setCell (p:=⟨gA,k,none⟩) h.dT _).setCell (p:=⟨gN,k,none⟩) h.ed _
 cg:=a3_ (a3_ h.cg (fun e=>h.eu e.symm)) (fun e=>h.eF e.symm)
 rA:=((h.rA.set k (.bool (A k))).setOther h.eg _).congr (fun i hi=>by
  by_cases e:i=k
  . subst e;simp
  . simp only[if_neg e];by_cases h':i<k
    . rw[if_pos h',if_pos o_]
    . rw[if_neg h',if_neg o_])
 rN:=((h.rN.setOther (a:=⟨gA,k,none⟩) (fun e=>h.eg e.symm) _).set k _).congr (fun i hi=>by
  by_cases e:i=k
  . subst e;simp
  . simp only[if_neg e];by_cases h':i<k
    . rw[if_pos h',if_pos o_]
    . rw[if_neg h',if_neg o_])
 rR i hi:=by
  by_cases e:i=k
  . subst e;simp only[if_true];exact(hg.setOther hd.1 _).setOther hd.2.1 _
  . simp only[if_neg e];have:=h.dR i o_;exact((h.rR i o_).setOther this.1 _).setOther this.2.1 _
 dT:=h.dT
 ed:=h.ed
 ei:=h.ei
 eg:=h.eg
 eu:=h.eu
 eF:=h.eF
 dR i hi:=by
  by_cases e:i=k
  . subst e;simp only[if_true];exact hd
  . simp only[if_neg e];exact h.dR i o_
 inj i j hij hj:=by
  by_cases e:j=k
  . subst e;simp only[if_true,if_neg (show i≠j by omega)];exact hne i o_
  . simp only[if_neg e,if_neg (show i≠k by omega)];exact h.inj i j hij o_
theorem h5_ {w:World}{n:Nat}{z:Value}(h:w.heap[b]? =some (.cells (madeCells #[z] n) t (0,0))):w.rowIs b t n (fun _=>z):=
 ⟨_,h,size_madeCells _ _,fun i hi=>by simp[madeCells,hi,mod_one]⟩
theorem cy_.start (hb:Below (B+1+1) W w)(hT:w.heap[bT]? =some (.cells #[.slice (some ⟨gA,0,none⟩) n n,.slice (some ⟨gN,0,none⟩) n n] 41 (0,0)))
 (hA:w.heap[gA]? =some (.cells (madeCells #[.bool false] n) 4 (0,0))) (hN:w.heap[gN]? =some (.cells (madeCells #[.slice none 0 0] n) 24 (0,0)))
 (h1:B+2<=gA) (h2:B+2<=gN) (h3:B+2<=bT) (h4:gA≠gN) (h5:gA≠bT) (h6:gN≠bT):cy_ B W w gA gN bT n 0 A X (fun _=>0):=
 ⟨hb,hT,(h5_ hA).congr (fun i _=>i_),(h5_ hN).congr (fun i _=>i_),fun i hi=>absurd hi o_,h1,h2,h3,h4,h5,h6,fun i hi=>absurd hi o_,fun i j _ hj=>absurd hj o_⟩
structure h6_ (w:World)(V:ρ)(n:Nat):Prop where
 oa:V.oa=0
 on:V.on=0
 ca:V.ca=n
 cn:V.cn=n
 ro:∀i,i<n->V.ro i=0/\V.rc i=8
 inj:∀i j,i<j->j<n->V.rb i≠V.rb j
 sa:∃c,w.heap[V.ba]? =some (.cells c 4 (0,0))/\n<=c.size
 sn:∃c,w.heap[V.bn]? =some (.cells c 24 (0,0))/\n<=c.size
 sr:∀i,i<n->∃c,w.heap[V.rb i]? =some (.cells c 3 (0,0))/\8<=c.size
theorem ju_ {w:World}(h:∃c,w.heap[b]? =some (.cells c t (0,0))/\m<=c.size)(q o:Nat)(u:Value):∃c,(w.setCell ⟨q,o,none⟩ u).heap[b]? =some (.cells c t (0,0))/\m<=c.size:=by
 obtain⟨c,a,d⟩:=h;by_cases e:b=q
 . subst e;refine⟨c.setIfInBounds o u, ?_,by simpa using d⟩;simp[World.setCell,Array.getElem?_modify,a]
 . exact⟨c,a3_ a e,d⟩
theorem tl_ {w:World}(h:∃c,w.heap[b]? =some (.cells c t (0,0))/\m<=c.size)(hb:Bl w w'):∃c,w'.heap[b]? =some (.cells c t (0,0))/\m<=c.size:=by
 obtain⟨c,a,d⟩:=h;exact⟨c,by rw[hb.block _ (κ a)];exact a,d⟩
theorem h6_.set {w:World}{V:ρ}{n:Nat}(h:h6_ w V n)(q o:Nat)(u:Value):h6_ (w.setCell ⟨q,o,none⟩ u) V n:=
 ⟨h.oa,h.on,h.ca,h.cn,h.ro,h.inj,ju_ h.sa q o u,ju_ h.sn q o u,fun i hi=>ju_ (h.sr i hi) q o u⟩
theorem h6_.below {w:World}{V:ρ}{n:Nat}(h:h6_ w V n)(hb:Bl w w'):h6_ w' V n:=
 ⟨h.oa,h.on,h.ca,h.cn,h.ro,h.inj,tl_ h.sa hb,tl_ h.sn hb,fun i hi=>tl_ (h.sr i hi) hb⟩
theorem tm_ {w:World}{f:Nat->Value}(h:w.rowIs b t m f):∃c,w.heap[b]? =some (.cells c t (0,0))/\m<=c.size:=by
 obtain⟨c,a,d,_⟩:=h;exact⟨c,a,o_⟩
theorem am8_ (gw ga ca gn cn go co gh ch:Nat)(M:γ)(f:Nat->Nat)(hs:List Nat)(w:World)(hM:gj_ w gw ga ca gn cn M)(hf:dc_ w go M.n f)(hh:dc_ w gh hs.length (fun i=>hs.getD i 0))
 (hl0:1<=hs.length) (hl:hs.length<=40) (hhd:∀c,c<hs.length->hs.getD c 0<M.n) (hn:M.n<=100000000) (hnx:∀i c,i<M.n->c<8->M.b7 i c<M.n):
 Calls prog 167 #[.pointer (some ⟨gw,0,none⟩),.agg #[.slice (some ⟨go,0,none⟩) M.n co,.slice (some ⟨gh,0,none⟩) hs.length ch]] w
  fun e w'=>∃V:ρ,e= .returned (.agg #[.slice (some ⟨V.ba,V.oa,none⟩) hs.length V.ca,.slice (some ⟨V.bn,V.on,none⟩) hs.length V.cn])/\π w' V (fk_ M f hs)/\V.cP w.heap.size hs.length/\Bl w w'/\h6_ w' V hs.length:=by
 have ac:=run_make_row' (P:=prog) 38 4 (.bool false) 1 underlying38 hc_ rfl .i64 .i64 hs.length o_ o_;have ad:=run_make_row' (P:=prog) 39 24 (.slice none 0 0) 24 underlying39 mn_ rfl .i64 .i64 hs.length o_ o_;have X:=run_make_row' (P:=prog) 24 3 (.int .i64 0) 8 underlying24 e9_ rfl .i64 .i64 8 o_ o_;obtain⟨W,y,N,-,k4⟩:=bl_ w #[.slice (some ⟨go,0,none⟩) M.n co,.slice (some ⟨gh,0,none⟩) hs.length ch] 215 #[.slice none 0 0,.slice none 0 0] 41;have b:W.heap.size=w.heap.size+1+1:=by rw[y];simp
 have k2:W.cell? ⟨w.heap.size,0,none⟩=some (.slice (some ⟨go,0,none⟩) M.n co):=by rw[y];simp[go_sem]
 have k3:W.cell? ⟨w.heap.size,1,none⟩=some (.slice (some ⟨gh,0,none⟩) hs.length ch):=by rw[y];simp[go_sem]
 go_enter func167,ntmps167;go_upto_region 2 with fail;rw[<-y];clear y;go_cut [6] (fun p wc=>∃g h q:Nat,p= .pointer (some ⟨q,0,none⟩)/\cy_ w.heap.size W wc g h q hs.length 0 (fun i=>M.acc (hs.getD i 0)) (fun i c=>f (M.b7 (hs.getD i 0) c)) (fun _=>0))
 case first=>
  go_region
  all_goals go_wp2_with fail
  all_goals go_meet
  all_goals first|(refine⟨w.heap.size+1+1,w.heap.size+1+1+1,_,rfl,cy_.drew (cy_.start ?_ ?_ ?_ ?_ ?_ ?_ ?_ ?_ ?_ ?_)⟩<;>(first|omega|exact((μ.alloc o_ _).alloc s_ _).alloc s_ _|exact ο (by simp[b])|exact φ (ο (by simp[b]))|exact φ (φ (ο (by simp[b]))));done)|(refine⟨w.heap.size+1+1,w.heap.size+1+1+1+1,_,rfl,cy_.drew (cy_.start ?_ ?_ ?_ ?_ ?_ ?_ ?_ ?_ ?_ ?_)⟩<;>(first|omega|exact((μ.alloc o_ _).alloc s_ _).alloc s_ _|exact ο (by simp[b])|exact φ (ο (by simp[b]))|exact φ (φ (ο (by simp[b]))));done)|(refine⟨w.heap.size+1+1+1,w.heap.size+1+1,_,rfl,cy_.drew (cy_.start ?_ ?_ ?_ ?_ ?_ ?_ ?_ ?_ ?_ ?_)⟩<;>(first|omega|exact((μ.alloc o_ _).alloc s_ _).alloc s_ _|exact ο (by simp[b])|exact φ (ο (by simp[b]))|exact φ (φ (ο (by simp[b]))));done)|(refine⟨w.heap.size+1+1+1,w.heap.size+1+1+1+1,_,rfl,cy_.drew (cy_.start ?_ ?_ ?_ ?_ ?_ ?_ ?_ ?_ ?_ ?_)⟩<;>(first|omega|exact((μ.alloc o_ _).alloc s_ _).alloc s_ _|exact ο (by simp[b])|exact φ (ο (by simp[b]))|exact φ (φ (ο (by simp[b]))));done)|(refine⟨w.heap.size+1+1+1+1,w.heap.size+1+1,_,rfl,cy_.drew (cy_.start ?_ ?_ ?_ ?_ ?_ ?_ ?_ ?_ ?_ ?_)⟩<;>(first|omega|exact((μ.alloc o_ _).alloc s_ _).alloc s_ _|exact ο (by simp[b])|exact φ (ο (by simp[b]))|exact φ (φ (ο (by simp[b]))));done)|(refine⟨w.heap.size+1+1+1+1,w.heap.size+1+1+1,_,rfl,cy_.drew (cy_.start ?_ ?_ ?_ ?_ ?_ ?_ ?_ ?_ ?_ ?_)⟩<;>(first|omega|exact((μ.alloc o_ _).alloc s_ _).alloc s_ _|exact ο (by simp[b])|exact φ (ο (by simp[b]))|exact φ (φ (ο (by simp[b]))));done)
 case rest=>
  obtain⟨g,h,q,rfl,J⟩:=hcut;simp only[show((8:Nat):Int)=8 from rfl]at X;have z3:=(J.cz.cell (p:=⟨w.heap.size,1,none⟩) l_).trans k3;go_wp2_with fail;clear z3;go_loopw [22] (fun ix wr=>∃k:Nat,∃R:Nat->Nat,k<=hs.length/\ix= .int .i64 k/\cy_ w.heap.size W wr g h q hs.length k (fun i=>M.acc (hs.getD i 0)) (fun i c=>f (M.b7 (hs.getD i 0) c)) R)
   (fun ix _=>hs.length - (intOf ix).toNat)
  case atStart=>exact⟨0,_,o_,rfl,J⟩
  case round=>
   obtain⟨k,R,hk,rfl,s⟩:=hrel;clear J ac ad;have A:=s.cz;have S:=η N A;by_cases z:k<hs.length
   . have x:=hh.below S k z;have C:=hhd k z;have o:=α s;clear s A;simp only at x;obtain⟨m,E⟩:=δ (hs.getD k 0);rw[E.out]at x C;go_wp2_with fail;clear x X;have ae:q<wr.heap.size/\g<wr.heap.size/\h<wr.heap.size:=⟨κ o.out.cg,o.out.rA.lt,o.out.rN.lt⟩;have aa:w.heap.size+2<=wr.heap.size:=by have:=o.out.ei;omega
     have D:∀i,i<k->R i<wr.heap.size:=fun i hi=>(o.out.rR i hi).lt
     rename World=>wo
     go_loopw [10] (fun c' wi=>∃c:Nat,c<=8/\c'= .int .i64 c/\cy_ w.heap.size W wi g h q hs.length k (fun i=>M.acc (hs.getD i 0)) (fun i c=>f (M.b7 (hs.getD i 0) c)) R/\
      wi.rowIs wo.heap.size 3 8 (fun j=>if j<c then .int .i64 (f (M.b7 m j))else .int .i64 0))
      (fun c' _=>8 - (intOf c').toNat)
     case atStart=>exact⟨0,o_,rfl,o.out.alloc _,(h5_ (ο rfl)).congr (fun i _=>i_)⟩
     case round=>
      obtain⟨c,T,rfl,l,t⟩:=hrel;have B:=l.cz;have r:=η N B;have x0:=(hM.below r).p0;have x1:=(hM.below r).p1;have x2:=(B.cell (p:=⟨w.heap.size,0,none⟩) l_).trans k2;by_cases L:c<8
      . have Y:=(hM.below r).cT _ c C L;have n1:=hnx _ c C L;have c2:=hf.below r _ n1;have I:=t.cell L;have Z:=t.frozen c;simp only[Nat.lt_irrefl,if_false]at I;have G:=α l;have H:=α t;have F:=α D;clear l t hM hf hnx B r hh hhd D;go_wp2_with fail;go_region
        go_wp2
        go_roundw
        case rel=>
         refine⟨c+1,o_,by go_num, ?_, ?_⟩
         . exact(G.out.drew).setOther _ (by have:=aa;simp;omega) s_ s_ s_ (fun i hi=>by have:=F.out i hi;simp;omega)
         . exact(H.out.drew.set c _).congr (fun j _=>by
            by_cases e:j=c
            . subst e;simp
            . simp only[if_neg e];by_cases O:j<c
              . rw[if_pos O,if_pos o_]
              . rw[if_neg O,if_neg o_])
        case measure=>exact c_
      . have K:c=8:=o_;subst K;have Y:=(hM.below r).acc _ C;obtain⟨y0,y1,_,_⟩:=β l.cg;have I:=l.rA.cell z;have Z:=l.rA.frozen k;have c5:=l.rN.cell z;have c6:=l.rN.frozen k;have d1:=l.eg;have d2:=l.eu;have d3:=l.eF;have d4:¬h=g:=fun e=>d1 e.symm
        have d5:¬q=g:=fun e=>d2 e.symm
        have d6:¬q=h:=fun e=>d3 e.symm
        simp only[Nat.lt_irrefl,if_false]at I c5;have G:=α l;have H:=α t;have F:=α D;clear l t hM hf hnx B r hh hhd D;go_wp2_with fail;go_region
        go_wp2
        go_roundw
        case rel=>
         have ab:wr.drew.rowIs wo.heap.size 3 8 (fun j=> .int .i64 (f (M.b7 (hs.getD k 0) j))):=by rw[E.out];exact H.out.congr (fun j hj=>by rw[if_pos hj])
         have Q:=G.out.drew.next ab ⟨o_,o_,o_,o_⟩ z (fun i hi=>by have:=F.out i hi;omega);rw[E.out]at Q;exact⟨k+1,_,o_,by go_num,Q⟩
        case measure=>exact c_
   . have K:k=hs.length:=o_;subst K;obtain⟨y0,y1,_,_⟩:=β s.cg;have U:wr.heap[w.heap.size+1]? =some (.cells #[.slice none 0 0,.slice none 0 0] 41 (0,0)):=(A.block _ o_).trans k4;obtain⟨q0,q1,p0,p1⟩:=β U;have o:=α s;clear s hM hf hnx A hh hhd;go_wp2
     obtain⟨r1,r2,r3⟩:=Φ (u:= .slice (some ⟨g,0,none⟩) hs.length hs.length) (v:= .slice (some ⟨h,0,none⟩) hs.length hs.length) U;refine bodyPost_ret (v:= .agg #[.slice (some ⟨g,0,none⟩) hs.length hs.length,.slice (some ⟨h,0,none⟩) hs.length hs.length]) (by simp[results,results167,go_sem,r1,r2]) rfl ?_;have d:=o.out;refine⟨⟨g,0,hs.length,h,0,hs.length,R,fun _=>0,fun _=>8⟩,rfl,⟨fun i hi=> ?_,fun i hi=> ?_,fun i c hi T=> ?_⟩,⟨by have:=d.dT;simp;omega,by have:=d.ed;simp;omega,fun i hi=>by have:=(d.dR i hi).2.2.2;simp;omega⟩, ?_, ?_⟩
     . have m:=((d.rA.setOther (a:=⟨w.heap.size+1,0,none⟩) (by have:=d.dT;simp;omega) (.slice (some ⟨g,0,none⟩) hs.length hs.length)).setOther (a:=⟨w.heap.size+1,1,none⟩) (by have:=d.dT;simp;omega) (.slice (some ⟨h,0,none⟩) hs.length hs.length)).cell hi;rw[if_pos (show i<hs.length from hi)]at m;simpa [fk_] using m
     . have m:=((d.rN.setOther (a:=⟨w.heap.size+1,0,none⟩) (by have:=d.ed;simp;omega) (.slice (some ⟨g,0,none⟩) hs.length hs.length)).setOther (a:=⟨w.heap.size+1,1,none⟩) (by have:=d.ed;simp;omega) (.slice (some ⟨h,0,none⟩) hs.length hs.length)).cell hi;rw[if_pos (show i<hs.length from hi)]at m;simpa [fk_] using m
     . have hd:=(d.dR i hi).2.2.2;have m:=(((d.rR i hi).setOther (a:=⟨w.heap.size+1,0,none⟩) s_ (.slice (some ⟨g,0,none⟩) hs.length hs.length)).setOther (a:=⟨w.heap.size+1,1,none⟩) s_ (.slice (some ⟨h,0,none⟩) hs.length hs.length)).cell T;simpa [fk_] using m
     . exact(S.setCell (p:=⟨w.heap.size+1,0,none⟩) l_ _).setCell (p:=⟨w.heap.size+1,1,none⟩) l_ _
     . refine⟨rfl,rfl,rfl,rfl,fun i hi=>⟨rfl,rfl⟩,d.inj, ?_, ?_,fun i hi=> ?_⟩
       . exact ju_ (ju_ (tm_ d.rA) _ _ _) _ _ _
       . exact ju_ (ju_ (tm_ d.rN) _ _ _) _ _ _
       . exact ju_ (ju_ (tm_ (d.rR i hi)) _ _ _) _ _ _
end Go.Proofs.YtpngikmcjkjdaaaGreatDoor
