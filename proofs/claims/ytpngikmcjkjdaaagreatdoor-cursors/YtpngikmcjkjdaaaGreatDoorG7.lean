import Derived.Test.YtpngikmcjkjdaaaGreatDoorG0
import Derived.BigRegion
import Derived.ChangeAlike
import Derived.Deep.DeepCutAuto
import Derived.Deep.OwnRows
import Derived.RegionTactic
import Derived.Test.YtpngikmcjkjdaaaGreatDoorG4
set_option linter.unusedVariables false
set_option linter.unusedSimpArgs false
set_option maxRecDepth 20000
set_option maxHeartbeats 80000000
namespace Go.Proofs.YtpngikmcjkjdaaaGreatDoor
open Go.RowKit Tryz
theorem fa_:(prog.info? 4).map (fun i=>(i.zero,i.size,i.bytes))=some (some (.bool false),1,1):=k_
theorem ke_:(prog.info? 24).map (fun i=>(i.zero,i.size,i.bytes))=some (some (.slice none 0 0),1,24):=k_
structure bp_ (B:Nat)(W w:World)(gA gN bT n:Nat)(k:Nat)(A:Nat->Bool)(X:Nat->Nat->Nat)(R:Nat->Nat):Prop where
 blw:Below (B+1+1) W w
 blk:w.heap[bT]? =some (.cells #[.slice (some ⟨gA,0,none⟩) n n,.slice (some ⟨gN,0,none⟩) n n] 41 (0,0))
 rA:w.rowIs gA 4 n (fun i=>if i<k then .bool (A i)else .bool false)
 rN:w.rowIs gN 24 n (fun i=>if i<k then .slice (some ⟨R i,0,none⟩) 8 8 else .slice none 0 0)
 rR:∀i,i<k->w.rowIs (R i) 3 8 (fun c=> .int .i64 (X i c))
 loA:B+2<=gA
 loN:B+2<=gN
 loT:B+2<=bT
 dAN:gA≠gN
 dAT:gA≠bT
 dNT:gN≠bT
 dR:∀i,i<k->R i≠gA/\R i≠gN/\R i≠bT/\B+2<=R i
 inj:∀i j,i<j->j<k->R i≠R j
variable {B:Nat} {W w w1:World} {gA gN bT n k:Nat} {A:Nat->Bool} {X:Nat->Nat->Nat} {R:Nat->Nat}
theorem bp_.alloc (h:bp_ B W w gA gN bT n k A X R)(o:Obj):bp_ B W (w.alloc o) gA gN bT n k A X R where
 blw:=h.blw.alloc (by have:=ac_ h.blk;have:=h.loT;omega) o
 blk:=ah_ h.blk
 rA:=h.rA.alloc o
 rN:=h.rN.alloc o
 rR i hi:=(h.rR i hi).alloc o
 loA:=h.loA
 loN:=h.loN
 loT:=h.loT
 dAN:=h.dAN
 dAT:=h.dAT
 dNT:=h.dNT
 dR:=h.dR
 inj:=h.inj
theorem bp_.drew (h:bp_ B W w gA gN bT n k A X R):bp_ B W w.drew gA gN bT n k A X R:=
 ⟨h.blw.drew,h.blk,h.rA,h.rN,h.rR,h.loA,h.loN,h.loT,h.dAN,h.dAT,h.dNT,h.dR,h.inj⟩
theorem bp_.setOther (h:bp_ B W w gA gN bT n k A X R){a:Addr}(v:Value)(h0:B+2<=a.block)(h1:a.block≠gA)(h2:a.block≠gN)(h3:a.block≠bT)(h4:∀i,i<k->R i≠a.block):
 bp_ B W (w.setCell a v) gA gN bT n k A X R where
 blw:=h.blw.setCell h0 v
 blk:=aj_ h.blk (fun e=>h3 e.symm)
 rA:=h.rA.setOther (fun e=>h1 e.symm) v
 rN:=h.rN.setOther (fun e=>h2 e.symm) v
 rR i hi:=(h.rR i hi).setOther (h4 i hi) v
 loA:=h.loA
 loN:=h.loN
 loT:=h.loT
 dAN:=h.dAN
 dAT:=h.dAT
 dNT:=h.dNT
 dR:=h.dR
 inj:=h.inj
theorem bp_.next (h:bp_ B W w gA gN bT n k A X R){g:Nat}(hg:w.rowIs g 3 8 (fun c=> .int .i64 (X k c)))(hd:g≠gA/\g≠gN/\g≠bT/\B+2<=g)(hk:k<n)(hne:∀i,i<k->R i≠g):
 bp_ B W ((w.setCell ⟨gA,k,none⟩ (.bool (A k))).setCell ⟨gN,k,none⟩ (.slice (some ⟨g,0,none⟩) 8 8)) gA gN bT n (k+1) A X (fun i=>if i=k then g else R i) where
 blw:=(h.blw.setCell (p:=⟨gA,k,none⟩) h.loA _).setCell (p:=⟨gN,k,none⟩) h.loN _
 blk:=aj_ (aj_ h.blk (fun e=>h.dAT e.symm)) (fun e=>h.dNT e.symm)
 rA:=((h.rA.set k (.bool (A k))).setOther h.dAN _).congr (fun i hi=>by
  by_cases e:i=k
  . subst e;simp
  . simp only[if_neg e];by_cases h':i<k
    . rw[if_pos h',if_pos o_]
    . rw[if_neg h',if_neg o_])
 rN:=((h.rN.setOther (a:=⟨gA,k,none⟩) (fun e=>h.dAN e.symm) _).set k _).congr (fun i hi=>by
  by_cases e:i=k
  . subst e;simp
  . simp only[if_neg e];by_cases h':i<k
    . rw[if_pos h',if_pos o_]
    . rw[if_neg h',if_neg o_])
 rR i hi:=by
  by_cases e:i=k
  . subst e;simp only[if_true];exact(hg.setOther hd.1 _).setOther hd.2.1 _
  . simp only[if_neg e];have:=h.dR i o_;exact((h.rR i o_).setOther this.1 _).setOther this.2.1 _
 loA:=h.loA
 loN:=h.loN
 loT:=h.loT
 dAN:=h.dAN
 dAT:=h.dAT
 dNT:=h.dNT
 dR i hi:=by
  by_cases e:i=k
  . subst e;simp only[if_true];exact hd
  . simp only[if_neg e];exact h.dR i o_
 inj i j hij hj:=by
  by_cases e:j=k
  . subst e;simp only[if_true,if_neg (show i≠j by omega)];exact hne i o_
  . simp only[if_neg e,if_neg (show i≠k by omega)];exact h.inj i j hij o_
theorem c2_ {w:World}{b t n:Nat}{z:Value}(h:w.heap[b]? =some (.cells (madeCells #[z] n) t (0,0))):w.rowIs b t n (fun _=>z):=
 ⟨_,h,size_madeCells _ _,fun i hi=>by simp[madeCells,hi,Nat.mod_one]⟩
theorem bp_.start (hb:Below (B+1+1) W w)(hT:w.heap[bT]? =some (.cells #[.slice (some ⟨gA,0,none⟩) n n,.slice (some ⟨gN,0,none⟩) n n] 41 (0,0)))
 (hA:w.heap[gA]? =some (.cells (madeCells #[.bool false] n) 4 (0,0))) (hN:w.heap[gN]? =some (.cells (madeCells #[.slice none 0 0] n) 24 (0,0)))
 (h1:B+2<=gA) (h2:B+2<=gN) (h3:B+2<=bT) (h4:gA≠gN) (h5:gA≠bT) (h6:gN≠bT):bp_ B W w gA gN bT n 0 A X (fun _=>0):=
 ⟨hb,hT,(c2_ hA).congr (fun i _=>i_),(c2_ hN).congr (fun i _=>i_),fun i hi=>absurd hi o_,h1,h2,h3,h4,h5,h6,fun i hi=>absurd hi o_,fun i j _ hj=>absurd hj o_⟩
structure g6_ (w:World)(V:Lay)(n:Nat):Prop where
 oa:V.oa=0
 on:V.on=0
 ca:V.ca=n
 cn:V.cn=n
 ro:∀i,i<n->V.ro i=0/\V.rc i=8
 inj:∀i j,i<j->j<n->V.rb i≠V.rb j
 sa:∃c,w.heap[V.ba]? =some (.cells c 4 (0,0))/\n<=c.size
 sn:∃c,w.heap[V.bn]? =some (.cells c 24 (0,0))/\n<=c.size
 sr:∀i,i<n->∃c,w.heap[V.rb i]? =some (.cells c 3 (0,0))/\8<=c.size
theorem e2_ {w:World}{b t m:Nat}(h:∃c,w.heap[b]? =some (.cells c t (0,0))/\m<=c.size)(q o:Nat)(u:Value):∃c,(w.setCell ⟨q,o,none⟩ u).heap[b]? =some (.cells c t (0,0))/\m<=c.size:=by
 obtain⟨c,hb,hm⟩:=h;by_cases e:b=q
 . subst e;refine⟨c.setIfInBounds o u, ?_,by simpa using hm⟩;simp[World.setCell,Array.getElem?_modify,hb]
 . exact⟨c,aj_ hb e,hm⟩
theorem j3_ {w w':World}{b t m:Nat}(h:∃c,w.heap[b]? =some (.cells c t (0,0))/\m<=c.size)(hb:Below w.heap.size w w'):∃c,w'.heap[b]? =some (.cells c t (0,0))/\m<=c.size:=by
 obtain⟨c,hc,hm⟩:=h;exact⟨c,by rw[hb.block _ (ac_ hc)];exact hc,hm⟩
theorem g6_.set {w:World}{V:Lay}{n:Nat}(h:g6_ w V n)(q o:Nat)(u:Value):g6_ (w.setCell ⟨q,o,none⟩ u) V n:=
 ⟨h.oa,h.on,h.ca,h.cn,h.ro,h.inj,e2_ h.sa q o u,e2_ h.sn q o u,fun i hi=>e2_ (h.sr i hi) q o u⟩
theorem g6_.below {w w':World}{V:Lay}{n:Nat}(h:g6_ w V n)(hb:Below w.heap.size w w'):g6_ w' V n:=
 ⟨h.oa,h.on,h.ca,h.cn,h.ro,h.inj,j3_ h.sa hb,j3_ h.sn hb,fun i hi=>j3_ (h.sr i hi) hb⟩
theorem mk_ {w:World}{b t m:Nat}{f:Nat->Value}(h:w.rowIs b t m f):∃c,w.heap[b]? =some (.cells c t (0,0))/\m<=c.size:=by
 obtain⟨c,hb,hn,_⟩:=h;exact⟨c,hb,o_⟩
theorem ac4_ (gw ga ca gn cn go co gh ch:Nat)(M:Tab)(f:Nat->Nat)(hs:List Nat)(w:World)(hM:ez_ w gw ga ca gn cn M)(hf:ch_ w go M.n f)(hh:ch_ w gh hs.length (fun i=>hs.getD i 0))
 (hl0:1<=hs.length) (hl:hs.length<=40) (hhd:∀c,c<hs.length->hs.getD c 0<M.n) (hn:M.n<=100000000) (hnx:∀i c,i<M.n->c<8->M.nxt i c<M.n):
 Calls prog 167 #[.pointer (some ⟨gw,0,none⟩),.agg #[.slice (some ⟨go,0,none⟩) M.n co,.slice (some ⟨gh,0,none⟩) hs.length ch]] w
  fun e w'=>∃V:Lay,e= .returned (.agg #[.slice (some ⟨V.ba,V.oa,none⟩) hs.length V.ca,.slice (some ⟨V.bn,V.on,none⟩) hs.length V.cn])/\av_ w' V (dy_ M f hs)/\V.From w.heap.size hs.length/\Below w.heap.size w w'/\g6_ w' V hs.length:=by
 have mk1:=run_make_row' (P:=prog) 38 4 (.bool false) 1 underlying38 fa_ rfl .i64 .i64 hs.length o_ o_;have mk2:=run_make_row' (P:=prog) 39 24 (.slice none 0 0) 24 underlying39 ke_ rfl .i64 .i64 hs.length o_ o_;have mk3:=run_make_row' (P:=prog) 24 3 (.int .i64 0) 8 underlying24 du_ rfl .i64 .i64 8 o_ o_;obtain⟨W,hW,BW,-,k4⟩:=n2__ w #[.slice (some ⟨go,0,none⟩) M.n co,.slice (some ⟨gh,0,none⟩) hs.length ch] 215 #[.slice none 0 0,.slice none 0 0] 41;have hWs:W.heap.size=w.heap.size+1+1:=by rw[hW];simp
 have k2:W.cell? ⟨w.heap.size,0,none⟩=some (.slice (some ⟨go,0,none⟩) M.n co):=by rw[hW];simp[go_sem]
 have k3:W.cell? ⟨w.heap.size,1,none⟩=some (.slice (some ⟨gh,0,none⟩) hs.length ch):=by rw[hW];simp[go_sem]
 go_enter func167,ntmps167;go_upto_region 2 with fail;rw[<-hW];clear hW;go_cut [6] (fun p wc=>∃gA gN bT:Nat,p= .pointer (some ⟨bT,0,none⟩)/\bp_ w.heap.size W wc gA gN bT hs.length 0 (fun i=>M.acc (hs.getD i 0)) (fun i c=>f (M.nxt (hs.getD i 0) c)) (fun _=>0))
 case first=>
  go_region
  all_goals go_wp2_with fail
  all_goals go_meet
  all_goals first|(refine⟨w.heap.size+1+1,w.heap.size+1+1+1,_,rfl,bp_.drew (bp_.start ?_ ?_ ?_ ?_ ?_ ?_ ?_ ?_ ?_ ?_)⟩<;>(first|omega|exact((br__.alloc o_ _).alloc s_ _).alloc s_ _|exact ag_ (by simp[hWs])|exact ah_ (ag_ (by simp[hWs]))|exact ah_ (ah_ (ag_ (by simp[hWs]))));done)|(refine⟨w.heap.size+1+1,w.heap.size+1+1+1+1,_,rfl,bp_.drew (bp_.start ?_ ?_ ?_ ?_ ?_ ?_ ?_ ?_ ?_ ?_)⟩<;>(first|omega|exact((br__.alloc o_ _).alloc s_ _).alloc s_ _|exact ag_ (by simp[hWs])|exact ah_ (ag_ (by simp[hWs]))|exact ah_ (ah_ (ag_ (by simp[hWs]))));done)|(refine⟨w.heap.size+1+1+1,w.heap.size+1+1,_,rfl,bp_.drew (bp_.start ?_ ?_ ?_ ?_ ?_ ?_ ?_ ?_ ?_ ?_)⟩<;>(first|omega|exact((br__.alloc o_ _).alloc s_ _).alloc s_ _|exact ag_ (by simp[hWs])|exact ah_ (ag_ (by simp[hWs]))|exact ah_ (ah_ (ag_ (by simp[hWs]))));done)|(refine⟨w.heap.size+1+1+1,w.heap.size+1+1+1+1,_,rfl,bp_.drew (bp_.start ?_ ?_ ?_ ?_ ?_ ?_ ?_ ?_ ?_ ?_)⟩<;>(first|omega|exact((br__.alloc o_ _).alloc s_ _).alloc s_ _|exact ag_ (by simp[hWs])|exact ah_ (ag_ (by simp[hWs]))|exact ah_ (ah_ (ag_ (by simp[hWs]))));done)|(refine⟨w.heap.size+1+1+1+1,w.heap.size+1+1,_,rfl,bp_.drew (bp_.start ?_ ?_ ?_ ?_ ?_ ?_ ?_ ?_ ?_ ?_)⟩<;>(first|omega|exact((br__.alloc o_ _).alloc s_ _).alloc s_ _|exact ag_ (by simp[hWs])|exact ah_ (ag_ (by simp[hWs]))|exact ah_ (ah_ (ag_ (by simp[hWs]))));done)|(refine⟨w.heap.size+1+1+1+1,w.heap.size+1+1+1,_,rfl,bp_.drew (bp_.start ?_ ?_ ?_ ?_ ?_ ?_ ?_ ?_ ?_ ?_)⟩<;>(first|omega|exact((br__.alloc o_ _).alloc s_ _).alloc s_ _|exact ag_ (by simp[hWs])|exact ah_ (ag_ (by simp[hWs]))|exact ah_ (ah_ (ag_ (by simp[hWs]))));done)
 case rest=>
  obtain⟨gA,gN,bT,rfl,hMA⟩:=hcut;simp only[show((8:Nat):Int)=8 from rfl]at mk3;have z3:=(hMA.blw.cell (p:=⟨w.heap.size,1,none⟩) l_).trans k3;go_wp2_with fail;clear z3;go_loopw [22] (fun ix wr=>∃k:Nat,∃R:Nat->Nat,k<=hs.length/\ix= .int .i64 k/\bp_ w.heap.size W wr gA gN bT hs.length k (fun i=>M.acc (hs.getD i 0)) (fun i c=>f (M.nxt (hs.getD i 0) c)) R)
   (fun ix _=>hs.length - (intOf ix).toNat)
  case atStart=>exact⟨0,_,o_,rfl,hMA⟩
  case round=>
   obtain⟨k,R,hk,rfl,hMr⟩:=hrel;clear hMA mk1 mk2;have hbW:=hMr.blw;have hbw:Below w.heap.size w wr:=BW.trans (hbW.mono o_);by_cases hlt:k<hs.length
   . have x:=hh.below hbw k hlt;have hkn:=hhd k hlt;have HM:Hid (bp_ w.heap.size W wr gA gN bT hs.length k (fun i=>M.acc (hs.getD i 0)) (fun i c=>f (M.nxt (hs.getD i 0) c)) R):=hMr;clear hMr hbW;simp only at x;obtain⟨h1,HH1⟩:=hx__ (hs.getD k 0);rw[HH1.out]at x hkn;go_wp2_with fail;clear x mk3;have hsz:bT<wr.heap.size/\gA<wr.heap.size/\gN<wr.heap.size:=⟨ac_ HM.out.blk,HM.out.rA.lt,HM.out.rN.lt⟩;have hlo:w.heap.size+2<=wr.heap.size:=by have:=HM.out.loT;omega
     have hltR:∀i,i<k->R i<wr.heap.size:=fun i hi=>(HM.out.rR i hi).lt
     rename World=>wo
     go_loopw [10] (fun c' wi=>∃c:Nat,c<=8/\c'= .int .i64 c/\bp_ w.heap.size W wi gA gN bT hs.length k (fun i=>M.acc (hs.getD i 0)) (fun i c=>f (M.nxt (hs.getD i 0) c)) R/\
      wi.rowIs wo.heap.size 3 8 (fun j=>if j<c then .int .i64 (f (M.nxt h1 j))else .int .i64 0))
      (fun c' _=>8 - (intOf c').toNat)
     case atStart=>exact⟨0,o_,rfl,HM.out.alloc _,(c2_ (ag_ rfl)).congr (fun i _=>i_)⟩
     case round=>
      obtain⟨c,hc,rfl,hMi,hri⟩:=hrel;have hbWi:=hMi.blw;have hbwi:Below w.heap.size w wr:=BW.trans (hbWi.mono o_);have x0:=(hM.below hbwi).p0;have x1:=(hM.below hbwi).p1;have x2:=(hbWi.cell (p:=⟨w.heap.size,0,none⟩) l_).trans k2;by_cases hlc:c<8
      . have c1:=(hM.below hbwi).cel _ c hkn hlc;have n1:=hnx _ c hkn hlc;have c2:=hf.below hbwi _ n1;have c3:=hri.cell hlc;have c4:=hri.frozen c;simp only[Nat.lt_irrefl,if_false]at c3;have HMi:Hid (bp_ w.heap.size W wr gA gN bT hs.length k (fun i=>M.acc (hs.getD i 0)) (fun i c=>f (M.nxt (hs.getD i 0) c)) R):=hMi;have HRi:Hid (wr.rowIs wo.heap.size 3 8 (fun j=>if j<c then .int .i64 (f (M.nxt h1 j))else .int .i64 0)):=hri;have HLR:Hid (∀i,i<k->R i<wo.heap.size):=hltR;clear hMi hri hM hf hnx hbWi hbwi hh hhd hltR;go_wp2_with fail;go_region
        go_wp2
        go_roundw
        case rel=>
         refine⟨c+1,o_,by go_num, ?_, ?_⟩
         . exact(HMi.out.drew).setOther _ (by have:=hlo;simp;omega) s_ s_ s_ (fun i hi=>by have:=HLR.out i hi;simp;omega)
         . exact(HRi.out.drew.set c _).congr (fun j _=>by
            by_cases e:j=c
            . subst e;simp
            . simp only[if_neg e];by_cases h':j<c
              . rw[if_pos h',if_pos o_]
              . rw[if_neg h',if_neg o_])
        case measure=>simp[intOf];omega
      . have he:c=8:=o_;subst he;have c1:=(hM.below hbwi).acc _ hkn;obtain⟨y0,y1,_,_⟩:=aa_ hMi.blk;have c3:=hMi.rA.cell hlt;have c4:=hMi.rA.frozen k;have c5:=hMi.rN.cell hlt;have c6:=hMi.rN.frozen k;have d1:=hMi.dAN;have d2:=hMi.dAT;have d3:=hMi.dNT;have d4:¬gN=gA:=fun e=>d1 e.symm
        have d5:¬bT=gA:=fun e=>d2 e.symm
        have d6:¬bT=gN:=fun e=>d3 e.symm
        simp only[Nat.lt_irrefl,if_false]at c3 c5;have HMi:Hid (bp_ w.heap.size W wr gA gN bT hs.length k (fun i=>M.acc (hs.getD i 0)) (fun i c=>f (M.nxt (hs.getD i 0) c)) R):=hMi;have HRi:Hid (wr.rowIs wo.heap.size 3 8 (fun j=>if j<8 then .int .i64 (f (M.nxt h1 j))else .int .i64 0)):=hri;have HLR:Hid (∀i,i<k->R i<wo.heap.size):=hltR;clear hMi hri hM hf hnx hbWi hbwi hh hhd hltR;go_wp2_with fail;go_region
        go_wp2
        go_roundw
        case rel=>
         have hrr:wr.drew.rowIs wo.heap.size 3 8 (fun j=> .int .i64 (f (M.nxt (hs.getD k 0) j))):=by rw[HH1.out];exact HRi.out.congr (fun j hj=>by rw[if_pos hj])
         have hN:=HMi.out.drew.next hrr ⟨o_,o_,o_,o_⟩ hlt (fun i hi=>by have:=HLR.out i hi;omega);rw[HH1.out]at hN;exact⟨k+1,_,o_,by go_num,hN⟩
        case measure=>simp[intOf];omega
   . have he:k=hs.length:=o_;subst he;obtain⟨y0,y1,_,_⟩:=aa_ hMr.blk;have hq:wr.heap[w.heap.size+1]? =some (.cells #[.slice none 0 0,.slice none 0 0] 41 (0,0)):=(hbW.block _ o_).trans k4;obtain⟨q0,q1,p0,p1⟩:=aa_ hq;have HM:Hid (bp_ w.heap.size W wr gA gN bT hs.length hs.length (fun i=>M.acc (hs.getD i 0)) (fun i c=>f (M.nxt (hs.getD i 0) c)) R):=hMr;clear hMr hM hf hnx hbW hh hhd;go_wp2
     obtain⟨r1,r2,r3⟩:=a7_ (u:= .slice (some ⟨gA,0,none⟩) hs.length hs.length) (v:= .slice (some ⟨gN,0,none⟩) hs.length hs.length) hq;refine bodyPost_ret (v:= .agg #[.slice (some ⟨gA,0,none⟩) hs.length hs.length,.slice (some ⟨gN,0,none⟩) hs.length hs.length]) (by simp[results,results167,go_sem,r1,r2]) rfl ?_;have hm:=HM.out;refine⟨⟨gA,0,hs.length,gN,0,hs.length,R,fun _=>0,fun _=>8⟩,rfl,⟨fun i hi=> ?_,fun i hi=> ?_,fun i c hi hc=> ?_⟩,⟨by have:=hm.loA;simp;omega,by have:=hm.loN;simp;omega,fun i hi=>by have:=(hm.dR i hi).2.2.2;simp;omega⟩, ?_, ?_⟩
     . have h1:=((hm.rA.setOther (a:=⟨w.heap.size+1,0,none⟩) (by have:=hm.loA;simp;omega) (.slice (some ⟨gA,0,none⟩) hs.length hs.length)).setOther (a:=⟨w.heap.size+1,1,none⟩) (by have:=hm.loA;simp;omega) (.slice (some ⟨gN,0,none⟩) hs.length hs.length)).cell hi;rw[if_pos (show i<hs.length from hi)]at h1;simpa [dy_] using h1
     . have h1:=((hm.rN.setOther (a:=⟨w.heap.size+1,0,none⟩) (by have:=hm.loN;simp;omega) (.slice (some ⟨gA,0,none⟩) hs.length hs.length)).setOther (a:=⟨w.heap.size+1,1,none⟩) (by have:=hm.loN;simp;omega) (.slice (some ⟨gN,0,none⟩) hs.length hs.length)).cell hi;rw[if_pos (show i<hs.length from hi)]at h1;simpa [dy_] using h1
     . have hd:=(hm.dR i hi).2.2.2;have h1:=(((hm.rR i hi).setOther (a:=⟨w.heap.size+1,0,none⟩) s_ (.slice (some ⟨gA,0,none⟩) hs.length hs.length)).setOther (a:=⟨w.heap.size+1,1,none⟩) s_ (.slice (some ⟨gN,0,none⟩) hs.length hs.length)).cell hc;simpa [dy_] using h1
     . exact(hbw.setCell (p:=⟨w.heap.size+1,0,none⟩) l_ _).setCell (p:=⟨w.heap.size+1,1,none⟩) l_ _
     . refine⟨rfl,rfl,rfl,rfl,fun i hi=>⟨rfl,rfl⟩,hm.inj, ?_, ?_,fun i hi=> ?_⟩
       . exact e2_ (e2_ (mk_ hm.rA) _ _ _) _ _ _
       . exact e2_ (e2_ (mk_ hm.rN) _ _ _) _ _ _
       . exact e2_ (e2_ (mk_ (hm.rR i hi)) _ _ _) _ _ _
end Go.Proofs.YtpngikmcjkjdaaaGreatDoor
