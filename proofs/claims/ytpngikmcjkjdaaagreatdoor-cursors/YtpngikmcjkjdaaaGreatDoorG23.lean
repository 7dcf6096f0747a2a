import Derived.Test.YtpngikmcjkjdaaaGreatDoorG0
import Derived.Deep.Upon
import Derived.Test.YtpngikmcjkjdaaaGreatDoorG11
import Derived.Test.YtpngikmcjkjdaaaGreatDoorG8
set_option linter.unusedVariables false
set_option linter.unusedSimpArgs false
set_option maxRecDepth 20000
set_option maxHeartbeats 80000000
namespace Go.Proofs.YtpngikmcjkjdaaaGreatDoor
open Go.RowKit Tryz
def ar_ (w:World)(b t n:Nat)(f:Nat->Value):Prop:=∃c:Array Value,w.heap[b]? =some (.cells c t (0,0))/\n<=c.size/\∀i,i<n->c[i]? =some (f i)
namespace ar_
variable {w:World} {b t n:Nat} {f g:Nat->Value}
theorem cell (h:ar_ w b t n f){i:Nat}(hi:i<n):w.cell? ⟨b,i,none⟩=some (f i):=by
 obtain⟨c,hb,_,hc⟩:=h;simp[World.cell?,hb,hc i hi]
theorem frozen (h:ar_ w b t n f)(i:Nat):w.frozen? ⟨b,i,none⟩=false:=by
 obtain⟨c,hb,_,_⟩:=h;simp[World.frozen?,hb]
theorem lt (h:ar_ w b t n f):b<w.heap.size:=by
 obtain⟨c,hb,_,_⟩:=h;exact ac_ hb
theorem congr (h:ar_ w b t n f)(e:∀i,i<n->f i=g i):ar_ w b t n g:=by
 obtain⟨c,hb,hn,hc⟩:=h;exact⟨c,hb,hn,fun i hi=>by rw[hc i hi,e i hi]⟩
theorem of_block {w':World}(h:ar_ w b t n f)(e:w'.heap[b]? =w.heap[b]?):ar_ w' b t n f:=by
 obtain⟨c,hb,hn,hc⟩:=h;exact⟨c,e.trans hb,hn,hc⟩
theorem below {w':World}(h:ar_ w b t n f)(hb:Below w.heap.size w w'):ar_ w' b t n f:=h.of_block (hb.block b h.lt)
theorem set (h:ar_ w b t n f)(i:Nat)(v:Value):ar_ (w.setCell ⟨b,i,none⟩ v) b t n (fun j=>if j=i then v else f j):=by
 obtain⟨c,hb,hn,hc⟩:=h;refine⟨c.setIfInBounds i v, ?_,by simpa using hn,fun j hj=> ?_⟩
 . simp[World.setCell,Array.getElem?_modify,hb]
 . rw[Array.getElem?_setIfInBounds];by_cases e:j=i
   . subst e;simp;omega
   . rw[if_neg (fun h=>e h.symm)];show c[j]? =some (if j=i then v else f j)
     rw[if_neg e];exact hc j hj
theorem setOther (h:ar_ w b t n f){a:Addr}(ha:b≠a.block)(v:Value):ar_ (w.setCell a v) b t n f:=h.of_block (Below.heap_setCell w a v b ha)
theorem alloc (h:ar_ w b t n f)(o:Obj):ar_ (w.alloc o) b t n f:=h.of_block (Below.heap_alloc w o b h.lt)
theorem drew (h:ar_ w b t n f):ar_ w.drew b t n f:=h
theorem ne {b' t' n':Nat}{f':Nat->Value}(h:ar_ w b t n f)(h':ar_ w b' t' n' f')(ht:t≠t'):b≠b':=by
 obtain⟨c,hb,_,_⟩:=h;obtain⟨c',hb',_,_⟩:=h';intro e;subst e;rw[hb]at hb';simp only[Option.some.injEq,Obj.cells.injEq]at hb';exact ht hb'.2.1
theorem ofRow (h:w.rowIs b t n f):ar_ w b t n f:=by
 obtain⟨c,hb,hn,hc⟩:=h;exact⟨c,hb,o_,hc⟩
end ar_
theorem ar_.ofOwn {w:World}{base e n:Nat}{g cap:Nat}{x:List Value}{f:Nat->Value}(h:w.ownsRow base e 1 (.slice (some ⟨g,0,none⟩) n cap) n x)(hx:∀i,i<n->x[i]? =some (f i)):ar_ w g e n f:=by
 have hl:=h.1;rcases h.2 with ⟨h0,_⟩|⟨g',cap',cur,h0,hb,hg,hn,hc,hs,ht⟩
 . cases h0
 . injection h0 with e1 e2 e3;injection e1 with e1;injection e1 with e1;subst e1;subst e3;refine⟨cur,hg,by rw[hs];omega,fun i hi=> ?_⟩;have h2:=hx i hi;rw[<-ht]at h2;rw[List.getElem?_take]at h2;split at h2
   . simpa using h2
   . simp at h2
theorem eu_ {P:Program}(w:World){ops:Array Oper}{rest:List Oper}{o:Oper}{a:Act}{Q:Exit->Act->World->Prop}(hgd:o.guard=none)(s x:Operand)(t:TypeId)
 (ho:o.op= .call {callee:= .builtin .append,args:= #[s,x],argTypes:= #[t,t]})
 (e:TypeId) (i:TypeInfo) (ht:P.underlying t=some (.slice e)) (hi:P.info? e=some i)
 (ao:Option Addr) (c:Nat) (hs:a.eval s= .slice none 0 0) (hx:a.eval x= .slice ao 0 c)
 (h:wpList P ops Q rest (a.put o.dst (.slice none 0 0)) w):wpList P ops Q (o::rest) a w:=by
 refine wpList_plain hgd fun K hK=> ?_
 have hsrc:Src P i.size t (.slice ao 0 c) 0 [] w:=by
  cases ao with
  |none=>exact Src.ofNil w ht c
  |some ad=>exact Src.ofSlice w ht ad 0 c [] i_ i_ i_
 have hrun:=run_append_nothing (P:=P) w t t o.type e i ht hi none 0 0 o_ (.slice ao 0 c) hsrc;unfold Oper.wp execOp;simp only[ho,resolve,invoke,builtin,Sem.run_bind,Sem.run_pure,Result.andThen_ok,List.map_toArray,List.map_cons,List.map_nil,hs,hx,hrun];exact hK _ _ h
theorem hu_ (f:Nat->Value)(m j:Nat)(h:j<m):((List.range m).map f)[j]? =some (f j):=by simp[h]
theorem ev_ {P:Program}(w:World){ops:Array Oper}{rest:List Oper}{o:Oper}{a:Act}{Q:Exit->Act->World->Prop}(hgd:o.guard=none)(s x:Operand)(t:TypeId)
 (ho:o.op= .call {callee:= .builtin .append,args:= #[s,x],argTypes:= #[t,t]})
 (e:TypeId) (i:TypeInfo) (z:Value) (bytes:Nat) (ht:P.underlying t=some (.slice e)) (hi:P.info? e=some i) (hz:i.zero=some z)
 (hsize:i.size=1) (hby:i.bytes=bytes) (hzs:z.cells.size=1)
 (b0 o0 m c:Nat) (f:Nat->Value) (hs:a.eval s= .slice none 0 0) (hx:a.eval x= .slice (some ⟨b0,o0,none⟩) m c) (hf:∀j,j<m->w.cell? ⟨b0,o0+j,none⟩=some (f j)) (h1:∀j,(f j).oneCell'=true)
 (hm:0<m) (h63:m<=maxLen) (hbytes:m*bytes<=140737488355328)
 (h:∀cap w',ar_ w' w.heap.size e m f->w.grownBy w' none->wpList P ops Q rest (a.put o.dst (.slice (some ⟨w.heap.size,0,none⟩) m cap)) w'):wpList P ops Q (o::rest) a w:=by
 refine ae_ w hgd s x t ho w.heap.size e i z 1 bytes ht hi hz hsize hby hzs d_ (.slice none 0 0) 0 [] hs on__ ⟨b0,o0,none⟩ m c ((List.range m).map f) hx i_ ?_ ?_ hm (by simpa using h63) (by simpa using hbytes) lr__ ?_
 . intro j u hu;have hj:j<m:=by
    have:=(List.getElem?_eq_some_iff.1 hu).1;simpa using this
   rw[hu_ f m j hj]at hu;have hadd:(⟨b0,o0,none⟩:Addr).add j=⟨b0,o0+j,none⟩:=by unfold Addr.add;split<;>simp_all
   rw[hadd,hf j hj];exact hu
 . intro u hu;simp only[List.mem_map,List.mem_range]at hu;obtain⟨j,_,rfl⟩:=hu;exact h1 j
 . intro g cap w' hown hg hfr;have hgs:g=w.heap.size:=by
    rcases hfr with h|h
    . simp[Value.ownBlock]at h
    . exact h
   subst hgs;rw[Nat.zero_add]at hown ⊢;exact h cap w' (ar_.ofOwn hown (fun j hj=>by simpa using hu_ f m j hj)) hg
theorem ar_.grown {w w2:World}{b t n:Nat}{f:Nat->Value}(h:ar_ w b t n f){base e s n':Nat}{v:Value}{x:List Value}(ho:w.ownsRow base e s v n' x)(hne:t≠e)(hg:w.grownBy w2 v.ownBlock):ar_ w2 b t n f:=by
 refine h.of_block (hg.block b h.lt (fun e'=> ?_));rcases ho.2 with ⟨rfl,_⟩|⟨g,cap,cur,rfl,_,hg',_⟩
 . simp[Value.ownBlock]at e'
 . simp only[Value.ownBlock,Option.some.injEq]at e';subst e';obtain⟨c,hb,_,_⟩:=h;rw[hb]at hg';simp only[Option.some.injEq,Obj.cells.injEq]at hg';exact hne hg'.2.1
theorem hh_ {w w2:World}(hg:w.grownBy w2 none):Below w.heap.size w w2:=⟨hg.os,hg.tape,hg.output,hg.size,fun k hk=>hg.block k hk i_⟩
def rowv (rb rl rc:Nat->Nat)(i:Nat):Value:=if rl i=0 then .slice none 0 0 else .slice (some ⟨rb i,0,none⟩) (rl i) (rc i)
def lstv (b n c:Nat):Value:=if n=0 then .slice none 0 0 else .slice (some ⟨b,0,none⟩) n c
theorem wi_ {rb rl rc rb' rc':Nat->Nat}{i:Nat}(h:rb i=rb' i/\rc i=rc' i):rowv rb rl rc i=rowv rb' rl rc' i:=by unfold rowv;rw[h.1,h.2]
structure hv_ (N:Nat)(w:World)(ga gn:Nat)(rb rc:Nat->Nat)(na nn:Nat)(rl:Nat->Nat)(A:Nat->Bool)(X:Nat->Nat->Int):Prop where
 acc:0<na->N<=ga/\ar_ w ga 4 na (fun i=> .bool (A i))
 nxt:0<nn->N<=gn/\ar_ w gn 24 nn (rowv rb rl rc)
 row:∀j,j<nn->0<rl j->N<=rb j/\ar_ w (rb j) 3 (rl j) (fun c=> .int .i64 (X j c))
 dis:∀i j,i<j->j<nn->0<rl i->0<rl j->rb i≠rb j
structure da_ (W:World)(B:Nat)(w:World)(va vn:Value)(i ga na:Nat)(rb rl rc:Nat->Nat)(A:Nat->Bool)(X:Nat->Nat->Int):Prop where
 blw:Below (B+1+1) W w
 blk:w.heap[B+1+1]? =some (.cells #[va,vn] 41 (0,0))
 acc:0<na->B+1+1+1<=ga/\ar_ w ga 4 na (fun i=> .bool (A i))
 own:w.ownsRow (B+1+1+1) 24 1 vn i ((List.range i).map (rowv rb rl rc))
 row:∀j,j<i->0<rl j->B+1+1+1<=rb j/\ar_ w (rb j) 3 (rl j) (fun c=> .int .i64 (X j c))
 dis:∀j k,j<k->k<i->0<rl j->0<rl k->rb j≠rb k
 nil0:i=0->vn= .slice none 0 0
section
variable {W:World} {B:Nat} {w w2:World} {va vn:Value} {i ga na:Nat} {rb rl rc:Nat->Nat} {A:Nat->Bool} {X:Nat->Nat->Int}
theorem da_.below (h:da_ W B w va vn i ga na rb rl rc A X)(hb:Below w.heap.size w w2):da_ W B w2 va vn i ga na rb rl rc A X where
 blw:=h.blw.trans (hb.mono (by have:=ac_ h.blk;omega))
 blk:=by rw[hb.block _ (ac_ h.blk)];exact h.blk
 acc hn:=⟨(h.acc hn).1,(h.acc hn).2.below hb⟩
 own:=al_ h.own hb
 row j hj hl:=⟨(h.row j hj hl).1,(h.row j hj hl).2.below hb⟩
 dis:=h.dis
 nil0:=h.nil0
theorem da_.app (h:da_ W B w va vn i ga na rb rl rc A X)(b c:Nat)(hrow:0<rl i->B+1+1+1<=b/\ar_ w b 3 (rl i) (fun c=> .int .i64 (X i c)))(hne:∀j,j<i->0<rl j->rb j≠b)
 {g cap:Nat} (hown:w2.ownsRow (B+1+1+1) 24 1 (.slice (some ⟨g,0,none⟩) (i+1) cap) (i+1) ((List.range i).map (rowv rb rl rc)++ [if rl i=0 then .slice none 0 0 else .slice (some ⟨b,0,none⟩) (rl i) c]))
 (hg:w.grownBy w2 vn.ownBlock):
 w2.heap[B+1+1]? =some (.cells #[va,vn] 41 (0,0))/\
 da_ W B (w2.setCell ⟨B+1+1,1,none⟩ (.slice (some ⟨g,0,none⟩) (i+1) cap)) va (.slice (some ⟨g,0,none⟩) (i+1) cap) (i+1) ga na (fun j=>if j=i then b else rb j) rl (fun j=>if j=i then c else rc j) A X:=by
 have hs:=ac_ h.blk;have hlt:=fun x e=>h.own.lt x e
 have hblk:w2.heap[B+1+1]? =some (.cells #[va,vn] 41 (0,0)):=by
  rw[hg.block _ hs (fun e=>by have:=(hlt _ e.symm).1;omega)];exact h.blk
 refine⟨hblk, ?_⟩;have hl:(List.range i).map (rowv rb rl rc)++ [if rl i=0 then .slice none 0 0 else .slice (some ⟨b,0,none⟩) (rl i) c]=(List.range (i+1)).map (rowv (fun j=>if j=i then b else rb j) rl (fun j=>if j=i then c else rc j)):=by
  rw[List.range_succ,List.map_append];congr 1
  . apply List.map_congr_left;intro j hj;have:j≠i:=by
     have:j<i:=by simpa using hj
     omega
    apply wi_;simp[this]
  . simp[rowv]
 rw[hl]at hown;refine⟨(h.blw.grown hg o_ (fun x e=>by have:=(hlt x e).1;omega)).setCell lr__ _,c7_ hblk,fun hn=>⟨(h.acc hn).1,((h.acc hn).2.grown h.own d_ hg).setOther (by have:=(h.acc hn).1;simp;omega) _⟩,
  ownsRow_setCell_below hown i_ _,fun j hj hlj=> ?_,fun j k hjk hk hlj hlk=> ?_,fun h=>absurd h o_⟩
 . by_cases e:j=i
   . subst e;simp only[if_true];exact⟨(hrow hlj).1,((hrow hlj).2.grown h.own d_ hg).setOther (by have:=(hrow hlj).1;simp;omega) _⟩
   . simp only[if_neg e];have:=h.row j o_ hlj;exact⟨this.1,(this.2.grown h.own d_ hg).setOther (by have:=this.1;simp;omega) _⟩
 . by_cases e:k=i
   . subst e;simp only[if_true,if_neg (show j≠k by omega)];exact hne j o_ hlj
   . simp only[if_neg e,if_neg (show j≠i by omega)];exact h.dis j k hjk o_ hlj hlk
end
theorem j6_:(prog.info? 24).map (fun i=>(i.zero,i.size,i.bytes))=some (some (.slice none 0 0),1,24):=k_
theorem qf_ (aa an:Option Addr)(na ca nn cn:Nat)(ra:Nat->Option Addr)(rl rc0:Nat->Nat)(A:Nat->Bool)(X:Nat->Nat->Int)(w:World)(h:cz_ w ⟨aa,an,na,ca,nn,cn,ra,rl,rc0⟩ A X)
 (hb1:na<=4398046511104) (hb2:nn<=4398046511104) (hb3:∀i,i<nn->rl i<=4398046511104):
 Calls prog 26 #[.agg #[.slice aa na ca,.slice an nn cn]] w
  fun e w'=>Below w.heap.size w w'/\∃ga ca' gn cn' rb rc,e= .returned (.agg #[lstv ga na ca',lstv gn nn cn'])/\hv_ w.heap.size w' ga gn rb rc na nn rl A X:=by
 obtain⟨i4,hi4,hz4,hz41,hz42⟩:=info_parts fa_;obtain⟨i0,hi0,hz0,hz01,hz02⟩:=info_parts j6_;obtain⟨i3,hi3,hz3,hz31,hz32⟩:=info_parts du_;obtain⟨W,hW,BW,b0,b1,b2⟩:=n3__ w #[.slice aa na ca,.slice an nn cn] 41 #[.slice none 0 0,.slice none 0 0] 41 #[.slice none 0 0,.slice none 0 0] 41;have hWs:w.heap.size+1+1+1<=W.heap.size:=by rw[hW];simp
 have hT0:=h.below BW;go_enter func26,ntmps26;go_upto_region 2 with fail;rw[<-hW];clear hW;obtain⟨x0,x1,_,_⟩:=aa_ b0;obtain⟨y0,y1,z0,z1⟩:=aa_ b2;go_cut [] (fun wc=>∃ga ca',da_ W w.heap.size wc (lstv ga na ca') (.slice none 0 0) 0 ga na (fun _=>0) rl (fun _=>0) A X)
 case first=>
  by_cases hna:na=0
  . subst hna;go_wp2_with (at_builtin;refine eu_ _ rfl _ _ 38 rfl 4 i4 underlying38 hi4 aa ca rfl rfl ?_);go_meet
    exact⟨0,0,br__.setCell (p:=⟨w.heap.size+1+1,0,none⟩) lr__ _,bg_ b2,fun h=>absurd h o_,on__,fun j hj=>absurd hj o_,fun j k _ hk=>absurd hk o_,fun _=>rfl⟩
  . obtain⟨ba,oa,ea,_⟩:=hT0.acc 0 (show 0<na by omega);have ea':aa=some ⟨ba,oa,none⟩:=ea;subst ea';have hca:∀i,i<na->W.cell? ⟨ba,oa+i,none⟩=some (.bool (A i)):=fun i hi=>by
     obtain⟨b,o,e,hc⟩:=hT0.acc i hi;injection e with e;injection e with e1 e2;subst e1;subst e2;exact hc
    have HCA:Hid _:=hca;clear hca hT0;go_wp2_with (at_builtin;refine ev_ _ rfl _ _ 38 rfl 4 i4 (.bool false) 1 underlying38 hi4 hz4 hz41 hz42 rfl ba oa na ca (fun i=> .bool (A i)) rfl rfl HCA.out (fun j=>rfl) o_ u_ o_ ?_;intro cap w1 hR hgr;have hq:w1.heap[w.heap.size+1+1]? =some (.cells #[.slice none 0 0,.slice none 0 0] 41 (0,0)):=(by rw[hgr.block _ o_ i_];exact b2);obtain⟨f0,f1,f2,f3⟩:=aa_ hq;have HRR:Hid (ar_ w1 W.heap.size 4 na (fun i=> .bool (A i))):=hR;clear hR);go_meet
    refine⟨W.heap.size,cap,((hh_ hgr).mono (B':=w.heap.size+1+1) o_).setCell (p:=⟨w.heap.size+1+1,0,none⟩) lr__ _, ?_,fun h=>⟨o_,HRR.out.setOther s_ _⟩,on__,fun j hj=>absurd hj o_,fun j k _ hk=>absurd hk o_,fun _=>rfl⟩;rw[bg_ hq];unfold lstv;rw[if_neg hna]
 case rest=>
  obtain⟨ga,ca',hP0⟩:=hcut;clear x0 x1 y0 y1 z0 z1 b2 hT0;go_wp2_with fail;go_loopw [4,5] (fun i' _ wr=>∃(i:Nat) (vn:Value) (rb rc:Nat->Nat),i<=nn/\i'= .int .i64 i/\da_ W w.heap.size wr (lstv ga na ca') vn i ga na rb rl rc A X)
   (fun i' _ _=>nn - (intOf i').toNat)
  case atStart=>exact⟨0,_,_,_,o_,rfl,hP0⟩
  case round=>
   obtain⟨i,vn,rb,rc,hi,rfl,hP⟩:=hrel;clear hP0;have hbW:=hP.blw;have hbw:Below w.heap.size w wr:=BW.trans (hbW.mono o_);obtain⟨x0,x1,_,_⟩:=aa_ ((hbW.block _ o_).trans b0);obtain⟨y0,y1,z0,z1⟩:=aa_ hP.blk;obtain⟨al,cl,rfl,hal⟩:=af_ hP.own;have hsz:=ac_ hP.blk;by_cases hlt:i<nn
   . obtain⟨bn,on,en,hc⟩:=(h.below hbw).row i (show i<nn from hlt);have en':an=some ⟨bn,on,none⟩:=en;subst en';have hc':wr.cell? ⟨bn,on+i,none⟩=some (.slice (ra i) (rl i) (rc0 i)):=hc;have hcel:∀c,c<rl i->∃b o,ra i=some ⟨b,o,none⟩/\wr.cell? ⟨b,o+c,none⟩=some (.int .i64 (X i c)):=fun c hcl=>(h.below hbw).cel i c (show i<nn from hlt) (show c<rl i from hcl)
     have hrl:=hb3 i hlt;have HP:Hid _:=hP;have H0:Hid _:=h;clear hP hal h en hc;by_cases hr0:rl i=0
     . obtain⟨rai,HRA⟩:=hx__ (ra i);obtain⟨rci,HRC⟩:=hx__ (rc0 i);rw[hr0,HRA.out,HRC.out]at hc';have HR0:Hid (rl i=0):=hr0;have HPa:Hid _:=HP.out.below (br__.alloc lr__ (.cells #[.slice none 0 0] 24));have hna:=HPa.out.own;have hbo:w.heap.size+1+1+1<=(wr.alloc (.cells #[.slice none 0 0] 24)).heap.size:=s_;have HG:∀(g cap:Nat) (w2:World),w2.ownsRow (w.heap.size+1+1+1) 24 1 (.slice (some ⟨g,0,none⟩) (i+1) cap) (i+1) ((List.range i).map (rowv rb rl rc)++ [.slice none 0 0])->(wr.alloc (.cells #[.slice none 0 0] 24)).grownBy w2 (Value.slice al i cl).ownBlock->
        w2.heap[w.heap.size+1+1]? =some (.cells #[lstv ga na ca',.slice al i cl] 41 (0,0))/\Hid (da_ W w.heap.size (w2.setCell ⟨w.heap.size+1+1,1,none⟩ (.slice (some ⟨g,0,none⟩) (i+1) cap)) (lstv ga na ca') (.slice (some ⟨g,0,none⟩) (i+1) cap) (i+1) ga na (fun j=>if j=i then 0 else rb j) rl (fun j=>if j=i then 0 else rc j) A X):=by
        intro g cap w2 ho hg;refine HPa.out.app 0 0 (fun hl=>absurd hl (by have:=HR0.out;omega)) (fun j hj hl e=> ?_) (by rw[HR0.out];exact ho) hg;have:=(HPa.out.row j hj hl).1;omega
       clear hr0 hcel;go_wp2_with (first|(at_builtin;refine eu_ _ rfl _ _ 24 rfl 3 i3 underlying24 hi3 rai rci rfl rfl ?_)|(at_builtin;refine ae_ _ rfl _ _ 39 rfl (w.heap.size+1+1+1) 24 i0 (.slice none 0 0) 1 24 underlying39 hi0 hz0 hz01 hz02 rfl d_ _ i _ rfl hna ⟨wr.heap.size,0,none⟩ 1 1 [.slice none 0 0] rfl rfl (cell_one_new _ _ _) (oc__ rfl) d_ u_ o_ hbo ?_;intro g cap w2 hown hgr hfr;obtain⟨f0,F⟩:=HG g cap w2 hown hgr;obtain⟨f1,f2,f3,f4⟩:=aa_ f0));go_roundw
       case rel=>exact⟨i+1,_,_,_,o_,by go_num,F.out⟩
       case measure=>simp[intOf];omega
     . obtain⟨b,o,era,_⟩:=hcel 0 o_;have hce:∀c,c<rl i->wr.cell? ⟨b,o+c,none⟩=some (.int .i64 (X i c)):=fun c hcl=>by
        obtain⟨b',o',e',h'⟩:=hcel c hcl;rw[era]at e';injection e' with e';injection e' with e1 e2;subst e1;subst e2;exact h'
       rw[era]at hc';obtain⟨rli,HRL⟩:=hx__ (rl i);obtain⟨rci,HRC⟩:=hx__ (rc0 i);obtain⟨xi,HXI⟩:=hx__ (X i);rw[HRL.out,HRC.out]at hc';rw[HRL.out,HXI.out]at hce;rw[HRL.out]at hrl hr0;have HCE:Hid _:=hce;clear hcel hce era;have HG1:∀(cap:Nat) (w1:World),ar_ w1 wr.heap.size 3 rli (fun c=> .int .i64 (xi c))->wr.grownBy w1 none->
        w1.heap[w.heap.size+1+1]? =some (.cells #[lstv ga na ca',.slice al i cl] 41 (0,0))/\wr.heap.size<w1.heap.size/\
        Hid (da_ W w.heap.size (w1.alloc (.cells #[.slice (some ⟨wr.heap.size,0,none⟩) rli cap] 24)) (lstv ga na ca') (.slice al i cl) i ga na rb rl rc A X/\
         ar_ (w1.alloc (.cells #[.slice (some ⟨wr.heap.size,0,none⟩) rli cap] 24)) wr.heap.size 3 (rl i) (fun c=> .int .i64 (X i c))):=by
        intro cap w1 hR hg;have hB:=hh_ hg;refine⟨by rw[hB.block _ hsz];exact HP.out.blk,hR.lt,(HP.out.below hB).below ba__, ?_⟩;rw[HRL.out,HXI.out];exact hR.alloc _
       have HG2:∀(cap:Nat) (w1:World),Hid (da_ W w.heap.size (w1.alloc (.cells #[.slice (some ⟨wr.heap.size,0,none⟩) rli cap] 24)) (lstv ga na ca') (.slice al i cl) i ga na rb rl rc A X/\
        ar_ (w1.alloc (.cells #[.slice (some ⟨wr.heap.size,0,none⟩) rli cap] 24)) wr.heap.size 3 (rl i) (fun c=> .int .i64 (X i c)))->∀(g cap2:Nat) (w2:World),w2.ownsRow (w.heap.size+1+1+1) 24 1 (.slice (some ⟨g,0,none⟩) (i+1) cap2) (i+1) ((List.range i).map (rowv rb rl rc)++ [.slice (some ⟨wr.heap.size,0,none⟩) rli cap])->(w1.alloc (.cells #[.slice (some ⟨wr.heap.size,0,none⟩) rli cap] 24)).grownBy w2 (Value.slice al i cl).ownBlock->
        w2.heap[w.heap.size+1+1]? =some (.cells #[lstv ga na ca',.slice al i cl] 41 (0,0))/\Hid (da_ W w.heap.size (w2.setCell ⟨w.heap.size+1+1,1,none⟩ (.slice (some ⟨g,0,none⟩) (i+1) cap2)) (lstv ga na ca') (.slice (some ⟨g,0,none⟩) (i+1) cap2) (i+1) ga na (fun j=>if j=i then wr.heap.size else rb j) rl (fun j=>if j=i then cap else rc j) A X):=by
        intro cap w1 hh g cap2 w2 ho hg;refine hh.out.1.app wr.heap.size cap (fun hl=>⟨o_,hh.out.2⟩) (fun j hj hl e=> ?_) (by rw[if_neg (by rw[HRL.out];exact hr0),HRL.out];exact ho) hg;have:=(HP.out.row j hj hl).2.lt;omega
       go_wp2_with (first|(at_builtin;refine ev_ _ rfl _ _ 24 rfl 3 i3 (.int .i64 0) 8 underlying24 hi3 hz3 hz31 hz32 rfl b o rli rci (fun c=> .int .i64 (xi c)) rfl rfl HCE.out (fun j=>rfl) o_ u_ o_ ?_;intro cap w1 hR hgr;obtain⟨e0,e1,E⟩:=HG1 cap w1 hR hgr;obtain⟨e2,e3,e4,e5⟩:=aa_ e0;have hna:=E.out.1.own;clear hR hgr HG1)|(at_builtin;refine ae_ _ rfl _ _ 39 rfl (w.heap.size+1+1+1) 24 i0 (.slice none 0 0) 1 24 underlying39 hi0 hz0 hz01 hz02 rfl d_ _ i _ rfl hna ⟨w1.heap.size,0,none⟩ 1 1 [.slice (some ⟨wr.heap.size,0,none⟩) rli cap] rfl rfl (cell_one_new _ _ _) (oc__ rfl) d_ u_ o_ s_ ?_;intro g cap2 w2 hown hgr hfr;obtain⟨f0,F⟩:=HG2 cap w1 E g cap2 w2 hown hgr;obtain⟨f1,f2,f3,f4⟩:=aa_ f0));go_roundw
       case rel=>exact⟨i+1,_,_,_,o_,by go_num,F.out⟩
       case measure=>simp[intOf];omega
   . have he:i=nn:=o_;subst he;have hq:wr.heap[w.heap.size+1]? =some (.cells #[.slice none 0 0,.slice none 0 0] 41 (0,0)):=(hbW.block _ o_).trans b1;obtain⟨q0,q1,p0,p1⟩:=aa_ hq;have HP:Hid _:=hP;have HAL:Hid _:=hal;clear hP hal h;obtain⟨va1,va2,va3,HVA⟩:∃x y z,Hid (lstv ga na ca'= .slice x y z):=by unfold lstv Hid;split<;>exact⟨_,_,_,rfl⟩
     rw[HVA.out]at y0;go_wp2_with fail;obtain⟨r1,r2,r3⟩:=a7_ (u:= .slice va1 va2 va3) (v:= .slice al i cl) hq;refine bodyPost_ret (v:= .agg #[.slice va1 va2 va3,.slice al i cl]) (by simp[results,results26,go_sem,r1,r2]) rfl ?_;have hp:=HP.out;refine⟨(hbw.setCell (p:=⟨w.heap.size+1,0,none⟩) i_ _).setCell (p:=⟨w.heap.size+1,1,none⟩) i_ _,ga,ca', ?_⟩;by_cases h0:i=0
     . subst h0;refine⟨0,0,rb,rc, ?_,fun hn=>⟨by have:=(hp.acc hn).1;omega,(((hp.acc hn).2.setOther (by have:=(hp.acc hn).1;simp;omega) _).setOther (by have:=(hp.acc hn).1;simp;omega) _)⟩,fun h=>absurd h o_,fun j hj=>absurd hj o_,fun j k _ hk=>absurd hk o_⟩;rw[HVA.out];rw[hp.nil0 rfl];rfl
     . obtain⟨gl,rfl,_⟩:=HAL.out o_;refine⟨gl,cl,rb,rc, ?_,fun hn=>⟨by have:=(hp.acc hn).1;omega,(((hp.acc hn).2.setOther (by have:=(hp.acc hn).1;simp;omega) _).setOther (by have:=(hp.acc hn).1;simp;omega) _)⟩,fun _=>⟨by have:=(hp.own.lt gl rfl).1;omega, ?_⟩,fun j hj hl=> ?_,hp.dis⟩
       . rw[HVA.out];unfold lstv;rw[if_neg h0]
       . have hlo:=(hp.own.lt gl rfl).1;exact(((ar_.ofOwn hp.own (fun j hj=>hu_ _ _ j hj)).setOther s_ _).setOther s_ _)
       . have:=hp.row j hj hl;exact⟨o_,((this.2.setOther s_ _).setOther s_ _)⟩
structure TL where
 (ba na ca bn nn cn:Nat)
 (rb rl rc:Nat->Nat)
def tlv (t:TL)(i:Nat):Value:=if t.rc i=0 then .slice none 0 0 else .slice (some ⟨t.rb i,0,none⟩) (t.rl i) (t.rc i)
def TL.val (t:TL):Value:= .agg #[.slice (some ⟨t.ba,0,none⟩) t.na t.ca,.slice (some ⟨t.bn,0,none⟩) t.nn t.cn]
structure TLAt (w:World)(t:TL)(A:Nat->Bool)(X:Nat->Nat->Int):Prop where
 na:t.na<=t.ca
 ca:t.ca<=4398046511104
 ca1:1<=t.ca
 nn:t.nn<=t.cn
 cn:t.cn<=4398046511104
 cn1:1<=t.cn
 rl:∀i,i<t.cn->t.rl i<=t.rc i
 rc:∀i,i<t.cn->t.rc i<=1000000
 acc:ar_ w t.ba 4 t.ca (fun i=> .bool (A i))
 nxt:ar_ w t.bn 24 t.cn (tlv t)
 row:∀i,i<t.cn->0<t.rc i->ar_ w (t.rb i) 3 (t.rc i) (fun c=> .int .i64 (X i c))
theorem TLAt.below {w w':World}{t:TL}{A:Nat->Bool}{X:Nat->Nat->Int}(h:TLAt w t A X)(hb:Below w.heap.size w w'):TLAt w' t A X:=
 ⟨h.na,h.ca,h.ca1,h.nn,h.cn,h.cn1,h.rl,h.rc,h.acc.below hb,h.nxt.below hb,fun i hi hc=>(h.row i hi hc).below hb⟩
structure fe_ (W:World)(B:Nat)(w:World)(t:TL)(vn:Value)(i:Nat):Prop where
 blw:Below (B+1+1) W w
 blk:w.heap[B+1+1]? =some (.cells #[.slice (some ⟨t.ba,0,none⟩) t.ca t.ca,vn] 41 (0,0))
 own:w.ownsRow (B+1+1+1) 24 1 vn i ((List.range i).map (rowv t.rb t.rc t.rc))
theorem fe_.below {W:World}{B:Nat}{w w2:World}{t:TL}{vn:Value}{i:Nat}(h:fe_ W B w t vn i)(hb:Below w.heap.size w w2):fe_ W B w2 t vn i where
 blw:=h.blw.trans (hb.mono (by have:=ac_ h.blk;omega))
 blk:=by rw[hb.block _ (ac_ h.blk)];exact h.blk
 own:=al_ h.own hb
theorem fe_.app {W:World}{B:Nat}{w w2:World}{t:TL}{vn:Value}{i:Nat}(h:fe_ W B w t vn i){g cap:Nat}(hown:w2.ownsRow (B+1+1+1) 24 1 (.slice (some ⟨g,0,none⟩) (i+1) cap) (i+1) ((List.range i).map (rowv t.rb t.rc t.rc)++ [rowv t.rb t.rc t.rc i]))
 (hg:w.grownBy w2 vn.ownBlock):
 w2.heap[B+1+1]? =some (.cells #[.slice (some ⟨t.ba,0,none⟩) t.ca t.ca,vn] 41 (0,0))/\
 fe_ W B (w2.setCell ⟨B+1+1,1,none⟩ (.slice (some ⟨g,0,none⟩) (i+1) cap)) t (.slice (some ⟨g,0,none⟩) (i+1) cap) (i+1):=by
 have hs:=ac_ h.blk;have hlt:=fun x e=>h.own.lt x e
 have hblk:w2.heap[B+1+1]? =some (.cells #[.slice (some ⟨t.ba,0,none⟩) t.ca t.ca,vn] 41 (0,0)):=by
  rw[hg.block _ hs (fun e=>by have:=(hlt _ e.symm).1;omega)];exact h.blk
 refine⟨hblk,(h.blw.grown hg o_ (fun x e=>by have:=(hlt x e).1;omega)).setCell lr__ _,c7_ hblk, ?_⟩;have:(List.range i).map (rowv t.rb t.rc t.rc)++ [rowv t.rb t.rc t.rc i]=(List.range (i+1)).map (rowv t.rb t.rc t.rc):=by simp[List.range_succ]
 rw[this]at hown;exact ownsRow_setCell_below hown i_ _
theorem ns_ (t:TL)(A:Nat->Bool)(X:Nat->Nat->Int)(w:World)(h:TLAt w t A X):
 Calls prog 25 #[.agg #[.slice (some ⟨t.ba,0,none⟩) t.na t.ca,.slice (some ⟨t.bn,0,none⟩) t.nn t.cn]] w
  fun e w'=>Below w.heap.size w w'/\∃g cap,e= .returned (.agg #[.slice (some ⟨t.ba,0,none⟩) t.ca t.ca,.slice (some ⟨g,0,none⟩) t.cn cap])/\w.heap.size<=g/\ar_ w' g 24 t.cn (rowv t.rb t.rc t.rc):=by
 obtain⟨i0,hi0,hz0,hz01,hz02⟩:=info_parts j6_;have g1:=h.na;have g2:=h.ca;have g3:=h.ca1;have g4:=h.nn;have g5:=h.cn;have g6:=h.cn1;obtain⟨ba,na,ca,bn,nn,cn,rb,rl,rc⟩:=t;simp only at g1 g2 g3 g4 g5 g6 ⊢;obtain⟨W,hW,BW,b0,b1,b2⟩:=n3__ w #[.slice (some ⟨ba,0,none⟩) na ca,.slice (some ⟨bn,0,none⟩) nn cn] 41 #[.slice none 0 0,.slice none 0 0] 41 #[.slice none 0 0,.slice none 0 0] 41;have hWs:w.heap.size+1+1+1<=W.heap.size:=by rw[hW];simp
 go_enter func25,ntmps25;go_upto_region 2 with fail;rw[<-hW];clear hW;obtain⟨x0,x1,_,_⟩:=aa_ b0;obtain⟨y0,y1,z0,z1⟩:=aa_ b2;have hP0:fe_ W w.heap.size (W.setCell ⟨w.heap.size+1+1,0,none⟩ (.slice (some ⟨ba,0,none⟩) ca ca)) ⟨ba,na,ca,bn,nn,cn,rb,rl,rc⟩ (.slice none 0 0) 0:=
  ⟨br__.setCell (p:=⟨w.heap.size+1+1,0,none⟩) lr__ _,bg_ b2,on__⟩
 go_wp2_with fail;clear x0 x1 y0 y1 z0 z1 b2;go_loopw [5,6] (fun i' _ wr=>∃(i:Nat) (vn:Value),i<=cn/\i'= .int .i64 i/\fe_ W w.heap.size wr ⟨ba,na,ca,bn,nn,cn,rb,rl,rc⟩ vn i)
  (fun i' _ _=>cn - (intOf i').toNat)
 case atStart=>exact⟨0,_,o_,rfl,hP0⟩
 case round=>
  obtain⟨i,vn,hi,rfl,hP⟩:=hrel;clear hP0;have hbW:=hP.blw;have hbw:Below w.heap.size w wr:=BW.trans (hbW.mono o_);obtain⟨y0,y1,z0,z1⟩:=aa_ hP.blk;obtain⟨al,cl,rfl,hal⟩:=af_ hP.own;have hsz:=ac_ hP.blk;by_cases hlt:i<cn
  . have hc:wr.cell? ⟨bn,i,none⟩=some (tlv ⟨ba,na,ca,bn,nn,cn,rb,rl,rc⟩ i):=(h.below hbw).nxt.cell (show i<cn from hlt);have hrc:rc i<=1000000:=h.rc i hlt;have hrl:rl i<=rc i:=h.rl i hlt;have HP:Hid _:=hP;have H0:Hid _:=h;obtain⟨ri,HRI⟩:=hx__ (rowv rb rc rc i);have HG:∀(nq:Nat) (g cap:Nat) (w2:World),w2.ownsRow (w.heap.size+1+1+1) 24 1 (.slice (some ⟨g,0,none⟩) (i+1) cap) (i+1) ((List.range i).map (rowv rb rc rc)++ [ri])->((wr.drewN nq).alloc (.cells #[ri] 24)).grownBy w2 (Value.slice al i cl).ownBlock->
     w2.heap[w.heap.size+1+1]? =some (.cells #[.slice (some ⟨ba,0,none⟩) ca ca,.slice al i cl] 41 (0,0))/\Hid (fe_ W w.heap.size (w2.setCell ⟨w.heap.size+1+1,1,none⟩ (.slice (some ⟨g,0,none⟩) (i+1) cap)) ⟨ba,na,ca,bn,nn,cn,rb,rl,rc⟩ (.slice (some ⟨g,0,none⟩) (i+1) cap) (i+1)):=by
     intro nq g cap w2 ho hg;exact(HP.out.below ((below_drewN br__ nq).alloc i_ (.cells #[ri] 24))).app (by show w2.ownsRow _ _ _ _ _ ((List.range i).map (rowv rb rc rc)++ [rowv rb rc rc i]);rw[HRI.out];exact ho) hg
    have HNA:∀nq:Nat,((wr.drewN nq).alloc (.cells #[ri] 24)).ownsRow (w.heap.size+1+1+1) 24 1 (.slice al i cl) i ((List.range i).map (rowv rb rc rc)):=fun nq=>
     (HP.out.below ((below_drewN br__ nq).alloc i_ (.cells #[ri] 24))).own
    clear hP hal h;by_cases hr0:rc i=0
    . have e1:tlv ⟨ba,na,ca,bn,nn,cn,rb,rl,rc⟩ i= .slice none 0 0:=by unfold tlv;rw[if_pos hr0]
      have e2:ri= .slice none 0 0:=by rw[<-HRI.out];unfold rowv;rw[if_pos hr0]
      subst e2;rw[e1]at hc;clear e1 hr0;go_wp2_with fail;go_quiet (fail);have hna:=HNA nq;go_wp2_with (at_builtin;refine ae_ _ rfl _ _ 39 rfl (w.heap.size+1+1+1) 24 i0 (.slice none 0 0) 1 24 underlying39 hi0 hz0 hz01 hz02 rfl d_ _ i _ rfl hna ⟨wr.heap.size,0,none⟩ 1 1 [.slice none 0 0] rfl rfl (cell_one_new _ _ _) (oc__ rfl) d_ u_ o_ s_ ?_;intro g cap w2 hown hgr hfr;obtain⟨f0,F⟩:=HG nq g cap w2 hown hgr;obtain⟨f1,f2,f3,f4⟩:=aa_ f0);go_roundw
      case rel=>exact⟨i+1,_,o_,by go_num,F.out⟩
      case measure=>simp[intOf];omega
    . have e1:tlv ⟨ba,na,ca,bn,nn,cn,rb,rl,rc⟩ i= .slice (some ⟨rb i,0,none⟩) (rl i) (rc i):=by unfold tlv;rw[if_neg hr0]
      have e2:ri= .slice (some ⟨rb i,0,none⟩) (rc i) (rc i):=by rw[<-HRI.out];unfold rowv;rw[if_neg hr0]
      subst e2;rw[e1]at hc;clear e1;go_wp2_with fail;go_quiet (fail);have hna:=HNA nq;go_wp2_with (at_builtin;refine ae_ _ rfl _ _ 39 rfl (w.heap.size+1+1+1) 24 i0 (.slice none 0 0) 1 24 underlying39 hi0 hz0 hz01 hz02 rfl d_ _ i _ rfl hna ⟨wr.heap.size,0,none⟩ 1 1 [.slice (some ⟨rb i,0,none⟩) (rc i) (rc i)] rfl rfl (cell_one_new _ _ _) (oc__ rfl) d_ u_ o_ s_ ?_;intro g cap w2 hown hgr hfr;obtain⟨f0,F⟩:=HG nq g cap w2 hown hgr;obtain⟨f1,f2,f3,f4⟩:=aa_ f0);go_roundw
      case rel=>exact⟨i+1,_,o_,by go_num,F.out⟩
      case measure=>simp[intOf];omega
  . have he:i=cn:=o_;subst he;have hq:wr.heap[w.heap.size+1]? =some (.cells #[.slice none 0 0,.slice none 0 0] 41 (0,0)):=(hbW.block _ o_).trans b1;obtain⟨q0,q1,p0,p1⟩:=aa_ hq;obtain⟨gl,rfl,_⟩:=hal o_;have HP:Hid _:=hP;clear hP hal h;go_wp2_with fail;obtain⟨r1,r2,r3⟩:=a7_ (u:= .slice (some ⟨ba,0,none⟩) ca ca) (v:= .slice (some ⟨gl,0,none⟩) i cl) hq;refine bodyPost_ret (v:= .agg #[.slice (some ⟨ba,0,none⟩) ca ca,.slice (some ⟨gl,0,none⟩) i cl]) (by simp[results,results25,go_sem,r1,r2]) rfl ?_;have hlo:=(HP.out.own.lt gl rfl).1;refine⟨(hbw.setCell (p:=⟨w.heap.size+1,0,none⟩) i_ _).setCell (p:=⟨w.heap.size+1,1,none⟩) i_ _,gl,⟨cl,rfl⟩,o_, ?_⟩;exact(((ar_.ofOwn HP.out.own (fun j hj=>hu_ _ _ j hj)).setOther s_ _).setOther s_ _)
end Go.Proofs.YtpngikmcjkjdaaaGreatDoor
