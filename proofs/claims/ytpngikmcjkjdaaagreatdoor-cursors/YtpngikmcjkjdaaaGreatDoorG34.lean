import Derived.Test.YtpngikmcjkjdaaaGreatDoorG0
import Derived.Deep.RegionLaw
import Derived.Lib.JoinLaws
import Derived.Test.YtpngikmcjkjdaaaGreatDoorG30
set_option linter.unusedVariables false
set_option linter.unusedSimpArgs false
set_option maxRecDepth 20000
set_option maxHeartbeats 80000000
namespace Go.Proofs.YtpngikmcjkjdaaaGreatDoor
open Go.RowKit Tryz
structure jf_ (w:World)(ao:Option Addr)(len:Nat)(z:Nat->Int):Prop where
 ln:len<=17592186044416
 cell:∀t,t<len->∃b o,ao=some ⟨b,o,none⟩/\w.cell? ⟨b,o+t,none⟩=some (.int .i64 (z t))
theorem jf_.below {w w':World}{ao:Option Addr}{len:Nat}{z:Nat->Int}(h:jf_ w ao len z)(hb:Below w.heap.size w w'):jf_ w' ao len z:=
 ⟨h.ln,fun t ht=>by obtain⟨b,o,e,hc⟩:=h.cell t ht;exact⟨b,o,e,by rw[(cu_ hb).1 _ _ (an_ hc)];exact hc⟩⟩
theorem md_ {P:Program}(t e:TypeId)(z:Value)(bytes:Nat)(ht:P.underlying t=some (.slice e))(hinfo:(P.info? e).map (fun i=>(i.zero,i.size,i.bytes))=some (some z,1,bytes))(hz1:z.cells= #[z])
 (n:Nat) (hbytes:bytes*n<=281474976710656) (h63:n<=9223372036854775807) (w:World):
 (Instr.makeSlice t (.int .i64 0) (.int .i64 (n:Int))).run P w= .ok (.slice (some ⟨w.heap.size,0,none⟩) 0 n) (w.alloc (.cells (madeCells #[z] n) e)):=by
 obtain⟨i,hi,hzz⟩:=Option.map_eq_some_iff.1 hinfo;simp only[Prod.mk.injEq]at hzz;obtain⟨hz,hs,hb⟩:=hzz;have hb':(i.bytes:Int)*(n:Int)<=281474976710656:=by
  rw[hb];have h:((bytes*n:Nat):Int)<=281474976710656:=o_;rwa [Int.natCast_mul]at h
 have hr:=run_make (P:=P) w t e i z ht hi hz .i64 .i64 0 n o_ o_ hb' o_;simp only[Int.toNat_natCast,hs,Nat.mul_one,hz1,Int.toNat_zero]at hr;exact hr
structure bt_ (W:World)(B:Nat)(w:World)(bT ba bn c0 ka k:Nat)(A:Nat->Bool)(rb rl:Nat->Nat)(X:Nat->Nat->Int):Prop where
 blw:Below (B+1) W w
 blk:w.heap[bT]? =some (.cells #[.slice (some ⟨ba,0,none⟩) ka c0,.slice (some ⟨bn,0,none⟩) k c0] 41 (0,0))
 acc:ar_ w ba 4 c0 (fun i=> .bool (A i))
 nxt:ar_ w bn 24 c0 (fun i=>if i<k then .slice (some ⟨rb i,0,none⟩) (rl i) 10 else .slice none 0 0)
 row:∀i,i<k->rl i<=8/\B+1<=rb i/\ar_ w (rb i) 3 10 (fun c=> .int .i64 (X i c))
 lT:B+1<=bT
 la:B+1<=ba
 ln:B+1<=bn
 dis:∀i j,i<j->j<k->rb i≠rb j
theorem bt_.start {W w:World}{B bT ba bn c0:Nat}(hb:Below (B+1) W w)(hT:w.heap[bT]? =some (.cells #[.slice (some ⟨ba,0,none⟩) 0 c0,.slice (some ⟨bn,0,none⟩) 0 c0] 41 (0,0)))
 (hA:w.heap[ba]? =some (.cells (madeCells #[.bool false] c0) 4 (0,0))) (hN:w.heap[bn]? =some (.cells (madeCells #[.slice none 0 0] c0) 24 (0,0))) (h1:B+1<=ba) (h2:B+1<=bn) (h3:B+1<=bT):
 bt_ W B w bT ba bn c0 0 0 (fun _=>false) (fun _=>0) (fun _=>0) (fun _ _=>0):=
 ⟨hb,hT,ar_.ofRow (c2_ hA),(ar_.ofRow (c2_ hN)).congr (fun i _=>i_),fun i hi=>absurd hi o_,h3,h1,h2,fun i j _ hj=>absurd hj o_⟩
section
variable {W w w2:World} {B bT ba bn c0 ka k:Nat} {A:Nat->Bool} {rb rl:Nat->Nat} {X:Nat->Nat->Int}
theorem bt_.below (h:bt_ W B w bT ba bn c0 ka k A rb rl X)(hb:Below w.heap.size w w2):bt_ W B w2 bT ba bn c0 ka k A rb rl X:=
 ⟨h.blw.trans (hb.mono (by have:=ac_ h.blk;have:=h.lT;omega)),by rw[hb.block _ (ac_ h.blk)];exact h.blk,h.acc.below hb,h.nxt.below hb,fun i hi=>⟨(h.row i hi).1,(h.row i hi).2.1,(h.row i hi).2.2.below hb⟩,h.lT,h.la,h.ln,h.dis⟩
theorem bt_.drew (h:bt_ W B w bT ba bn c0 ka k A rb rl X):bt_ W B w.drew bT ba bn c0 ka k A rb rl X:=h.below (br__.drew)
theorem bt_.acc1 (h:bt_ W B w bT ba bn c0 ka k A rb rl X)(b:Bool):bt_ W B ((w.setCell ⟨ba,ka,none⟩ (.bool b)).setCell ⟨bT,0,none⟩ (.slice (some ⟨ba,0,none⟩) (ka+1) c0)) bT ba bn c0 (ka+1) k (fun i=>if i=ka then b else A i) rb rl X:=by
 have e1:bT≠ba:=bo_ h.blk h.acc d_;have e2:bT≠bn:=bo_ h.blk h.nxt d_;have e3:bn≠ba:=h.nxt.ne h.acc d_;refine⟨(h.blw.setCell (p:=⟨ba,ka,none⟩) h.la _).setCell (p:=⟨bT,0,none⟩) h.lT _,bg_ (aj_ h.blk e1), ?_,(h.nxt.setOther e3 _).setOther (fun e=>e2 e.symm) _,fun i hi=>⟨(h.row i hi).1,(h.row i hi).2.1, ?_⟩,h.lT,h.la,h.ln,h.dis⟩
 . refine((h.acc.set ka _).setOther (fun e=>e1 e.symm) _).congr (fun i _=> ?_);by_cases e:i=ka<;>simp[e]
 . have r:=(h.row i hi).2.2;exact(r.setOther (r.ne h.acc d_) _).setOther (fun e=>(bo_ h.blk r d_) e.symm) _
theorem bt_.other (h:bt_ W B w bT ba bn c0 ka k A rb rl X){H n:Nat}{f:Nat->Value}(hr:ar_ w H 3 n f)(hH:B+1<=H)(hne:∀i,i<k->rb i≠H)(j:Nat)(v:Value):bt_ W B (w.setCell ⟨H,j,none⟩ v) bT ba bn c0 ka k A rb rl X:=
 ⟨h.blw.setCell (p:=⟨H,j,none⟩) hH _,aj_ h.blk (bo_ h.blk hr d_),h.acc.setOther (h.acc.ne hr d_) _,h.nxt.setOther (h.nxt.ne hr d_) _,fun i hi=>⟨(h.row i hi).1,(h.row i hi).2.1,(h.row i hi).2.2.setOther (hne i hi) _⟩,h.lT,h.la,h.ln,h.dis⟩
theorem bt_.nxt1 (h:bt_ W B w bT ba bn c0 ka k A rb rl X){H m:Nat}{Y:Nat->Int}(hr:ar_ w H 3 10 (fun c=> .int .i64 (Y c)))(hm:m<=8)(hH:B+1<=H)(hne:∀i,i<k->rb i≠H):
 bt_ W B ((w.setCell ⟨bn,k,none⟩ (.slice (some ⟨H,0,none⟩) m 10)).setCell ⟨bT,1,none⟩ (.slice (some ⟨bn,0,none⟩) (k+1) c0)) bT ba bn c0 ka (k+1) A (fun i=>if i=k then H else rb i) (fun i=>if i=k then m else rl i) (fun i=>if i=k then Y else X i):=by
 have e1:bT≠ba:=bo_ h.blk h.acc d_;have e2:bT≠bn:=bo_ h.blk h.nxt d_;have e3:ba≠bn:=h.acc.ne h.nxt d_;refine⟨(h.blw.setCell (p:=⟨bn,k,none⟩) h.ln _).setCell (p:=⟨bT,1,none⟩) h.lT _,c7_ (aj_ h.blk e2),(h.acc.setOther e3 _).setOther (fun e=>e1 e.symm) _, ?_,fun i hi=> ?_,h.lT,h.la,h.ln,fun i j hij hj=> ?_⟩
 . refine((h.nxt.set k _).setOther (fun e=>e2 e.symm) _).congr (fun i _=> ?_);by_cases e:i=k
   . simp[e]
   . simp only[if_neg e];by_cases h':i<k
     . rw[if_pos h',if_pos o_]
     . rw[if_neg h',if_neg o_]
 . by_cases e:i=k
   . subst e;simp only[if_true];exact⟨hm,hH,(hr.setOther (hr.ne h.nxt d_) _).setOther (fun e=>(bo_ h.blk hr d_) e.symm) _⟩
   . simp only[if_neg e];have r:=h.row i o_;exact⟨r.1,r.2.1,(r.2.2.setOther (r.2.2.ne h.nxt d_) _).setOther (fun e=>(bo_ h.blk r.2.2 d_) e.symm) _⟩
 . by_cases e:j=k
   . subst e;simp only[if_true,if_neg (show i≠j by omega)];exact hne i o_
   . simp only[if_neg e,if_neg (show i≠k by omega)];exact h.dis i j hij o_
end
structure ey_ (W:World)(B:Nat)(w:World)(bT ba bn c0 na k:Nat)(A:Nat->Bool)(rb rl:Nat->Nat)(X:Nat->Nat->Int):Prop where
 blw:Below (B+1) W w
 blk:w.heap[bT]? =some (.cells #[.slice (some ⟨ba,0,none⟩) na c0,.slice (some ⟨bn,0,none⟩) k c0] 41 (0,0))
 acc:ar_ w ba 4 c0 (fun i=> .bool (A i))
 nxt:ar_ w bn 24 c0 (fun i=>if i<k then .slice (some ⟨rb i,0,none⟩) (rl i) 10 else .slice none 0 0)
 row:∀i,i<k->rl i<=10/\B+1<=rb i/\ar_ w (rb i) 3 10 (fun c=> .int .i64 (X i c))
 lT:B+1<=bT
 la:B+1<=ba
 ln:B+1<=bn
 dis:∀i j,i<j->j<k->rb i≠rb j
section
variable {W w w2:World} {B bT ba bn c0 ka k na:Nat} {A:Nat->Bool} {rb rl:Nat->Nat} {X:Nat->Nat->Int}
theorem bt_.fin (h:bt_ W B w bT ba bn c0 ka k A rb rl X):ey_ W B w bT ba bn c0 ka k A rb rl X:=
 ⟨h.blw,h.blk,h.acc,h.nxt,fun i hi=>⟨by have:=(h.row i hi).1;omega,(h.row i hi).2⟩,h.lT,h.la,h.ln,h.dis⟩
theorem ey_.below (h:ey_ W B w bT ba bn c0 na k A rb rl X)(hb:Below w.heap.size w w2):ey_ W B w2 bT ba bn c0 na k A rb rl X:=
 ⟨h.blw.trans (hb.mono (by have:=ac_ h.blk;have:=h.lT;omega)),by rw[hb.block _ (ac_ h.blk)];exact h.blk,h.acc.below hb,h.nxt.below hb,fun i hi=>⟨(h.row i hi).1,(h.row i hi).2.1,(h.row i hi).2.2.below hb⟩,h.lT,h.la,h.ln,h.dis⟩
theorem ey_.short (h:ey_ W B w bT ba bn c0 na k A rb rl X)(n:Nat):ey_ W B (w.setCell ⟨bT,0,none⟩ (.slice (some ⟨ba,0,none⟩) n c0)) bT ba bn c0 n k A rb rl X:=by
 have e1:bT≠ba:=bo_ h.blk h.acc d_;have e2:bT≠bn:=bo_ h.blk h.nxt d_;exact⟨h.blw.setCell (p:=⟨bT,0,none⟩) h.lT _,bg_ h.blk,h.acc.setOther (fun e=>e1 e.symm) _,h.nxt.setOther (fun e=>e2 e.symm) _,fun i hi=>⟨(h.row i hi).1,(h.row i hi).2.1,(h.row i hi).2.2.setOther (fun e=>(bo_ h.blk (h.row i hi).2.2 d_) e.symm) _⟩,h.lT,h.la,h.ln,h.dis⟩
theorem ey_.long (h:ey_ W B w bT ba bn c0 na k A rb rl X)(q:Nat)(hq:q<k)(hl:rl q<=9):
 ey_ W B ((w.setCell ⟨rb q,rl q,none⟩ (.int .i64 0)).setCell ⟨bn,q,none⟩ (.slice (some ⟨rb q,0,none⟩) (rl q+1) 10)) bT ba bn c0 na k A rb (fun i=>if i=q then rl q+1 else rl i) (fun i=>if i=q then(fun c=>if c=rl q then 0 else X q c)else X i):=by
 have r:=(h.row q hq).2.2;have e1:bT≠rb q:=bo_ h.blk r d_;have e2:bT≠bn:=bo_ h.blk h.nxt d_;have e3:ba≠rb q:=h.acc.ne r d_;have e4:ba≠bn:=h.acc.ne h.nxt d_;have e5:bn≠rb q:=h.nxt.ne r d_;refine⟨(h.blw.setCell (p:=⟨rb q,rl q,none⟩) (h.row q hq).2.1 _).setCell (p:=⟨bn,q,none⟩) h.ln _,aj_ (aj_ h.blk e1) e2,(h.acc.setOther e3 _).setOther e4 _, ?_,fun i hi=> ?_,h.lT,h.la,h.ln,h.dis⟩
 . refine((h.nxt.setOther e5 _).set q _).congr (fun i _=> ?_);by_cases e:i=q
   . subst e;simp[hq]
   . simp[e]
 . by_cases e:i=q
   . subst e;simp only[if_true];refine⟨o_,(h.row i hq).2.1,((r.set (rl i) _).setOther (fun e=>e5 e.symm) _).congr (fun c _=> ?_)⟩;by_cases e:c=rl i<;>simp[e]
   . simp only[if_neg e];have ri:=h.row i hi;refine⟨ri.1,ri.2.1,(ri.2.2.setOther ?_ _).setOther (ri.2.2.ne h.nxt d_) _⟩;rcases Nat.lt_or_gt_of_ne e with h'|h'
     . exact h.dis i q h' hq
     . exact fun e'=>h.dis q i h' hi e'.symm
theorem ey_.done (h:ey_ W B w bT ba bn c0 na k A rb rl X)(h1:na<=c0)(h2:k<=c0)(h3:1<=c0)(h4:c0<=4398046511104)(u v:Value):
 TLAt ((w.setCell ⟨B,0,none⟩ u).setCell ⟨B,1,none⟩ v) ⟨ba,na,c0,bn,k,c0,rb,fun i=>if i<k then rl i else 0,fun i=>if i<k then 10 else 0⟩ A X/\
  B<=ba/\B<=bn/\(∀j,j<c0->0<(if j<k then 10 else 0)->B<=rb j)/\(∀i j,i<j->j<c0->0<(if i<k then 10 else 0)->0<(if j<k then 10 else 0)->rb i≠rb j):=by
 have la:=h.la;have ln:=h.ln;refine⟨⟨h1,h4,h3,h2,h4,h3,fun i hi=> ?_,fun i hi=> ?_,(h.acc.setOther s_ _).setOther s_ _, ?_,fun i hi hc=> ?_⟩,o_,o_,fun j hj hc=> ?_,fun i j hij hj hi' hj'=> ?_⟩
 . show(if i<k then rl i else 0)<=(if i<k then 10 else 0)
   by_cases e:i<k
   . rw[if_pos e,if_pos e];exact(h.row i e).1
   . rw[if_neg e,if_neg e];omega
 . show(if i<k then 10 else 0)<=1000000
   split<;>omega
 . refine((h.nxt.setOther s_ _).setOther s_ _).congr (fun i _=> ?_);unfold tlv;by_cases e:i<k
   . simp[e]
   . simp[e]
 . have e:i<k:=by
    by_cases e:i<k
    . exact e
    . simp[e]at hc
   have r:=h.row i e;show ar_ _ (rb i) _ (if i<k then 10 else 0) _
   rw[if_pos e];exact(r.2.2.setOther (by have:=r.2.1;simp;omega) _).setOther (by have:=r.2.1;simp;omega) _
 . have e:j<k:=by
    by_cases e:j<k
    . exact e
    . simp[e]at hc
   have:=(h.row j e).2.1;omega
 . have e:j<k:=by
    by_cases e:j<k
    . exact e
    . simp[e]at hj'
   exact h.dis i j hij e
end
theorem it_ {P:Program}(w:World){ops:Array Oper}{rest:List Oper}{o:Oper}{a:Act}{Q:Exit->Act->World->Prop}(hgd:o.guard=none)(s x:Operand)(t:TypeId)
 (ho:o.op= .call {callee:= .builtin .append,args:= #[s,x],argTypes:= #[t,t]})
 (e:TypeId) (i:TypeInfo) (ht:P.underlying t=some (.slice e)) (hi:P.info? e=some i) (hsize:i.size=1)
 (g n cap:Nat) (f:Nat->Value) (hs:a.eval s= .slice (some ⟨g,0,none⟩) n cap) (hr:ar_ w g e cap f) (b:Nat) (v:Value) (hx:a.eval x= .slice (some ⟨b,0,none⟩) 1 1) (hv:w.cell? ⟨b,0,none⟩=some v) (h1:v.oneCell'=true)
 (hroom:n<cap) (h:wpList P ops Q rest (a.put o.dst (.slice (some ⟨g,0,none⟩) (n+1) cap)) (w.setCell ⟨g,n,none⟩ v)):wpList P ops Q (o::rest) a w:=by
 have hsrc:Src P i.size t (.slice (some ⟨b,0,none⟩) 1 1) 1 [v] w:=Src.ofSlice w ht ⟨b,0,none⟩ 1 1 [v] (by rw[hsize];rfl) (fun j u hu=>by
  have hj:j=0:=by have:=(List.getElem?_eq_some_iff.1 hu).1;simpa using this
  subst hj;have:(⟨b,0,none⟩:Addr).add 0=⟨b,0,none⟩:=by simp[Addr.add]
  rw[this];simpa [hv] using hu) (by intro u hu;simp at hu;subst hu;exact h1)
 refine wpList_append_room_src w hgd s x t t ho e i ht hi g 0 n cap hs _ hx 1 [v] hsrc o_ ?_ ?_ ?_
 . intro j hj;have:j=0:=by simpa using hj
   subst this;rw[hsize,Nat.zero_add,Nat.mul_one,Nat.add_zero,hr.cell hroom];rfl
 . intro j hj;rw[hsize,Nat.zero_add,Nat.mul_one];exact hr.frozen _
 . rw[hsize,Nat.zero_add,Nat.mul_one];exact h
theorem j9_ {P:Program}{ops:Array Oper}{o:Oper}{a:Act}{w:World}{K:Act->World->Prop}{Q:Exit->Act->World->Prop}{E:Prop}(hgd:o.guard=none)(s x:Operand)(t:TypeId)
 (ho:o.op= .call {callee:= .builtin .append,args:= #[s,x],argTypes:= #[t,t]})
 (e:TypeId) (i:TypeInfo) (ht:P.underlying t=some (.slice e)) (hi:P.info? e=some i) (hsize:i.size=1)
 (g n cap:Nat) (f:Nat->Value) (hs:a.eval s= .slice (some ⟨g,0,none⟩) n cap) (hr:ar_ w g e cap f) (b:Nat) (v:Value) (hx:a.eval x= .slice (some ⟨b,0,none⟩) 1 1) (hv:w.cell? ⟨b,0,none⟩=some v) (h1:v.oneCell'=true)
 (hroom:n<cap) (h:K (a.put o.dst (.slice (some ⟨g,0,none⟩) (n+1) cap)) (w.setCell ⟨g,n,none⟩ v)):
 if Region.wanted o (yielded ops a.tmps)=true then Oper.wp P o a w K Q else E:=by
 refine step_append_room hgd s x t ho e i 1 ht hi hsize g 0 n cap hs ⟨b,0,none⟩ 1 1 [v] hx rfl (fun j u hu=> ?_) (by intro u hu;simp at hu;subst hu;exact h1) o_ (fun j hj=> ?_) ?_
 . have hj:j=0:=by have:=(List.getElem?_eq_some_iff.1 hu).1;simpa using this
   subst hj;have:(⟨b,0,none⟩:Addr).add 0=⟨b,0,none⟩:=by simp[Addr.add]
   rw[this];simpa [hv] using hu
 . have:j=0:=by simpa using hj
   subst this;rw[Nat.zero_add,Nat.mul_one,Nat.add_zero,hr.cell hroom];exact⟨rfl,hr.frozen _⟩
 . rw[Nat.zero_add,Nat.mul_one];exact h
theorem k7_ {w:World}{b:Nat}{x:Value}{t:TypeId}(h:w.heap[b]? =some (.cells #[x] t (0,0))):w.cell? ⟨b,0,none⟩=some x:=by simp[World.cell?,h]
theorem afw_ (k:Nat)(h:k<=4398046511104):IntKind.i64.wrap (k:Int)=(k:Int):=by rw[IntKind.wrap_i64];omega
def vq_ (w:World)(e:Ending)(w':World):Prop:=
 Below w.heap.size w w'/\∃(t:TL) (A:Nat->Bool) (X:Nat->Nat->Int),e= .returned (.agg #[.slice (some ⟨t.ba,0,none⟩) t.na t.ca,.slice (some ⟨t.bn,0,none⟩) t.nn t.cn])/\TLAt w' t A X/\
  w.heap.size<=t.ba/\w.heap.size<=t.bn/\(∀j,j<t.cn->0<t.rc j->w.heap.size<=t.rb j)/\(∀i j,i<j->j<t.cn->0<t.rc i->0<t.rc j->t.rb i≠t.rb j)
theorem afh_ (ao:Option Addr)(len cap:Nat)(z:Nat->Int)(less:Int)(w:World)(h:jf_ w ao len z):
 Calls prog 15 #[.slice ao len cap,.int .i64 less] w
  (vq_ w):=by
 have hln:=h.ln;obtain⟨c0,HC0⟩:=hx__ (len/9+2);have hd9:((c0:Nat):Int)=(len:Int)/9+2:=by rw[<-HC0.out];omega
 have hc0:c0<=4398046511104:=by rw[<-HC0.out];omega
 have mk1:=md_ (P:=prog) 38 4 (.bool false) 1 underlying38 fa_ rfl c0 o_ o_;have mk2:=md_ (P:=prog) 39 24 (.slice none 0 0) 24 underlying39 j6_ rfl c0 o_ o_;rw[hd9]at mk1 mk2;obtain⟨W,hW,BW,-,-⟩:=nw__ w #[.slice none 0 0,.slice none 0 0] 41;have hWs:W.heap.size=w.heap.size+1:=by rw[hW];simp
 have b0:=hn__ hW;go_enter func15,ntmps15;go_upto_region 1 with fail;rw[<-hW];clear hW;go_cut [5] (fun p wc=>∃ba bn bT:Nat,p= .pointer (some ⟨bT,0,none⟩)/\bt_ W w.heap.size wc bT ba bn c0 0 0 (fun _=>false) (fun _=>0) (fun _=>0) (fun _ _=>0))
 case first=>
  go_region
  all_goals go_wp2_with fail
  all_goals go_meet
  all_goals first|(refine⟨w.heap.size+1,w.heap.size+1+1,w.heap.size+1+1+1,rfl,bt_.drew (bt_.start ?_ ?_ ?_ ?_ ?_ ?_ ?_)⟩<;>(first|omega|exact((br__.alloc o_ _).alloc s_ _).alloc s_ _|exact ag_ (by simp[hWs])|exact ah_ (ag_ (by simp[hWs]))|exact ah_ (ah_ (ag_ (by simp[hWs]))));done)|(refine⟨w.heap.size+1,w.heap.size+1+1+1,w.heap.size+1+1,rfl,bt_.drew (bt_.start ?_ ?_ ?_ ?_ ?_ ?_ ?_)⟩<;>(first|omega|exact((br__.alloc o_ _).alloc s_ _).alloc s_ _|exact ag_ (by simp[hWs])|exact ah_ (ag_ (by simp[hWs]))|exact ah_ (ah_ (ag_ (by simp[hWs]))));done)|(refine⟨w.heap.size+1+1,w.heap.size+1,w.heap.size+1+1+1,rfl,bt_.drew (bt_.start ?_ ?_ ?_ ?_ ?_ ?_ ?_)⟩<;>(first|omega|exact((br__.alloc o_ _).alloc s_ _).alloc s_ _|exact ag_ (by simp[hWs])|exact ah_ (ag_ (by simp[hWs]))|exact ah_ (ah_ (ag_ (by simp[hWs]))));done)|(refine⟨w.heap.size+1+1,w.heap.size+1+1+1,w.heap.size+1,rfl,bt_.drew (bt_.start ?_ ?_ ?_ ?_ ?_ ?_ ?_)⟩<;>(first|omega|exact((br__.alloc o_ _).alloc s_ _).alloc s_ _|exact ag_ (by simp[hWs])|exact ah_ (ag_ (by simp[hWs]))|exact ah_ (ah_ (ag_ (by simp[hWs]))));done)|(refine⟨w.heap.size+1+1+1,w.heap.size+1,w.heap.size+1+1,rfl,bt_.drew (bt_.start ?_ ?_ ?_ ?_ ?_ ?_ ?_)⟩<;>(first|omega|exact((br__.alloc o_ _).alloc s_ _).alloc s_ _|exact ag_ (by simp[hWs])|exact ah_ (ag_ (by simp[hWs]))|exact ah_ (ah_ (ag_ (by simp[hWs]))));done)|(refine⟨w.heap.size+1+1+1,w.heap.size+1+1,w.heap.size+1,rfl,bt_.drew (bt_.start ?_ ?_ ?_ ?_ ?_ ?_ ?_)⟩<;>(first|omega|exact((br__.alloc o_ _).alloc s_ _).alloc s_ _|exact ag_ (by simp[hWs])|exact ah_ (ag_ (by simp[hWs]))|exact ah_ (ah_ (ag_ (by simp[hWs]))));done)
 case rest=>
  obtain⟨ba,bn,bT,rfl,hP0⟩:=hcut;clear mk1 mk2;have hc0':len/9+2=c0:=HC0.out;obtain⟨i3,hi3,hz3,hz31,hz32⟩:=info_parts du_;obtain⟨i4,hi4,hz4,hz41,hz42⟩:=info_parts fa_;obtain⟨i0,hi0,hz0,hz01,hz02⟩:=info_parts j6_;have mk3:=md_ (P:=prog) 24 3 (.int .i64 0) 8 underlying24 du_ rfl 10 o_ o_;simp only[show((10:Nat):Int)=10 from rfl]at mk3;go_wp2_with fail;go_loopw [6,7,8] (fun i' _ _ wr=>∃(k:Nat) (A:Nat->Bool) (rb rl:Nat->Nat) (X:Nat->Nat->Int),9*k<=len+8/\i'= .int .i64 (9*(k:Int))/\bt_ W w.heap.size wr bT ba bn c0 k k A rb rl X)
   (fun i' _ _ _=>len+9 - (intOf i').toNat)
  case atStart=>exact⟨0,_,_,_,_,o_,rfl,hP0⟩
  case round=>
   obtain⟨k,A,rb,rl,X,hk,rfl,hP⟩:=hrel;clear hP0;by_cases hlt:9*k<len
   . have HP:Hid _:=hP;have hsz:=ac_ hP.blk;have hlT:=hP.lT;clear hP;have hlti:(9*(k:Int))<(len:Int):=o_;have hwo:Below w.heap.size w wr:=BW.trans (HP.out.blw.mono o_);go_wp2_with fail;clear mk3;rename World=>wo
     have hP1:bt_ W w.heap.size (wo.alloc (.cells (madeCells #[.int .i64 0] 10) 3)) bT ba bn c0 k k A rb rl X:=HP.out.below ba__;have hR1:ar_ (wo.alloc (.cells (madeCells #[.int .i64 0] 10) 3)) wo.heap.size 3 10 (fun c=> .int .i64 ((fun _=>0:Nat->Int) c)):=ar_.ofRow (c2_ (ag_ rfl));go_loopw [7,8] (fun vr kk wi=>∃(m:Nat) (Y:Nat->Int),m<=8/\kk= .int .i64 (9*(k:Int)+1+m)/\vr= .slice (some ⟨wo.heap.size,0,none⟩) m 10/\bt_ W w.heap.size wi bT ba bn c0 k k A rb rl X/\ar_ wi wo.heap.size 3 10 (fun c=> .int .i64 (Y c)))
      (fun _ kk _=>9*k+9 - (intOf kk).toNat)
     case atStart=>exact⟨0,_,o_,by go_num,rfl,hP1,hR1⟩
     case round=>
      obtain⟨m,Y,hm,rfl,rfl,hPm,hRm⟩:=hrel;clear hP1 hR1;by_cases hgo:m<8/\9*k+1+m<len
      . obtain⟨hm8,hml⟩:=hgo;have t1:9*(k:Int)+1+(m:Int)<9*(k:Int)+9:=o_;have t2:9*(k:Int)+1+(m:Int)<(len:Int):=o_;have hbw:Below w.heap.size w wr:=BW.trans (hPm.blw.mono o_);obtain⟨bl,ol,rfl,hcl⟩:=(h.below hbw).cell (9*k+1+m) hml;have tn:(9*(k:Int)+1+(m:Int)).toNat=9*k+1+m:=o_;have HPm:Hid _:=hPm;have HRm:Hid (ar_ wr wo.heap.size 3 10 (fun c=> .int .i64 (Y c))):=hRm;have hra:ar_ (wr.alloc (.cells #[.int .i64 (z (9*k+1+m))] 3)) wo.heap.size 3 10 (fun c=> .int .i64 (Y c)):=hRm.alloc _;have hso:=hRm.lt;clear hPm hRm hbw;go_wp2_with (at_builtin;refine it_ _ rfl _ _ 24 rfl 3 i3 underlying24 hi3 hz31 wo.heap.size m 10 (fun c=> .int .i64 (Y c)) rfl hra wr.heap.size (.int .i64 (z (9*k+1+m))) rfl (k7_ (ag_ rfl)) rfl o_ ?_);go_roundw
        case rel=>
         refine⟨m+1,fun c=>if c=m then z (9*k+1+m)else Y c,o_,by go_num,rfl,(HPm.out.other HRm.out o_ (fun i hi=> ?_) _ _).below ba__,((HRm.out.set m _).alloc _).congr (fun c _=> ?_)⟩
         . have:=(HP.out.row i hi).2.2.lt;omega
         . by_cases e:c=m<;>simp[e]
        case measure=>simp[intOf];omega
      . have hbw:Below w.heap.size w wr:=BW.trans (hPm.blw.mono o_);obtain⟨bl,ol,rfl,hcl⟩:=(h.below hbw).cell (9*k) hlt;have tn:(9*(k:Int)).toNat=9*k:=o_;have t0:0<=9*(k:Int):=o_;have hkc:k<c0:=o_;have HPm:Hid _:=hPm;have HRm:Hid (ar_ wr wo.heap.size 3 10 (fun c=> .int .i64 (Y c))):=hRm;obtain⟨y0,y1,z0,z1⟩:=aa_ hPm.blk;have hTs:=ac_ hPm.blk;have hro:=hRm.lt;have e1:¬bT=ba:=bo_ hPm.blk hPm.acc d_;have e1':¬ba=bT:=fun e=>e1 e.symm
        have e2:¬bT=bn:=bo_ hPm.blk hPm.nxt d_;obtain⟨zk,HZK⟩:=hx__ (z (9*k));rw[HZK.out]at hcl;clear hPm hRm hbw;have HRA:Hid (ar_ ((wr.alloc (.cells #[.bool (zk.tmod 2 !=0)] 4)).drew) ba 4 c0 (fun i=> .bool (A i))):=(HPm.out.acc.alloc _).drew;have HHa:Hid (wo.heap.size≠ba):=HRm.out.ne HPm.out.acc d_;have HHT:Hid (wo.heap.size≠bT):=fun e=>bo_ HPm.out.blk HRm.out d_ e.symm
        go_upto_region 7 with fail;go_cut [39] (fun v wc=>v= .bool false/\wc=wr)
        case first=>
         by_cases hm8:m<8
         . have t1:9*(k:Int)+1+(m:Int)<9*(k:Int)+9:=o_;have t2:¬(9*(k:Int)+1+(m:Int)<(len:Int)):=o_;go_wp2_with fail;go_meet
           exact⟨rfl,rfl⟩
         . have t1:¬(9*(k:Int)+1+(m:Int)<9*(k:Int)+9):=o_;go_wp2_with fail;go_meet
           exact⟨rfl,rfl⟩
        case rest=>
         obtain⟨rfl,hwc⟩:=hcut;obtain rfl:wr=wc:=hwc.symm;go_upto_region 10 with fail;go_cut [58] (fun _ wc=>∃A',Hid (bt_ W w.heap.size wc bT ba bn c0 (k+1) k A' rb rl X/\ar_ wc wo.heap.size 3 10 (fun c=> .int .i64 (Y c))))
         case first=>
          go_region_law
           ((refine j9_ (by rfl) _ _ 38 (by rfl) 4 i4 underlying38 hi4 hz41 ba k c0 (fun i=> .bool (A i)) (by rfl) HRA.out wr.heap.size (.bool (zk.tmod 2 !=0)) (by rfl) (k7_ (ag_ rfl)) rfl hkc ?_))
          all_goals go_wp2_with fail
          all_goals go_meet
          all_goals exact⟨_,((HPm.out.below ba__).acc1 (zk.tmod 2 !=0)).drew,((((HRm.out.alloc _).setOther (a:=⟨ba,k,none⟩) HHa.out _).setOther (a:=⟨bT,0,none⟩) HHT.out _).drew)⟩
         case rest=>
          obtain⟨A',hcut⟩:=hcut;have HQ:Hid _:=hcut.out.1;have HRm2:Hid (ar_ wc wo.heap.size 3 10 (fun c=> .int .i64 (Y c))):=hcut.out.2;clear hcut HPm HRm y0 y1 z0 z1 hcl HRA;obtain⟨y0,y1,z0,z1⟩:=aa_ HQ.out.blk;have hTs2:=ac_ HQ.out.blk;have hnxa:=HQ.out.nxt.alloc (.cells #[.slice (some ⟨wo.heap.size,0,none⟩) m 10] 24);go_wp2_with (at_builtin;refine it_ _ rfl _ _ 39 rfl 24 i0 underlying39 hi0 hz01 bn k c0 _ rfl hnxa wc.heap.size (.slice (some ⟨wo.heap.size,0,none⟩) m 10) rfl (k7_ (ag_ rfl)) rfl hkc ?_);go_roundw
          case rel=>
           refine⟨k+1,A',_,_,_,o_,by go_num,(HQ.out.below ba__).nxt1 (HRm2.out.alloc _) hm o_ (fun i hi=> ?_)⟩;have:=(HP.out.row i hi).2.2.lt;omega
          case measure=>simp[intOf];omega
   . have hq:wr.heap[w.heap.size]? =some (.cells #[.slice none 0 0,.slice none 0 0] 41 (0,0)):=(hP.blw.block _ o_).trans b0;obtain⟨q0,q1,p0,p1⟩:=aa_ hq;have hlT:=hP.lT;have hTs:=ac_ hP.blk;have hbw:Below w.heap.size w wr:=BW.trans (hP.blw.mono o_);have hkc:k<=c0:=o_;obtain⟨y0,y1,z0,z1⟩:=aa_ hP.blk;have HP:Hid _:=hP;have hlti:¬(9*(k:Int))<(len:Int):=o_;have hbB:¬w.heap.size=bT:=o_;have hbB':¬bT=w.heap.size:=o_;have HF:∀(w':World) (na:Nat) (A':Nat->Bool) (rl':Nat->Nat) (X':Nat->Nat->Int),na<=c0->ey_ W w.heap.size w' bT ba bn c0 na k A' rb rl' X'->Hid (vq_ w (.returned (.agg #[.slice (some ⟨ba,0,none⟩) na c0,.slice (some ⟨bn,0,none⟩) k c0])) ((w'.setCell ⟨w.heap.size,0,none⟩ (.slice (some ⟨ba,0,none⟩) na c0)).setCell ⟨w.heap.size,1,none⟩ (.slice (some ⟨bn,0,none⟩) k c0))):=by
      intro w' na A' rl' X' hna hf;refine⟨((BW.trans (hf.blw.mono o_)).setCell (p:=⟨w.heap.size,0,none⟩) lr__ _).setCell (p:=⟨w.heap.size,1,none⟩) lr__ _,⟨ba,na,c0,bn,k,c0,rb,fun i=>if i<k then rl' i else 0,fun i=>if i<k then 10 else 0⟩,A',X',rfl, ?_⟩;exact hf.done hna hkc o_ hc0 _ _
     clear hP h;by_cases hl1:0<less
     . by_cases hk0:k=0
       . subst hk0;go_wp2_with fail;obtain⟨r1,r2,r3⟩:=a7_ (u:= .slice (some ⟨ba,0,none⟩) 0 c0) (v:= .slice (some ⟨bn,0,none⟩) 0 c0) hq;refine bodyPost_ret (v:= .agg #[.slice (some ⟨ba,0,none⟩) 0 c0,.slice (some ⟨bn,0,none⟩) 0 c0]) (by simp[results,results15,go_sem,r1,r2]) rfl ?_;exact(HF wr 0 _ _ _ o_ HP.out.fin).out
       . obtain⟨k',rfl⟩:∃k',k=k'+1:=⟨k - 1,o_⟩;have tk:((k':Int)+1 - 1)=k':=o_;have tk0:(0:Int)<(k':Int)+1:=o_;have hl2:¬less<0:=o_;go_wp2_with fail;have hq2:(wr.setCell ⟨bT,0,none⟩ (.slice (some ⟨ba,0,none⟩) k' c0)).heap[w.heap.size]? =some (.cells #[.slice none 0 0,.slice none 0 0] 41 (0,0)):=aj_ hq hbB;obtain⟨r1,r2,r3⟩:=a7_ (u:= .slice (some ⟨ba,0,none⟩) k' c0) (v:= .slice (some ⟨bn,0,none⟩) (k'+1) c0) hq2;refine bodyPost_ret (v:= .agg #[.slice (some ⟨ba,0,none⟩) k' c0,.slice (some ⟨bn,0,none⟩) (k'+1) c0]) (by simp[results,results15,go_sem,r1,r2]) rfl ?_;exact(HF _ k' _ _ _ o_ (HP.out.fin.short k')).out
     . by_cases hl2:less<0
       . by_cases hk0:k=0
         . subst hk0;go_wp2_with fail;obtain⟨r1,r2,r3⟩:=a7_ (u:= .slice (some ⟨ba,0,none⟩) 0 c0) (v:= .slice (some ⟨bn,0,none⟩) 0 c0) hq;refine bodyPost_ret (v:= .agg #[.slice (some ⟨ba,0,none⟩) 0 c0,.slice (some ⟨bn,0,none⟩) 0 c0]) (by simp[results,results15,go_sem,r1,r2]) rfl ?_;exact(HF wr 0 _ _ _ o_ HP.out.fin).out
         . obtain⟨k',rfl⟩:∃k',k=k'+1:=⟨k - 1,o_⟩;have tk:((k':Int)+1 - 1)=k':=o_;have tk0:(0:Int)<(k':Int)+1:=o_;have hnk:=HP.out.nxt.cell (show k'<c0 by omega);have hnf:=HP.out.nxt.frozen k';rw[if_pos (show k'<k'+1 by omega)]at hnk;have hrow:=HP.out.row k' o_;obtain⟨rbk,HRB⟩:=hx__ (rb k');obtain⟨rlk,HRL⟩:=hx__ (rl k');have hrl:rlk<10:=by rw[<-HRL.out];have:=hrow.1;omega
           rw[HRB.out,HRL.out]at hnk;have HRR:Hid (ar_ ((wr.alloc (.cells #[.int .i64 0] 3)).drew) rbk 3 10 (fun c=> .int .i64 (X k' c))):=by rw[<-HRB.out];exact(hrow.2.2.alloc _).drew
           have d1:¬bn=rbk:=by rw[<-HRB.out];exact HP.out.nxt.ne hrow.2.2 d_
           have d2:¬bT=rbk:=by rw[<-HRB.out];exact bo_ HP.out.blk hrow.2.2 d_
           have hnb:bn<wr.heap.size:=HP.out.nxt.lt;have hwk:=afw_ k' o_;have hki:(k':Int)<(k':Int)+1:=o_;have HBR:Hid (w.heap.size≠rb k'):=by have:=hrow.2.1;unfold Hid;omega
           have HBN:Hid (w.heap.size≠bn):=by have:=HP.out.ln;unfold Hid;omega
           clear hrow;go_upto_region 16 with fail;go_cut [98] (fun _ wc=>∃A' rl' X',Hid (ey_ W w.heap.size wc bT ba bn c0 (k'+1) (k'+1) A' rb rl' X')/\wc.heap[w.heap.size]? =some (.cells #[.slice none 0 0,.slice none 0 0] 41 (0,0)))
           case first=>
            go_region_law
             ((refine j9_ (by rfl) _ _ 24 (by rfl) 3 i3 underlying24 hi3 hz31 rbk rlk 10 (fun c=> .int .i64 (X k' c)) (by rfl) HRR.out wr.heap.size (.int .i64 0) (by rfl) (k7_ (ag_ rfl)) rfl hrl ?_))
            all_goals go_wp2_with fail
            all_goals go_meet
            all_goals (rw[<-HRB.out,<-HRL.out];exact⟨_,_,_,((HP.out.fin.below ba__).long k' o_ (by rw[HRL.out];omega)).below (br__.drew),aj_ (aj_ (ah_ hq) HBR.out) HBN.out⟩)
           case rest=>
            obtain⟨A',rl',X',hF,hq2⟩:=hcut;clear y0 y1 z0 z1 q0 q1 p0 p1 hnk hnf HRR d1 d2 hnb;obtain⟨q0,q1,p0,p1⟩:=aa_ hq2;obtain⟨y0,y1,z0,z1⟩:=aa_ hF.out.blk;have hTs2:=ac_ hF.out.blk;go_wp2_with fail;obtain⟨r1,r2,r3⟩:=a7_ (u:= .slice (some ⟨ba,0,none⟩) (k'+1) c0) (v:= .slice (some ⟨bn,0,none⟩) (k'+1) c0) hq2;refine bodyPost_ret (v:= .agg #[.slice (some ⟨ba,0,none⟩) (k'+1) c0,.slice (some ⟨bn,0,none⟩) (k'+1) c0]) (by simp[results,results15,go_sem,r1,r2]) rfl ?_;exact(HF _ (k'+1) _ _ _ o_ hF.out).out
       . have h0:less=0:=o_;subst h0;go_wp2_with fail;obtain⟨r1,r2,r3⟩:=a7_ (u:= .slice (some ⟨ba,0,none⟩) k c0) (v:= .slice (some ⟨bn,0,none⟩) k c0) hq;refine bodyPost_ret (v:= .agg #[.slice (some ⟨ba,0,none⟩) k c0,.slice (some ⟨bn,0,none⟩) k c0]) (by simp[results,results15,go_sem,r1,r2]) rfl ?_;exact(HF wr k _ _ _ o_ HP.out.fin).out
end Go.Proofs.YtpngikmcjkjdaaaGreatDoor
