import Derived.Lib.JoinLaws
import Derived.Test.YtpngikmcjkjdaaaGreatDoorC24
set_option linter.unusedVariables false
set_option linter.unusedSimpArgs false
set_option maxRecDepth 20000
set_option maxHeartbeats 80000000
namespace Go.Proofs.YtpngikmcjkjdaaaGreatDoor
open Go.RowKit Tryz List Nat
variable {H:Nat} {P:Program} {w:World}
structure kb_ (w:World)(ao:Option Addr)(len:Nat)(z:Nat->Int):Prop where
 ln:len<=17592186044416
 cell:∀t,t<len->∃b o,ao=some ⟨b,o,none⟩/\w.cell? ⟨b,o+t,none⟩=some (.int .i64 (z t))
theorem kb_.below {w':World}{ao:Option Addr}{len:Nat}{z:Nat->Int}(h:kb_ w ao len z)(hb:Bl w w'):kb_ w' ao len z:=
 ⟨h.ln,fun t ht=>by obtain⟨b,o,e,hc⟩:=h.cell t ht;exact⟨b,o,e,by rw[(bc_ hb).1 _ _ (Χ hc)];exact hc⟩⟩
theorem sr_ (t e:TypeId)(z:Value)(bytes:Nat)(ht:P.underlying t=some (.slice e))(hinfo:(P.info? e).map (fun i=>(i.zero,i.size,i.bytes))=some (some z,1,bytes))(hz1:z.cells= #[z])
 (n:Nat) (hbytes:bytes*n<=281474976710656) (h63:n<=9223372036854775807) (w:World):
 (Instr.makeSlice t (.int .i64 0) (.int .i64 (n:Int))).run P w= .ok (.slice (some ⟨w.heap.size,0,none⟩) 0 n) (w.alloc (.cells (madeCells #[z] n) e)):=by
 obtain⟨i,f,b⟩:=Option.map_eq_some_iff.1 hinfo;simp only[Prod.mk.injEq]at b;obtain⟨j,g,c⟩:=b;have d:(i.bytes:Int)*(n:Int)<=281474976710656:=by
  rw[c];have h:((bytes*n:Nat):Int)<=281474976710656:=o_;rwa [Int.natCast_mul]at h
 have a:=run_make (P:=P) w t e i z ht f j .i64 .i64 0 n o_ o_ d o_;simp only[tn_,g,Nat.mul_one,hz1,Int.toNat_zero]at a;exact a
structure bx_ (W:World)(B:Nat)(w:World)(bT ba bn c0 ka k:Nat)(A:Nat->Bool)(rb rl:Nat->Nat)(X:Nat->Nat->Int):Prop where
 cz:Below (B+1) W w
 cg:w.heap[bT]? =some (.cells #[.slice (some ⟨ba,0,none⟩) ka c0,.slice (some ⟨bn,0,none⟩) k c0] 41 (0,0))
 acc:χ w ba 4 c0 (fun i=> .bool (A i))
 b7:χ w bn 24 c0 (fun i=>if i<k then .slice (some ⟨rb i,0,none⟩) (rl i) 10 else .slice none 0 0)
 row:∀i,i<k->rl i<=8/\B+1<=rb i/\χ w (rb i) 3 10 (fun c=> .int .i64 (X i c))
 lT:B+1<=bT
 la:B+1<=ba
 ln:B+1<=bn
 cX:∀i j,i<j->j<k->rb i≠rb j
theorem bx_.start {W:World}{B bT ba bn c0:Nat}(hb:Below (B+1) W w)(hT:w.heap[bT]? =some (.cells #[.slice (some ⟨ba,0,none⟩) 0 c0,.slice (some ⟨bn,0,none⟩) 0 c0] 41 (0,0)))
 (hA:w.heap[ba]? =some (.cells (madeCells #[.bool false] c0) 4 (0,0))) (hN:w.heap[bn]? =some (.cells (madeCells #[.slice none 0 0] c0) 24 (0,0))) (h1:B+1<=ba) (h2:B+1<=bn) (h3:B+1<=bT):
 bx_ W B w bT ba bn c0 0 0 (fun _=>false) (fun _=>0) (fun _=>0) (fun _ _=>0):=
 ⟨hb,hT,χ.ofRow (h5_ hA),(χ.ofRow (h5_ hN)).congr (fun i _=>i_),fun i hi=>absurd hi o_,h3,h1,h2,fun i j _ hj=>absurd hj o_⟩
section
variable {W w w2:World} {B bT ba bn c0 ka k:Nat} {A:Nat->Bool} {rb rl:Nat->Nat} {X:Nat->Nat->Int}
theorem bx_.below (h:bx_ W B w bT ba bn c0 ka k A rb rl X)(hb:Bl w w2):bx_ W B w2 bT ba bn c0 ka k A rb rl X:=
 ⟨h.cz.trans (hb.mono (by have:=κ h.cg;have:=h.lT;omega)),by rw[hb.block _ (κ h.cg)];exact h.cg,h.acc.below hb,h.b7.below hb,fun i hi=>⟨(h.row i hi).1,(h.row i hi).2.1,(h.row i hi).2.2.below hb⟩,h.lT,h.la,h.ln,h.cX⟩
theorem bx_.drew (h:bx_ W B w bT ba bn c0 ka k A rb rl X):bx_ W B w.drew bT ba bn c0 ka k A rb rl X:=h.below (μ.drew)
theorem bx_.fy (h:bx_ W B w bT ba bn c0 ka k A rb rl X)(b:Bool):bx_ W B ((w.setCell ⟨ba,ka,none⟩ (.bool b)).setCell ⟨bT,0,none⟩ (.slice (some ⟨ba,0,none⟩) (ka+1) c0)) bT ba bn c0 (ka+1) k (fun i=>if i=ka then b else A i) rb rl X:=by
 have a:bT≠ba:=cf_ h.cg h.acc d_;have c:bT≠bn:=cf_ h.cg h.b7 d_;have d:bn≠ba:=h.b7.ne h.acc d_;refine⟨(h.cz.setCell (p:=⟨ba,ka,none⟩) h.la _).setCell (p:=⟨bT,0,none⟩) h.lT _,cb_ (a3_ h.cg a), ?_,(h.b7.setOther d _).setOther (fun e=>c e.symm) _,fun i hi=>⟨(h.row i hi).1,(h.row i hi).2.1, ?_⟩,h.lT,h.la,h.ln,h.cX⟩
 . refine((h.acc.set ka _).setOther (fun e=>a e.symm) _).congr (fun i _=> ?_);by_cases e:i=ka<;>simp[e]
 . have r:=(h.row i hi).2.2;exact(r.setOther (r.ne h.acc d_) _).setOther (fun e=>(cf_ h.cg r d_) e.symm) _
theorem bx_.other (h:bx_ W B w bT ba bn c0 ka k A rb rl X){n:Nat}{f:Nat->Value}(hr:χ w H 3 n f)(hH:B+1<=H)(hne:∀i,i<k->rb i≠H)(j:Nat)(v:Value):bx_ W B (w.setCell ⟨H,j,none⟩ v) bT ba bn c0 ka k A rb rl X:=
 ⟨h.cz.setCell (p:=⟨H,j,none⟩) hH _,a3_ h.cg (cf_ h.cg hr d_),h.acc.setOther (h.acc.ne hr d_) _,h.b7.setOther (h.b7.ne hr d_) _,fun i hi=>⟨(h.row i hi).1,(h.row i hi).2.1,(h.row i hi).2.2.setOther (hne i hi) _⟩,h.lT,h.la,h.ln,h.cX⟩
theorem bx_.fw (h:bx_ W B w bT ba bn c0 ka k A rb rl X){m:Nat}{Y:Nat->Int}(hr:χ w H 3 10 (fun c=> .int .i64 (Y c)))(hm:m<=8)(hH:B+1<=H)(hne:∀i,i<k->rb i≠H):
 bx_ W B ((w.setCell ⟨bn,k,none⟩ (.slice (some ⟨H,0,none⟩) m 10)).setCell ⟨bT,1,none⟩ (.slice (some ⟨bn,0,none⟩) (k+1) c0)) bT ba bn c0 ka (k+1) A (fun i=>if i=k then H else rb i) (fun i=>if i=k then m else rl i) (fun i=>if i=k then Y else X i):=by
 have d:bT≠ba:=cf_ h.cg h.acc d_;have a:bT≠bn:=cf_ h.cg h.b7 d_;have f:ba≠bn:=h.acc.ne h.b7 d_;refine⟨(h.cz.setCell (p:=⟨bn,k,none⟩) h.ln _).setCell (p:=⟨bT,1,none⟩) h.lT _,fr_ (a3_ h.cg a),(h.acc.setOther f _).setOther (fun e=>d e.symm) _, ?_,fun i hi=> ?_,h.lT,h.la,h.ln,fun i j hij hj=> ?_⟩
 . refine((h.b7.set k _).setOther (fun e=>a e.symm) _).congr (fun i _=> ?_);by_cases e:i=k
   . simp[e]
   . simp only[if_neg e];by_cases b:i<k
     . rw[if_pos b,if_pos o_]
     . rw[if_neg b,if_neg o_]
 . by_cases e:i=k
   . subst e;simp only[if_true];exact⟨hm,hH,(hr.setOther (hr.ne h.b7 d_) _).setOther (fun e=>(cf_ h.cg hr d_) e.symm) _⟩
   . simp only[if_neg e];have r:=h.row i o_;exact⟨r.1,r.2.1,(r.2.2.setOther (r.2.2.ne h.b7 d_) _).setOther (fun e=>(cf_ h.cg r.2.2 d_) e.symm) _⟩
 . by_cases e:j=k
   . subst e;simp only[if_true,if_neg (show i≠j by omega)];exact hne i o_
   . simp only[if_neg e,if_neg (show i≠k by omega)];exact h.cX i j hij o_
end
structure g8_ (W:World)(B:Nat)(w:World)(bT ba bn c0 na k:Nat)(A:Nat->Bool)(rb rl:Nat->Nat)(X:Nat->Nat->Int):Prop where
 cz:Below (B+1) W w
 cg:w.heap[bT]? =some (.cells #[.slice (some ⟨ba,0,none⟩) na c0,.slice (some ⟨bn,0,none⟩) k c0] 41 (0,0))
 acc:χ w ba 4 c0 (fun i=> .bool (A i))
 b7:χ w bn 24 c0 (fun i=>if i<k then .slice (some ⟨rb i,0,none⟩) (rl i) 10 else .slice none 0 0)
 row:∀i,i<k->rl i<=10/\B+1<=rb i/\χ w (rb i) 3 10 (fun c=> .int .i64 (X i c))
 lT:B+1<=bT
 la:B+1<=ba
 ln:B+1<=bn
 cX:∀i j,i<j->j<k->rb i≠rb j
section
variable {W w w2:World} {B bT ba bn c0 ka k na:Nat} {A:Nat->Bool} {rb rl:Nat->Nat} {X:Nat->Nat->Int}
theorem bx_.fin (h:bx_ W B w bT ba bn c0 ka k A rb rl X):g8_ W B w bT ba bn c0 ka k A rb rl X:=
 ⟨h.cz,h.cg,h.acc,h.b7,fun i hi=>⟨by have:=(h.row i hi).1;omega,(h.row i hi).2⟩,h.lT,h.la,h.ln,h.cX⟩
theorem g8_.below (h:g8_ W B w bT ba bn c0 na k A rb rl X)(hb:Bl w w2):g8_ W B w2 bT ba bn c0 na k A rb rl X:=
 ⟨h.cz.trans (hb.mono (by have:=κ h.cg;have:=h.lT;omega)),by rw[hb.block _ (κ h.cg)];exact h.cg,h.acc.below hb,h.b7.below hb,fun i hi=>⟨(h.row i hi).1,(h.row i hi).2.1,(h.row i hi).2.2.below hb⟩,h.lT,h.la,h.ln,h.cX⟩
theorem g8_.short (h:g8_ W B w bT ba bn c0 na k A rb rl X)(n:Nat):g8_ W B (w.setCell ⟨bT,0,none⟩ (.slice (some ⟨ba,0,none⟩) n c0)) bT ba bn c0 n k A rb rl X:=by
 have a:bT≠ba:=cf_ h.cg h.acc d_;have b:bT≠bn:=cf_ h.cg h.b7 d_;exact⟨h.cz.setCell (p:=⟨bT,0,none⟩) h.lT _,cb_ h.cg,h.acc.setOther (fun e=>a e.symm) _,h.b7.setOther (fun e=>b e.symm) _,fun i hi=>⟨(h.row i hi).1,(h.row i hi).2.1,(h.row i hi).2.2.setOther (fun e=>(cf_ h.cg (h.row i hi).2.2 d_) e.symm) _⟩,h.lT,h.la,h.ln,h.cX⟩
theorem g8_.ft (h:g8_ W B w bT ba bn c0 na k A rb rl X)(q:Nat)(hq:q<k)(hl:rl q<=9):
 g8_ W B ((w.setCell ⟨rb q,rl q,none⟩ (.int .i64 0)).setCell ⟨bn,q,none⟩ (.slice (some ⟨rb q,0,none⟩) (rl q+1) 10)) bT ba bn c0 na k A rb (fun i=>if i=q then rl q+1 else rl i) (fun i=>if i=q then(fun c=>if c=rl q then 0 else X q c)else X i):=by
 have r:=(h.row q hq).2.2;have d:bT≠rb q:=cf_ h.cg r d_;have f:bT≠bn:=cf_ h.cg h.b7 d_;have g:ba≠rb q:=h.acc.ne r d_;have j:ba≠bn:=h.acc.ne h.b7 d_;have b:bn≠rb q:=h.b7.ne r d_;refine⟨(h.cz.setCell (p:=⟨rb q,rl q,none⟩) (h.row q hq).2.1 _).setCell (p:=⟨bn,q,none⟩) h.ln _,a3_ (a3_ h.cg d) f,(h.acc.setOther g _).setOther j _, ?_,fun i hi=> ?_,h.lT,h.la,h.ln,h.cX⟩
 . refine((h.b7.setOther b _).set q _).congr (fun i _=> ?_);by_cases e:i=q
   . subst e;simp[hq]
   . simp[e]
 . by_cases e:i=q
   . subst e;simp only[if_true];refine⟨o_,(h.row i hq).2.1,((r.set (rl i) _).setOther (fun e=>b e.symm) _).congr (fun c _=> ?_)⟩;by_cases e:c=rl i<;>simp[e]
   . simp only[if_neg e];have a:=h.row i hi;refine⟨a.1,a.2.1,(a.2.2.setOther ?_ _).setOther (a.2.2.ne h.b7 d_) _⟩;rcases Nat.lt_or_gt_of_ne e with h'|h'
     . exact h.cX i q h' hq
     . exact fun e'=>h.cX q i h' hi e'.symm
theorem g8_.done (h:g8_ W B w bT ba bn c0 na k A rb rl X)(h1:na<=c0)(h2:k<=c0)(h3:1<=c0)(h4:c0<=4398046511104)(u v:Value):
 fh_ ((w.setCell ⟨B,0,none⟩ u).setCell ⟨B,1,none⟩ v) ⟨ba,na,c0,bn,k,c0,rb,fun i=>if i<k then rl i else 0,fun i=>if i<k then 10 else 0⟩ A X/\
  B<=ba/\B<=bn/\(∀j,j<c0->0<(if j<k then 10 else 0)->B<=rb j)/\(∀i j,i<j->j<c0->0<(if i<k then 10 else 0)->0<(if j<k then 10 else 0)->rb i≠rb j):=by
 have a:=h.la;have b:=h.ln;refine⟨⟨h1,h4,h3,h2,h4,h3,fun i hi=> ?_,fun i hi=> ?_,(h.acc.setOther s_ _).setOther s_ _, ?_,fun i hi hc=> ?_⟩,o_,o_,fun j hj hc=> ?_,fun i j hij hj hi' hj'=> ?_⟩
 . show(if i<k then rl i else 0)<=(if i<k then 10 else 0)
   by_cases e:i<k
   . rw[if_pos e,if_pos e];exact(h.row i e).1
   . rw[if_neg e,if_neg e];omega
 . show(if i<k then 10 else 0)<=1000000
   split<;>omega
 . refine((h.b7.setOther s_ _).setOther s_ _).congr (fun i _=> ?_);unfold tlv;by_cases e:i<k
   . simp[e]
   . simp[e]
 . have e:i<k:=by
    by_cases e:i<k
    . exact e
    . simp[e]at hc
   have r:=h.row i e;show χ _ (rb i) _ (if i<k then 10 else 0) _
   rw[if_pos e];exact(r.2.2.setOther (by have:=r.2.1;simp;omega) _).setOther (by have:=r.2.1;simp;omega) _
 . have e:j<k:=by
    by_cases e:j<k
    . exact e
    . simp[e]at hc
   have:=(h.row j e).2.1;omega
 . have e:j<k:=by
    by_cases e:j<k
    . exact e
    . simp[e]at hj'
   exact h.cX i j hij e
end
theorem yz_ (w:World){ops:Array Oper}{rest:List Oper}{o:Oper}{a:Act}{Q:Exit->Act->World->Prop}(hgd:o.guard=none)(s x:Operand)(t:TypeId)
 (ho:o.op= .call {callee:= .builtin .append,args:= #[s,x],argTypes:= #[t,t]})
 (e:TypeId) (i:TypeInfo) (ht:P.underlying t=some (.slice e)) (hi:P.info? e=some i) (hsize:i.size=1)
 (g n cap:Nat) (f:Nat->Value) (hs:a.eval s= .slice (some ⟨g,0,none⟩) n cap) (hr:χ w g e cap f) (b:Nat) (v:Value) (hx:a.eval x= .slice (some ⟨b,0,none⟩) 1 1) (hv:w.cell? ⟨b,0,none⟩=some v) (h1:v.oneCell'=true)
 (hroom:n<cap) (h:wpList P ops Q rest (a.put o.dst (.slice (some ⟨g,0,none⟩) (n+1) cap)) (w.setCell ⟨g,n,none⟩ v)):wpList P ops Q (o::rest) a w:=by
 have k:Src P i.size t (.slice (some ⟨b,0,none⟩) 1 1) 1 [v] w:=Src.ofSlice w ht ⟨b,0,none⟩ 1 1 [v] (by rw[hsize];rfl) (fun j u c=>by
  have d:j=0:=by have:=(gs_.1 c).1;simpa using this
  subst d;have:(⟨b,0,none⟩:Addr).add 0=⟨b,0,none⟩:=by simp[Addr.add]
  rw[this];simpa [hv] using c) (by intro u c;simp at c;subst c;exact h1)
 refine wpList_append_room_src w hgd s x t t ho e i ht hi g 0 n cap hs _ hx 1 [v] k o_ ?_ ?_ ?_
 . intro j d;have:j=0:=by simpa using d
   subst this;rw[hsize,Nat.zero_add,Nat.mul_one,Nat.add_zero,hr.cell hroom];rfl
 . intro j d;rw[hsize,Nat.zero_add,Nat.mul_one];exact hr.frozen _
 . rw[hsize,Nat.zero_add,Nat.mul_one];exact h
theorem y0_ {ops:Array Oper}{o:Oper}{a:Act}{K:Act->World->Prop}{Q:Exit->Act->World->Prop}{E:Prop}(hgd:o.guard=none)(s x:Operand)(t:TypeId)
 (ho:o.op= .call {callee:= .builtin .append,args:= #[s,x],argTypes:= #[t,t]})
 (e:TypeId) (i:TypeInfo) (ht:P.underlying t=some (.slice e)) (hi:P.info? e=some i) (hsize:i.size=1)
 (g n cap:Nat) (f:Nat->Value) (hs:a.eval s= .slice (some ⟨g,0,none⟩) n cap) (hr:χ w g e cap f) (b:Nat) (v:Value) (hx:a.eval x= .slice (some ⟨b,0,none⟩) 1 1) (hv:w.cell? ⟨b,0,none⟩=some v) (h1:v.oneCell'=true)
 (hroom:n<cap) (h:K (a.put o.dst (.slice (some ⟨g,0,none⟩) (n+1) cap)) (w.setCell ⟨g,n,none⟩ v)):
 if Region.wanted o (yielded ops a.tmps)=true then Oper.wp P o a w K Q else E:=by
 refine step_append_room hgd s x t ho e i 1 ht hi hsize g 0 n cap hs ⟨b,0,none⟩ 1 1 [v] hx rfl (fun j u c=> ?_) (by intro u c;simp at c;subst c;exact h1) o_ (fun j d=> ?_) ?_
 . have d:j=0:=by have:=(gs_.1 c).1;simpa using this
   subst d;have:(⟨b,0,none⟩:Addr).add 0=⟨b,0,none⟩:=by simp[Addr.add]
   rw[this];simpa [hv] using c
 . have:j=0:=by simpa using d
   subst this;rw[Nat.zero_add,Nat.mul_one,Nat.add_zero,hr.cell hroom];exact⟨rfl,hr.frozen _⟩
 . rw[Nat.zero_add,Nat.mul_one];exact h
theorem p6_ {b:Nat}{x:Value}{t:TypeId}(h:w.heap[b]? =some (.cells #[x] t (0,0))):w.cell? ⟨b,0,none⟩=some x:=by simp[World.cell?,h]
theorem ajo_ (k:Nat)(h:k<=4398046511104):IntKind.i64.wrap (k:Int)=(k:Int):=by rw[IntKind.wrap_i64];omega
def y1_ (w:World)(e:Ending)(w':World):Prop:=
 Bl w w'/\∃(t:TL) (A:Nat->Bool) (X:Nat->Nat->Int),e= .returned (.agg #[.slice (some ⟨t.ba,0,none⟩) t.na t.ca,.slice (some ⟨t.bn,0,none⟩) t.nn t.cn])/\fh_ w' t A X/\
  w.heap.size<=t.ba/\w.heap.size<=t.bn/\(∀j,j<t.cn->0<t.rc j->w.heap.size<=t.rb j)/\(∀i j,i<j->j<t.cn->0<t.rc i->0<t.rc j->t.rb i≠t.rb j)
theorem ajp_ (ao:Option Addr)(len cap:Nat)(z:Nat->Int)(less:Int)(w:World)(h:kb_ w ao len z):
 Calls prog 15 #[.slice ao len cap,.int .i64 less] w
  (y1_ w):=by
 have a0:=h.ln;obtain⟨b,ae⟩:=δ (len/9+2);have aD:((b:Nat):Int)=(len:Int)/9+2:=by rw[<-ae.out];omega
 have aC:b<=4398046511104:=by rw[<-ae.out];omega
 have am:=sr_ (P:=prog) 38 4 (.bool false) 1 underlying38 hc_ rfl b o_ o_;have an:=sr_ (P:=prog) 39 24 (.slice none 0 0) 24 underlying39 ng_ rfl b o_ o_;rw[aD]at am an;obtain⟨W,U,R,-,-⟩:=ν w #[.slice none 0 0,.slice none 0 0] 41;have j:W.heap.size=w.heap.size+1:=by rw[U];simp
 have b0:=aw_ U;go_enter func15,ntmps15;go_upto_region 1 with fail;rw[<-U];clear U;go_cut [5] (fun p wc=>∃f g l:Nat,p= .pointer (some ⟨l,0,none⟩)/\bx_ W w.heap.size wc l f g b 0 0 (fun _=>false) (fun _=>0) (fun _=>0) (fun _ _=>0))
 case first=>
  go_region
  all_goals go_wp2_with fail
  all_goals go_meet
  all_goals first|(refine⟨w.heap.size+1,w.heap.size+1+1,w.heap.size+1+1+1,rfl,bx_.drew (bx_.start ?_ ?_ ?_ ?_ ?_ ?_ ?_)⟩<;>(first|omega|exact((μ.alloc o_ _).alloc s_ _).alloc s_ _|exact ο (by simp[j])|exact φ (ο (by simp[j]))|exact φ (φ (ο (by simp[j]))));done)|(refine⟨w.heap.size+1,w.heap.size+1+1+1,w.heap.size+1+1,rfl,bx_.drew (bx_.start ?_ ?_ ?_ ?_ ?_ ?_ ?_)⟩<;>(first|omega|exact((μ.alloc o_ _).alloc s_ _).alloc s_ _|exact ο (by simp[j])|exact φ (ο (by simp[j]))|exact φ (φ (ο (by simp[j]))));done)|(refine⟨w.heap.size+1+1,w.heap.size+1,w.heap.size+1+1+1,rfl,bx_.drew (bx_.start ?_ ?_ ?_ ?_ ?_ ?_ ?_)⟩<;>(first|omega|exact((μ.alloc o_ _).alloc s_ _).alloc s_ _|exact ο (by simp[j])|exact φ (ο (by simp[j]))|exact φ (φ (ο (by simp[j]))));done)|(refine⟨w.heap.size+1+1,w.heap.size+1+1+1,w.heap.size+1,rfl,bx_.drew (bx_.start ?_ ?_ ?_ ?_ ?_ ?_ ?_)⟩<;>(first|omega|exact((μ.alloc o_ _).alloc s_ _).alloc s_ _|exact ο (by simp[j])|exact φ (ο (by simp[j]))|exact φ (φ (ο (by simp[j]))));done)|(refine⟨w.heap.size+1+1+1,w.heap.size+1,w.heap.size+1+1,rfl,bx_.drew (bx_.start ?_ ?_ ?_ ?_ ?_ ?_ ?_)⟩<;>(first|omega|exact((μ.alloc o_ _).alloc s_ _).alloc s_ _|exact ο (by simp[j])|exact φ (ο (by simp[j]))|exact φ (φ (ο (by simp[j]))));done)|(refine⟨w.heap.size+1+1+1,w.heap.size+1+1,w.heap.size+1,rfl,bx_.drew (bx_.start ?_ ?_ ?_ ?_ ?_ ?_ ?_)⟩<;>(first|omega|exact((μ.alloc o_ _).alloc s_ _).alloc s_ _|exact ο (by simp[j])|exact φ (ο (by simp[j]))|exact φ (φ (ο (by simp[j]))));done)
 case rest=>
  obtain⟨f,g,l,rfl,ah⟩:=hcut;clear am an;obtain⟨i3,ak,a6,al,a7⟩:=info_parts e9_;obtain⟨i4,aG,a8,aV,a9⟩:=info_parts hc_;obtain⟨i0,aF,a4,aU,a5⟩:=info_parts ng_;have ap:=sr_ (P:=prog) 24 3 (.int .i64 0) 8 underlying24 e9_ rfl 10 o_ o_;simp only[show((10:Nat):Int)=10 from rfl]at ap;go_wp2_with fail;go_loopw [6,7,8] (fun i' _ _ wr=>∃(k:Nat) (A:Nat->Bool) (s I:Nat->Nat) (X:Nat->Nat->Int),9*k<=len+8/\i'= .int .i64 (9*(k:Int))/\bx_ W w.heap.size wr l f g b k k A s I X)
   (fun i' _ _ _=>len+9 - (intOf i').toNat)
  case atStart=>exact⟨0,_,_,_,_,o_,rfl,ah⟩
  case round=>
   obtain⟨k,A,s,I,X,hk,rfl,q⟩:=hrel;clear ah;by_cases aJ:9*k<len
   . have n:Hid _:=q;have a2:=κ q.cg;have aI:=q.lT;clear q;have aK:(9*(k:Int))<(len:Int):=o_;go_wp2_with fail;clear ap;rename World=>wo
     have ai:bx_ W w.heap.size (wo.alloc (.cells (madeCells #[.int .i64 0] 10) 3)) l f g b k k A s I X:=n.out.below ξ;have aj:χ (wo.alloc (.cells (madeCells #[.int .i64 0] 10) 3)) wo.heap.size 3 10 (fun c=> .int .i64 ((fun _=>0:Nat->Int) c)):=χ.ofRow (h5_ (ο rfl));go_loopw [7,8] (fun vr kk wi=>∃(m:Nat) (Y:Nat->Int),m<=8/\kk= .int .i64 (9*(k:Int)+1+m)/\vr= .slice (some ⟨wo.heap.size,0,none⟩) m 10/\bx_ W w.heap.size wi l f g b k k A s I X/\χ wi wo.heap.size 3 10 (fun c=> .int .i64 (Y c)))
      (fun _ kk _=>9*k+9 - (intOf kk).toNat)
     case atStart=>exact⟨0,_,o_,by go_num,rfl,ai,aj⟩
     case round=>
      obtain⟨m,Y,hm,rfl,rfl,o,D⟩:=hrel;clear ai aj;by_cases aE:m<8/\9*k+1+m<len
      . obtain⟨aL,aM⟩:=aE;have t1:9*(k:Int)+1+(m:Int)<9*(k:Int)+9:=o_;have t2:9*(k:Int)+1+(m:Int)<(len:Int):=o_;have E:Bl w wr:=R.trans (o.cz.mono o_);obtain⟨bl,ol,rfl,ab⟩:=(h.below E).cell (9*k+1+m) aM;have tn:(9*(k:Int)+1+(m:Int)).toNat=9*k+1+m:=o_;have y:Hid _:=o;have B:Hid (χ wr wo.heap.size 3 10 (fun c=> .int .i64 (Y c))):=D;have aR:χ (wr.alloc (.cells #[.int .i64 (z (9*k+1+m))] 3)) wo.heap.size 3 10 (fun c=> .int .i64 (Y c)):=D.alloc _;have a1:=D.lt;clear o D E;go_wp2_with (at_builtin;refine yz_ _ rfl _ _ 24 rfl 3 i3 underlying24 ak al wo.heap.size m 10 (fun c=> .int .i64 (Y c)) rfl aR wr.heap.size (.int .i64 (z (9*k+1+m))) rfl (p6_ (ο rfl)) rfl o_ ?_);go_roundw
        case rel=>
         refine⟨m+1,fun c=>if c=m then z (9*k+1+m)else Y c,o_,by go_num,rfl,(y.out.other B.out o_ (fun i hi=> ?_) _ _).below ξ,((B.out.set m _).alloc _).congr (fun c _=> ?_)⟩
         . have:=(n.out.row i hi).2.2.lt;omega
         . by_cases e:c=m<;>simp[e]
        case measure=>exact c_
      . have E:Bl w wr:=R.trans (o.cz.mono o_);obtain⟨bl,ol,rfl,ab⟩:=(h.below E).cell (9*k) aJ;have tn:(9*(k:Int)).toNat=9*k:=o_;have t0:0<=9*(k:Int):=o_;have V:k<b:=o_;have y:Hid _:=o;have B:Hid (χ wr wo.heap.size 3 10 (fun c=> .int .i64 (Y c))):=D;obtain⟨M,N,O,Q⟩:=β o.cg;have az:=κ o.cg;have e1:¬l=f:=cf_ o.cg o.acc d_;have aX:¬f=l:=fun e=>e1 e.symm
        have e2:¬l=g:=cf_ o.cg o.b7 d_;obtain⟨zk,ay⟩:=δ (z (9*k));rw[ay.out]at ab;clear o D E;have af:Hid (χ ((wr.alloc (.cells #[.bool (zk.tmod 2 !=0)] 4)).drew) f 4 b (fun i=> .bool (A i))):=(y.out.acc.alloc _).drew;have aw:Hid (wo.heap.size≠f):=B.out.ne y.out.acc d_;have av:Hid (wo.heap.size≠l):=fun e=>cf_ y.out.cg B.out d_ e.symm
        go_upto_region 7 with fail;go_cut [39] (fun v wc=>v= .bool false/\wc=wr)
        case first=>
         by_cases aL:m<8
         . have t1:9*(k:Int)+1+(m:Int)<9*(k:Int)+9:=o_;have t2:¬(9*(k:Int)+1+(m:Int)<(len:Int)):=o_;go_wp2_with fail;go_meet
           exact⟨rfl,rfl⟩
         . have t1:¬(9*(k:Int)+1+(m:Int)<9*(k:Int)+9):=o_;go_wp2_with fail;go_meet
           exact⟨rfl,rfl⟩
        case rest=>
         obtain⟨rfl,aT⟩:=hcut;obtain rfl:wr=wc:=aT.symm;go_upto_region 10 with fail;go_cut [58] (fun _ wc=>∃r,Hid (bx_ W w.heap.size wc l f g b (k+1) k r s I X/\χ wc wo.heap.size 3 10 (fun c=> .int .i64 (Y c))))
         case first=>
          go_region_law
           ((refine y0_ (by rfl) _ _ 38 (by rfl) 4 i4 underlying38 aG aV f k b (fun i=> .bool (A i)) (by rfl) af.out wr.heap.size (.bool (zk.tmod 2 !=0)) (by rfl) (p6_ (ο rfl)) rfl V ?_))
          all_goals go_wp2_with fail
          all_goals go_meet
          all_goals exact⟨_,((y.out.below ξ).fy (zk.tmod 2 !=0)).drew,((((B.out.alloc _).setOther (a:=⟨f,k,none⟩) aw.out _).setOther (a:=⟨l,0,none⟩) av.out _).drew)⟩
         case rest=>
          obtain⟨r,hcut⟩:=hcut;have S:Hid _:=hcut.out.1;have ax:Hid (χ wc wo.heap.size 3 10 (fun c=> .int .i64 (Y c))):=hcut.out.2;clear hcut y B M N O Q ab af;obtain⟨M,N,O,Q⟩:=β S.out.cg;have aA:=κ S.out.cg;have aQ:=S.out.b7.alloc (.cells #[.slice (some ⟨wo.heap.size,0,none⟩) m 10] 24);go_wp2_with (at_builtin;refine yz_ _ rfl _ _ 39 rfl 24 i0 underlying39 aF aU g k b _ rfl aQ wc.heap.size (.slice (some ⟨wo.heap.size,0,none⟩) m 10) rfl (p6_ (ο rfl)) rfl V ?_);go_roundw
          case rel=>
           refine⟨k+1,r,_,_,_,o_,by go_num,(S.out.below ξ).fw (ax.out.alloc _) hm o_ (fun i hi=> ?_)⟩;have:=(n.out.row i hi).2.2.lt;omega
          case measure=>exact c_
   . have F:wr.heap[w.heap.size]? =some (.cells #[.slice none 0 0,.slice none 0 0] 41 (0,0)):=(q.cz.block _ o_).trans b0;obtain⟨q0,q1,p0,p1⟩:=β F;have aI:=q.lT;have az:=κ q.cg;have E:Bl w wr:=R.trans (q.cz.mono o_);have V:k<=b:=o_;obtain⟨M,N,O,Q⟩:=β q.cg;have n:Hid _:=q;have aK:¬(9*(k:Int))<(len:Int):=o_;have aB:¬w.heap.size=l:=o_;have K:∀(w':World) (H:Nat) (r:Nat->Bool) (J:Nat->Nat) (C:Nat->Nat->Int),H<=b->g8_ W w.heap.size w' l f g b H k r s J C->Hid (y1_ w (.returned (.agg #[.slice (some ⟨f,0,none⟩) H b,.slice (some ⟨g,0,none⟩) k b])) ((w'.setCell ⟨w.heap.size,0,none⟩ (.slice (some ⟨f,0,none⟩) H b)).setCell ⟨w.heap.size,1,none⟩ (.slice (some ⟨g,0,none⟩) k b))):=by
      intro w' H r J C aN hf;refine⟨((R.trans (hf.cz.mono o_)).setCell (p:=⟨w.heap.size,0,none⟩) ι _).setCell (p:=⟨w.heap.size,1,none⟩) ι _,⟨f,H,b,g,k,b,s,fun i=>if i<k then J i else 0,fun i=>if i<k then 10 else 0⟩,r,C,rfl, ?_⟩;exact hf.done aN V o_ aC _ _
     clear q h;by_cases aZ:0<less
     . by_cases ac:k=0
       . subst ac;go_wp2_with fail;obtain⟨t,x,r3⟩:=Φ (u:= .slice (some ⟨f,0,none⟩) 0 b) (v:= .slice (some ⟨g,0,none⟩) 0 b) F;refine bodyPost_ret (v:= .agg #[.slice (some ⟨f,0,none⟩) 0 b,.slice (some ⟨g,0,none⟩) 0 b]) (by simp[results,results15,go_sem,t,x]) rfl ?_;exact(K wr 0 _ _ _ o_ n.out.fin).out
       . obtain⟨d,rfl⟩:∃d,k=d+1:=⟨k - 1,o_⟩;have tk:((d:Int)+1 - 1)=d:=o_;have aW:(0:Int)<(d:Int)+1:=o_;have aH:¬less<0:=o_;go_wp2_with fail;have Z:(wr.setCell ⟨l,0,none⟩ (.slice (some ⟨f,0,none⟩) d b)).heap[w.heap.size]? =some (.cells #[.slice none 0 0,.slice none 0 0] 41 (0,0)):=a3_ F aB;obtain⟨t,x,r3⟩:=Φ (u:= .slice (some ⟨f,0,none⟩) d b) (v:= .slice (some ⟨g,0,none⟩) (d+1) b) Z;refine bodyPost_ret (v:= .agg #[.slice (some ⟨f,0,none⟩) d b,.slice (some ⟨g,0,none⟩) (d+1) b]) (by simp[results,results15,go_sem,t,x]) rfl ?_;exact(K _ d _ _ _ o_ (n.out.fin.short d)).out
     . by_cases aH:less<0
       . by_cases ac:k=0
         . subst ac;go_wp2_with fail;obtain⟨t,x,r3⟩:=Φ (u:= .slice (some ⟨f,0,none⟩) 0 b) (v:= .slice (some ⟨g,0,none⟩) 0 b) F;refine bodyPost_ret (v:= .agg #[.slice (some ⟨f,0,none⟩) 0 b,.slice (some ⟨g,0,none⟩) 0 b]) (by simp[results,results15,go_sem,t,x]) rfl ?_;exact(K wr 0 _ _ _ o_ n.out.fin).out
         . obtain⟨d,rfl⟩:∃d,k=d+1:=⟨k - 1,o_⟩;have tk:((d:Int)+1 - 1)=d:=o_;have aW:(0:Int)<(d:Int)+1:=o_;have ad:=n.out.b7.cell (show d<b by omega);have aP:=n.out.b7.frozen d;rw[if_pos (show d<d+1 by omega)]at ad;have G:=n.out.row d o_;obtain⟨aa,L⟩:=δ (s d);obtain⟨aq,T⟩:=δ (I d);have aS:aq<10:=by rw[<-T.out];have:=G.1;omega
           rw[L.out,T.out]at ad;have ag:Hid (χ ((wr.alloc (.cells #[.int .i64 0] 3)).drew) aa 3 10 (fun c=> .int .i64 (X d c))):=by rw[<-L.out];exact(G.2.2.alloc _).drew
           have d1:¬g=aa:=by rw[<-L.out];exact n.out.b7.ne G.2.2 d_
           have d2:¬l=aa:=by rw[<-L.out];exact cf_ n.out.cg G.2.2 d_
           have aO:g<wr.heap.size:=n.out.b7.lt;have a3:=ajo_ d o_;have aY:(d:Int)<(d:Int)+1:=o_;have au:Hid (w.heap.size≠s d):=by have:=G.2.1;unfold Hid;omega
           have ar:Hid (w.heap.size≠g):=by have:=n.out.ln;unfold Hid;omega
           clear G;go_upto_region 16 with fail;go_cut [98] (fun _ wc=>∃r J C,Hid (g8_ W w.heap.size wc l f g b (d+1) (d+1) r s J C)/\wc.heap[w.heap.size]? =some (.cells #[.slice none 0 0,.slice none 0 0] 41 (0,0)))
           case first=>
            go_region_law
             ((refine y0_ (by rfl) _ _ 24 (by rfl) 3 i3 underlying24 ak al aa aq 10 (fun c=> .int .i64 (X d c)) (by rfl) ag.out wr.heap.size (.int .i64 0) (by rfl) (p6_ (ο rfl)) rfl aS ?_))
            all_goals go_wp2_with fail
            all_goals go_meet
            all_goals (rw[<-L.out,<-T.out];exact⟨_,_,_,((n.out.fin.below ξ).ft d o_ (by rw[T.out];omega)).below (μ.drew),a3_ (a3_ (φ F) au.out) ar.out⟩)
           case rest=>
            obtain⟨r,J,C,hF,Z⟩:=hcut;clear M N O Q q0 q1 p0 p1 ad aP ag d1 d2 aO;obtain⟨q0,q1,p0,p1⟩:=β Z;obtain⟨M,N,O,Q⟩:=β hF.out.cg;have aA:=κ hF.out.cg;go_wp2_with fail;obtain⟨t,x,r3⟩:=Φ (u:= .slice (some ⟨f,0,none⟩) (d+1) b) (v:= .slice (some ⟨g,0,none⟩) (d+1) b) Z;refine bodyPost_ret (v:= .agg #[.slice (some ⟨f,0,none⟩) (d+1) b,.slice (some ⟨g,0,none⟩) (d+1) b]) (by simp[results,results15,go_sem,t,x]) rfl ?_;exact(K _ (d+1) _ _ _ o_ hF.out).out
       . have h0:less=0:=o_;subst h0;go_wp2_with fail;obtain⟨t,x,r3⟩:=Φ (u:= .slice (some ⟨f,0,none⟩) k b) (v:= .slice (some ⟨g,0,none⟩) k b) F;refine bodyPost_ret (v:= .agg #[.slice (some ⟨f,0,none⟩) k b,.slice (some ⟨g,0,none⟩) k b]) (by simp[results,results15,go_sem,t,x]) rfl ?_;exact(K wr k _ _ _ o_ n.out.fin).out
end Go.Proofs.YtpngikmcjkjdaaaGreatDoor
