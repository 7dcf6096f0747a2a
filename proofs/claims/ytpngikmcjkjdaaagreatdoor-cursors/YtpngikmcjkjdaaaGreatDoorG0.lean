import Derived.Test.YtpngikmcjkjdaaaGreatDoorProg
import Derived.WalkKit
import Derived.WalkLawsBesides
import Derived.WalkSpells
set_option linter.unusedVariables false
set_option maxRecDepth 20000
set_option maxHeartbeats 80000000
namespace Go.Proofs.YtpngikmcjkjdaaaGreatDoor
open Go.RowKit Tryz
theorem ba__ {w:World} {o:Obj}:Below w.heap.size w (w.alloc o):=(Below.refl _ _).alloc (Nat.le_refl _) _
theorem bw__ {w W:World} {o:Obj}(h:W=w.alloc o):Below w.heap.size w W:=by rw[h];exact ba__
theorem hn__ {w W:World} {c:Array Value} {t:TypeId}(h:W=w.alloc (.cells c t)):W.heap[w.heap.size]? =some (.cells c t (0,0)):=by rw[h];exact heap_alloc_new _ _
theorem sz__ {w W:World} {o:Obj}(h:W=w.alloc o):w.heap.size<W.heap.size:=by rw[h];simp
theorem lr__ {n:Nat}:n<=n:=Nat.le_refl _
theorem br__ {n:Nat} {w:World}:Below n w w:=Below.refl _ _
theorem on__ {w:World} {b:Nat} {e:TypeId} {k:Nat}:w.ownsRow b e k (.slice none 0 0) 0 []:=World.ownsRow_nil _ _ _ _
theorem hi__ {p:Prop}(h:p):Hid p:=h
theorem nw__ (w:World)(c:Array Value)(t:TypeId):∃W,W=w.alloc (.cells c t)/\Below w.heap.size w W/\w.heap.size<W.heap.size/\W.heap[w.heap.size]? =some (.cells c t (0,0)):=⟨_,rfl,ba__,sz__ rfl,hn__ rfl⟩
theorem oc__ {x:Value}(h:x.oneCell'=true):∀u∈[x],u.oneCell'=true:=by intro u hu;simp at hu;subst hu;exact h
theorem hw__ {w:World} {o:Obj} {k:Nat}(h:k=w.heap.size):(w.alloc o).heap[k]? =some o:=by subst h;exact heap_alloc_new w o
theorem ho__ {w:World} {o p:Obj} {k:Nat}(h:w.heap[k]? =some p):(w.alloc o).heap[k]? =some p:=by rw[Below.heap_alloc w o k (Array.getElem?_eq_some_iff.1 h).1];exact h
theorem n2__ (w:World)(c:Array Value)(t:TypeId)(d:Array Value)(u:TypeId):∃W,W=(w.alloc (.cells c t)).alloc (.cells d u)/\Below w.heap.size w W/\W.heap[w.heap.size]? =some (.cells c t (0,0))/\W.heap[w.heap.size+1]? =some (.cells d u (0,0)):=⟨_,rfl,ba__.alloc (by simp) _,ho__ (hw__ rfl),hw__ (by simp)⟩
theorem n3__ (w:World)(c:Array Value)(t:TypeId)(d:Array Value)(u:TypeId)(e:Array Value)(v:TypeId):∃W,W=((w.alloc (.cells c t)).alloc (.cells d u)).alloc (.cells e v)/\Below w.heap.size w W/\W.heap[w.heap.size]? =some (.cells c t (0,0))/\W.heap[w.heap.size+1]? =some (.cells d u (0,0))/\W.heap[w.heap.size+1+1]? =some (.cells e v (0,0)):=⟨_,rfl,(ba__.alloc (by simp) _).alloc (by simp;omega) _,ho__ (ho__ (hw__ rfl)),ho__ (hw__ (by simp)),hw__ (by simp)⟩
theorem hx__ {α:Type}(a:α):∃x,Hid (a=x):=⟨a,rfl⟩
theorem ew__ {α:Type}(a:α):∃x,x=a:=⟨a,rfl⟩
theorem o_ {p:Prop}(h:p:=by omega):p:=h
theorem k_ {p:Prop}(h:p:=by kernel_rfl):p:=h
theorem s_ {p:Prop}(h:p:=by simp;omega):p:=h
theorem d_ {p:Prop}(h:p:=by decide):p:=h
theorem i_ {p:Prop}(h:p:=by simp):p:=h
theorem a_ {p:Prop}(h:p:=by assumption):p:=h
theorem u_ {p:Prop}(h:p:=by unfold maxLen;omega):p:=h
theorem g_ {p:Prop}(h:p:=by simp only[List.getElem?_toArray,List.getElem?_cons_succ,List.getElem?_cons_zero];exact rfl):p:=h
theorem y_ {p:Prop}(h:p:=by simp only[go_a]at *;omega):p:=h
theorem z_ {p:Prop}(h:p:=by simp only[go_a];omega):p:=h
theorem l_ {p:Prop}(h:p:=by simp<;>omega):p:=h
theorem e_ {p:Prop}(h:p:=by decide +kernel):p:=h
end Go.Proofs.YtpngikmcjkjdaaaGreatDoor
