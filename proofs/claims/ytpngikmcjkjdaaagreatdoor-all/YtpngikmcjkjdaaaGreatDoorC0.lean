import Derived.Test.YtpngikmcjkjdaaaGreatDoorProg
import Derived.WalkKit
import Derived.WalkLawsBesides
import Derived.WalkSpells
set_option linter.unusedVariables false
set_option maxRecDepth 20000
set_option maxHeartbeats 80000000
namespace Go.Proofs.YtpngikmcjkjdaaaGreatDoor
open Go.RowKit Tryz List Nat
theorem ξ {w:World} {o:Obj}:Below w.heap.size w (w.alloc o):=(Below.refl _ _).alloc (Nat.le_refl _) _
theorem ob_ {w W:World} {o:Obj}(h:W=w.alloc o):Below w.heap.size w W:=by rw[h];exact ξ
theorem aw_ {w W:World} {c:Array Value} {t:TypeId}(h:W=w.alloc (.cells c t)):W.heap[w.heap.size]? =some (.cells c t (0,0)):=by rw[h];exact heap_alloc_new _ _
theorem t4_ {w W:World} {o:Obj}(h:W=w.alloc o):w.heap.size<W.heap.size:=by rw[h];simp
theorem ι {n:Nat}:n<=n:=Nat.le_refl _
theorem μ {n:Nat} {w:World}:Below n w w:=Below.refl _ _
theorem a8_ {w:World} {b:Nat} {e:TypeId} {k:Nat}:w.ownsRow b e k (.slice none 0 0) 0 []:=World.ownsRow_nil _ _ _ _
theorem α {p:Prop}(h:p):Hid p:=h
theorem ν (w:World)(c:Array Value)(t:TypeId):∃W,W=w.alloc (.cells c t)/\Below w.heap.size w W/\w.heap.size<W.heap.size/\W.heap[w.heap.size]? =some (.cells c t (0,0)):=⟨_,rfl,ξ,t4_ rfl,aw_ rfl⟩
theorem gt_ {x:Value}(h:x.oneCell'=true):∀u∈[x],u.oneCell'=true:=by intro u hu;simp at hu;subst hu;exact h
theorem ms_ {w:World} {o:Obj} {k:Nat}(h:k=w.heap.size):(w.alloc o).heap[k]? =some o:=by subst h;exact heap_alloc_new w o
theorem oc_ {w:World} {o p:Obj} {k:Nat}(h:w.heap[k]? =some p):(w.alloc o).heap[k]? =some p:=by rw[Below.heap_alloc w o k (Array.getElem?_eq_some_iff.1 h).1];exact h
theorem bl_ (w:World)(c:Array Value)(t:TypeId)(d:Array Value)(u:TypeId):∃W,W=(w.alloc (.cells c t)).alloc (.cells d u)/\Below w.heap.size w W/\W.heap[w.heap.size]? =some (.cells c t (0,0))/\W.heap[w.heap.size+1]? =some (.cells d u (0,0)):=⟨_,rfl,ξ.alloc (by simp) _,oc_ (ms_ rfl),ms_ (by simp)⟩
theorem fe_ (w:World)(c:Array Value)(t:TypeId)(d:Array Value)(u:TypeId)(e:Array Value)(v:TypeId):∃W,W=((w.alloc (.cells c t)).alloc (.cells d u)).alloc (.cells e v)/\Below w.heap.size w W/\W.heap[w.heap.size]? =some (.cells c t (0,0))/\W.heap[w.heap.size+1]? =some (.cells d u (0,0))/\W.heap[w.heap.size+1+1]? =some (.cells e v (0,0)):=⟨_,rfl,(ξ.alloc (by simp) _).alloc (by simp;omega) _,oc_ (oc_ (ms_ rfl)),oc_ (ms_ (by simp)),ms_ (by simp)⟩
theorem δ {α:Type}(a:α):∃x,Hid (a=x):=⟨a,rfl⟩
theorem af_ {α:Type}(a:α):∃x,x=a:=⟨a,rfl⟩
theorem o_ {p:Prop}(h:p:=by omega):p:=h
theorem k_ {p:Prop}(h:p:=by kernel_rfl):p:=h
theorem s_ {p:Prop}(h:p:=by simp;omega):p:=h
theorem d_ {p:Prop}(h:p:=by decide):p:=h
theorem i_ {p:Prop}(h:p:=by simp):p:=h
theorem a_ {p:Prop}(h:p:=by assumption):p:=h
theorem u_ {p:Prop}(h:p:=by unfold maxLen;omega):p:=h
theorem g_ {p:Prop}(h:p:=by simp only[List.getElem?_toArray,List.getElem?_cons_succ,List.getElem?_cons_zero];exact rfl):p:=h
theorem y_ {p:Prop}(h:p:=by simp only[go_a]at *;omega):p:=h
theorem z_ {p:Prop}(h:p:=by simp only[go_a];omega):p:=h
theorem l_ {p:Prop}(h:p:=by simp<;>omega):p:=h
theorem e_ {p:Prop}(h:p:=by decide +kernel):p:=h
theorem η {n m:Nat} {w v u:World}(h:Below n w v)(k:Below m v u)(e:n<=m:=by omega):Below n w u:=h.trans (k.mono e)
theorem c_ {p:Prop}(h:p:=by simp[intOf];omega):p:=h
abbrev I64 (a:Int):Prop:= -9223372036854775808<=a/\a<=9223372036854775807
abbrev Bl (w v:World):Prop:=Below w.heap.size w v
abbrev ge_:=@List.getElem?_eq_getElem
abbrev gd_:=@List.getD_eq_getElem?_getD
abbrev ix_:=@List.idxOf_lt_length_of_mem
abbrev Δ:=@Option.some.injEq
abbrev bq_:=@beq_eq_false_iff_ne
abbrev Μ:=@List.length_append
abbrev ft_:=@Bool.false_eq_true
abbrev gs_:=@List.getElem?_eq_some_iff
abbrev cc_:=@Classical.byContradiction
abbrev tk_:=@List.take_of_length_le
abbrev ls_:=@List.length_singleton
abbrev ac_:=@List.append_assoc
abbrev mp_:=@List.mem_append
abbrev tn_:=@Int.toNat_natCast
abbrev gl_:=@List.getElem?_append_left
abbrev mc_:=@List.mem_cons
end Go.Proofs.YtpngikmcjkjdaaaGreatDoor
