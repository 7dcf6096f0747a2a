import Derived.Deep.AppendLies
import Derived.Deep.RegionLaw
import Derived.Test.YtpngikmcjkjdaaaGreatDoorC6
set_option linter.unusedVariables false
set_option linter.unusedSimpArgs false
set_option maxRecDepth 20000
set_option maxHeartbeats 80000000
namespace Go.Proofs.YtpngikmcjkjdaaaGreatDoor
open Go.RowKit Tryz List Nat
variable {e:Ending} {ps:List Nat} {L:List Nat->Bool} {bound budget c cap g k q:Nat} {w:World}
theorem tw_ (gw base:Nat)(va vn:Value)(k:Nat)(xa xn:List Value)(a:Bool)(r:Nat->Nat)(w:World)(hb:w.heap[gw]? =some (.cells #[va,vn] 169 (0,0)))
 (h0:w.ownsRow base 4 1 va k xa) (h1:w.ownsRow base 174 8 vn k xn) (hlt:gw<base) (hbase:base<=w.heap.size) (hk:k<=100000000):
 Calls prog 138 #[.pointer (some ⟨gw,0,none⟩),.bool a,.agg (do_ r)] w fun e w'=>e= .returned (.tuple #[])/\
  ∃va' vn',w'.heap[gw]? =some (.cells #[va',vn'] 169 (0,0))/\w'.ownsRow base 4 1 va' (k+1) (xa++ [.bool a])/\w'.ownsRow base 174 8 vn' (k+1) (xn++(do_ r).toList)/\
   ε (fun b=>b=gw\/va.ownBlock=some b\/vn.ownBlock=some b) w w'/\(∀g,va'.ownBlock=some g->va.ownBlock=some g\/w.heap.size<=g)/\(∀g,vn'.ownBlock=some g->vn.ownBlock=some g\/w.heap.size<=g):=by
 obtain⟨i4,ab,ad,ae,af⟩:=info_parts hc_;obtain⟨i8,ac,ag,ah,ai⟩:=info_parts and_;have al:=κ hb;obtain⟨W,j,-,-,-⟩:=ν w (do_ r) 174;have ak:w.heap.size+1<=W.heap.size:=by rw[j];simp
 have B:W.heap[gw]? =some (.cells #[va,vn] 169 (0,0)):=by rw[j];exact φ hb
 have P:=aw_ j;have N:ε (fun b=>b=gw\/va.ownBlock=some b\/vn.ownBlock=some b) w W:=by rw[j];exact(ε.refl _ _).alloc _
 have I:W.ownsRow base 4 1 va k xa:=by rw[j];exact h0.alloc _
 have K:W.ownsRow base 174 8 vn k xn:=by rw[j];exact h1.alloc _
 obtain⟨U,V,X,Y⟩:=β B;unfold do_ at j;unfold do_;go_enter func138,ntmps138;go_upto_region 1 with fail;rw[<-j];have T:=fun g e=>h0.lt g e
 have l1:=fun g e=>h1.lt g e
 clear j hb h0 h1;have t:=I.alloc (.cells #[.bool a] 4);have C:base<=(W.alloc (.cells #[.bool a] 4)).heap.size:=s_;have p:∀g f d,d.ownsRow base 4 1 (.slice (some ⟨g,0,none⟩) (k+1) f) (k+1) (xa++ [.bool a])->(W.alloc (.cells #[.bool a] 4)).grownBy d va.ownBlock->(va.ownBlock=some g\/g=(W.alloc (.cells #[.bool a] 4)).heap.size)->
  d.heap[gw]? =some (.cells #[va,vn] 169 (0,0))/\Hid (ε (fun b=>b=gw\/va.ownBlock=some b\/vn.ownBlock=some b) w d/\d.ownsRow base 174 8 vn k xn/\d.heap[w.heap.size]? =some (.cells (do_ r) 174 (0,0))/\W.heap.size<=d.heap.size):=by
  intro g f d ho i hf;have H:=i.size;simp at H;refine⟨?_,(N.alloc _).grown i (fun k e=> .inl (.inr (.inl e))), ?_, ?_,o_⟩
  . rw[i.block gw s_ (fun e=>by have:=(T gw e.symm).1;omega)];exact φ B
  . refine(K.alloc _).kept i ?_;cases hv:vn.ownBlock with
    |none=>exact .inl rfl
    |some x=>exact .inr (fun e=>gn_ K I d_ x hv e.symm)
  . rw[i.block w.heap.size s_ (fun e=>by have h2:=(T _ e.symm).2;omega)];exact φ P
 clear B P N I K;go_upto_region 2 with (at_builtin;refine Υ underlying38 ab ad ae af t ?_;intro g f d G Q D;obtain⟨f0,F⟩:=p g f d G Q D;obtain⟨f3,f4,f5,f6⟩:=β f0);obtain⟨y,z,M,F4⟩:=F.out;obtain⟨c,m⟩:=af_ (d.setCell ⟨gw,0,none⟩ (.slice (some ⟨g,0,none⟩) (k+1) f));have aj:d.heap.size<=c.heap.size:=by rw[m];simp
 have A:c.heap[gw]? =some (.cells #[.slice (some ⟨g,0,none⟩) (k+1) f,vn] 169 (0,0)):=by rw[m];exact cb_ f0
 have l:c.heap[w.heap.size]? =some (.cells (do_ r) 174 (0,0)):=by rw[m];exact a3_ M s_
 have O:ε (fun b=>b=gw\/va.ownBlock=some b\/vn.ownBlock=some b) w c:=by rw[m];exact y.set _ _ (.inl (.inl rfl))
 have J:c.ownsRow base 4 1 (.slice (some ⟨g,0,none⟩) (k+1) f) (k+1) (xa++ [.bool a]):=by rw[m];exact ownsRow_setCell_below G s_ _
 have L:c.ownsRow base 174 8 vn k xn:=by rw[m];exact ownsRow_setCell_below z s_ _
 have fa:va.ownBlock=some g\/w.heap.size<=g:=by
  rcases D with h|h
  . exact .inl h
  . right;rw[h];simp;omega
 rw[<-m];clear m f0 f3 f4 f5 f6 F y z M p Q G D t C U V X Y;obtain⟨U,V,X,Y⟩:=β A;have c0:=cell_of_row c w.heap.size 0 (do_ r) 174 (0,0) l;have c1:=cell_of_row c w.heap.size 1 (do_ r) 174 (0,0) l;have c2:=cell_of_row c w.heap.size 2 (do_ r) 174 (0,0) l;have c3:=cell_of_row c w.heap.size 3 (do_ r) 174 (0,0) l;have c4:=cell_of_row c w.heap.size 4 (do_ r) 174 (0,0) l;have c5:=cell_of_row c w.heap.size 5 (do_ r) 174 (0,0) l;have c6:=cell_of_row c w.heap.size 6 (do_ r) 174 (0,0) l;have c7:=cell_of_row c w.heap.size 7 (do_ r) 174 (0,0) l;simp[do_]at c0 c1 c2 c3 c4 c5 c6 c7;have t:=L.alloc (.cells (do_ r) 174);have C:base<=(c.alloc (.cells (do_ r) 174)).heap.size:=s_;have an:gw<c.heap.size:=o_;have p:∀o q n,n.ownsRow base 174 8 (.slice (some ⟨o,0,none⟩) (k+1) q) (k+1) (xn++(do_ r).toList)->(c.alloc (.cells (do_ r) 174)).grownBy n vn.ownBlock->(vn.ownBlock=some o\/o=(c.alloc (.cells (do_ r) 174)).heap.size)->
  n.heap[gw]? =some (.cells #[.slice (some ⟨g,0,none⟩) (k+1) f,vn] 169 (0,0))/\Hid (ε (fun b=>b=gw\/va.ownBlock=some b\/vn.ownBlock=some b) w n/\n.ownsRow base 4 1 (.slice (some ⟨g,0,none⟩) (k+1) f) (k+1) (xa++ [.bool a])):=by
  intro o q n ho i hf;have H:=i.size;simp at H;refine⟨?_,(O.alloc _).grown i (fun k e=> .inl (.inr (.inr e))), ?_⟩
  . rw[i.block gw s_ (fun e=>by have:=(l1 gw e.symm).1;omega)];exact φ A
  . refine(J.alloc _).kept i ?_;by_cases hv:vn.ownBlock=some g
    . exact absurd (gn_ L J d_ g hv rfl) id
    . exact .inr (fun e=>hv e.symm)
 clear A l O J L;unfold do_ at t C p;have aa:Hid _:=p;clear p;go_region_law
  ((refine step_append_lies _ (by rfl) _ _ _ (by rfl) base 174 i8 (.agg #[.int .i64 0,.int .i64 0,.int .i64 0,.int .i64 0,.int .i64 0,.int .i64 0,.int .i64 0,.int .i64 0]) 8 64 underlying167 ac ag ah ai rfl d_ vn k xn (by rfl) t ⟨c.heap.size,0,none⟩ 1 1 [.int .i64 ((r 0:Nat):Int),.int .i64 ((r 1:Nat):Int),.int .i64 ((r 2:Nat):Int),.int .i64 ((r 3:Nat):Int),.int .i64 ((r 4:Nat):Int),.int .i64 ((r 5:Nat):Int),.int .i64 ((r 6:Nat):Int),.int .i64 ((r 7:Nat):Int)] (by rfl) (by rfl) (qj_ _ _ _) (by intro u S;simp at S;rcases S with rfl|rfl|rfl|rfl|rfl|rfl|rfl|rfl<;>rfl) d_ u_ o_ s_ (c.heap.size+1) i_ ?_;intro o q n R s E am;obtain⟨f0,F⟩:=aa.out o q n R ⟨s.os,s.tape,s.output,s.size,s.block⟩ (by simpa using E);obtain⟨f3,f4,f5,f6⟩:=β f0;have Z:Hid _:=E;clear E))
 all_goals go_wp2_with fail
 all_goals
  obtain⟨y,z⟩:=F.out;go_end0
  refine⟨rfl,.slice (some ⟨g,0,none⟩) (k+1) f,.slice (some ⟨o,0,none⟩) (k+1) q,fr_ f0,ownsRow_setCell_below z s_ _,ownsRow_setCell_below R s_ _,y.set _ _ (.inl (.inl rfl)), ?_, ?_⟩
  . intro x v;simp only[Value.ownBlock,Δ]at v;subst v;exact fa
  . intro x v;simp only[Value.ownBlock,Δ]at v;subst v;rcases Z.out with h|h
    . exact .inl h
    . right;rw[h];omega
def zs (n:Nat):Array Value:=Array.replicate n (.int .i64 0)
theorem aoc_ (w:World):Sem.run prog (zeroValue 202) w= .ok (.agg (zs 1600)) w:=k_
def hf_ (ps:List Nat):List Value:=ps.flatMap fun q=> [.int .i64 ((q/40:Nat):Int),.int .i64 ((q%40:Nat):Int)]
theorem aod_ (ps:List Nat)(q:Nat):hf_ ps++ [.int .i64 ((q/40:Nat):Int),.int .i64 ((q%40:Nat):Int)]=hf_ (ps++ [q]):=by simp[hf_]
theorem aoe_ (ps:List Nat)(k:Nat)(hk:k<ps.length):(hf_ ps)[k*2]? =some (.int .i64 ((ps.getD k 0/40:Nat):Int))/\(hf_ ps)[k*2+1]? =some (.int .i64 ((ps.getD k 0%40:Nat):Int)):=by
 induction ps generalizing k with
 |nil=>simp at hk
 |cons q ps ih=>
  cases k with
  |zero=>simp[hf_]
  |succ k=>
   have:=ih k (by simpa using hk);have a:(k+1)*2=k*2+1+1:=o_;rw[a];simpa [hf_,getD_cons_succ] using this
def ew_ (ps:List Nat)(q:Nat):Nat:=if q∈ps then ps.idxOf q+1 else 0
theorem aao_ (ps:List Nat)(q r:Nat)(hq:q∉ps):ew_ (ps++ [q]) r=if r=q then ps.length+1 else ew_ ps r:=by
 unfold ew_;by_cases e:r=q
 . subst e;simp[idxOf_append,hq]
 . by_cases h:r∈ps
   . simp[h,e,idxOf_append]
   . simp[h,e]
structure lj_ (W:World)(B:Nat)(w:World)(ps:List Nat)(vp va vn:Value)(k k':Nat)(xa xn:List Value):Prop where
 cz:Below (B+1+1) W w
 cg:w.heap[B+1+1]? =some (.cells #[va,vn] 169 (0,0))
 met:w.rowIs (B+1+1+1) 202 1600 (fun q=> .int .i64 (ew_ ps q:Nat))
 cB:w.ownsRow (B+1+1+1+1) 4 1 va k xa
 cA:w.ownsRow (B+1+1+1+1) 174 8 vn k' xn
 cG:w.ownsRow (B+1+1+1+1) 204 2 vp ps.length (hf_ ps)
structure dy_ (W:World)(B H:Nat)(w:World)(ps:List Nat)(vp va vn:Value)(k:Nat)(xa xn:List Value)(i j:Nat)(r:Nat->Nat):Prop where
 mem:lj_ W B w ps vp va vn k k xa xn
 here:w.heap[H]? =some (.cells #[.int .i64 (i:Int),.int .i64 (j:Int)] 204 (0,0))
 rw:w.rowIs (H+1) 174 8 (fun c=> .int .i64 (r c:Nat))
 lo:B+1+1+1+1<=H
 dp:∀g,vp.ownBlock=some g->g≠H/\g≠H+1
 da:∀g,va.ownBlock=some g->g<H
 dn:∀g,vn.ownBlock=some g->g<H
section
variable {W:World} {B H:Nat} {w w2:World} {ps:List Nat} {vp va vn:Value} {k:Nat} {xa xn:List Value} {i j:Nat} {r:Nat->Nat}
theorem lj_.alloc {k':Nat}(h:lj_ W B w ps vp va vn k k' xa xn)(o:Obj):lj_ W B (w.alloc o) ps vp va vn k k' xa xn where
 cz:=h.cz.alloc (by have:=κ h.cg;omega) o
 cg:=φ h.cg
 met:=h.met.alloc o
 cB:=h.cB.alloc o
 cA:=h.cA.alloc o
 cG:=h.cG.alloc o
theorem dy_.alloc (h:dy_ W B H w ps vp va vn k xa xn i j r)(o:Obj):dy_ W B H (w.alloc o) ps vp va vn k xa xn i j r:=
 ⟨h.mem.alloc o,φ h.here,h.rw.alloc o,h.lo,h.dp,h.da,h.dn⟩
theorem dy_.grown (h:dy_ W B H w ps vp va vn k xa xn i j r)(hown:w2.ownsRow (B+1+1+1+1) 204 2 (.slice (some ⟨g,0,none⟩) (ps.length+1) cap) (ps.length+1) (hf_ (ps++ [q])))
 (hg:w.grownBy w2 vp.ownBlock) (hf:vp.ownBlock=some g\/g=w.heap.size):
 Below (B+1+1) W w2/\w2.heap[B+1+1]? =some (.cells #[va,vn] 169 (0,0))/\w2.rowIs (B+1+1+1) 202 1600 (fun q=> .int .i64 (ew_ ps q:Nat))/\
  w2.ownsRow (B+1+1+1+1) 4 1 va k xa/\w2.ownsRow (B+1+1+1+1) 174 8 vn k xn/\
  w2.heap[H]? =some (.cells #[.int .i64 (i:Int),.int .i64 (j:Int)] 204 (0,0))/\w2.rowIs (H+1) 174 8 (fun c=> .int .i64 (r c:Nat))/\(g≠H/\g≠H+1):=by
 have a:=h.mem;have f:=κ a.cg;have b:=fun x e=>a.cG.lt x e
 have d:=κ h.here;have l:=h.rw.lt;refine⟨a.cz.grown hg o_ (fun x e=>by have:=(b x e).1;omega), ?_,hq_ a.met hg (fun e=>by have:=(b _ e).1;omega), ?_, ?_, ?_,hq_ h.rw hg (fun e=>(h.dp _ e).2 rfl), ?_⟩
 . rw[hg.block _ f (fun e=>by have:=(b _ e.symm).1;omega)];exact a.cg
 . refine a.cB.kept hg ?_;cases hv:va.ownBlock with
   |none=>exact .inl rfl
   |some x=>exact .inr (fun e=>gn_ a.cB a.cG d_ x hv e.symm)
 . refine a.cA.kept hg ?_;cases hv:vn.ownBlock with
   |none=>exact .inl rfl
   |some x=>exact .inr (fun e=>gn_ a.cA a.cG d_ x hv e.symm)
 . rw[hg.block _ d (fun e=>(h.dp _ e.symm).1 rfl)];exact h.here
 . rcases hf with hf|rfl
   . exact h.dp g hf
   . omega
theorem dy_.new (h:dy_ W B H w ps vp va vn k xa xn i j r)(hq:q∉ps)(hown:w2.ownsRow (B+1+1+1+1) 204 2 (.slice (some ⟨g,0,none⟩) (ps.length+1) cap) (ps.length+1) (hf_ (ps++ [q])))
 (hg:w.grownBy w2 vp.ownBlock) (hf:vp.ownBlock=some g\/g=w.heap.size):
 dy_ W B H ((w2.setCell ⟨B+1+1+1,q,none⟩ (.int .i64 ((ps.length:Int)+1))).setCell ⟨H+1,c,none⟩ (.int .i64 (ps.length:Int))) (ps++ [q]) (.slice (some ⟨g,0,none⟩) (ps.length+1) cap) va vn k xa xn i j (fun x=>if x=c then ps.length else r x):=by
 obtain⟨m,n,o,d,f,s,t,l⟩:=h.grown hown hg hf;have u:=h.lo;refine⟨⟨(m.setCell (p:=⟨B+1+1+1,q,none⟩) i_ _).setCell (p:=⟨H+1,c,none⟩) s_ _,a3_ (a3_ n i_) s_, ?_, ?_, ?_, ?_⟩,
  a3_ (a3_ s s_) i_, ?_,h.lo, ?_,h.da,h.dn⟩
 . refine((o.set q _).setOther s_ _).congr (fun x _=> ?_);rw[aao_ ps q x hq];by_cases e:x=q
   . simp[e]
   . simp[e]
 . exact bg_ (bg_ d _ _ (fun x b=>by have:=(d.lt x b).1;simp;omega)) _ _ (fun x b=>by have:=h.da x b;simp;omega)
 . exact bg_ (bg_ f _ _ (fun x b=>by have:=(f.lt x b).1;simp;omega)) _ _ (fun x b=>by have:=h.dn x b;simp;omega)
 . simp only[Μ,ls_];exact bg_ (bg_ hown _ _ (fun x b=>by have:=(hown.lt x b).1;simp;omega)) _ _ (fun x b=>by simp only[Value.ownBlock,Δ]at b;subst b;simpa using l.2)
 . refine((t.setOther (a:=⟨B+1+1+1,q,none⟩) s_ _).set c _).congr (fun x _=> ?_);by_cases e:x=c
   . simp[e]
   . simp[e]
 . intro x b;simp only[Value.ownBlock,Δ]at b;subst b;exact l
theorem dy_.old (h:dy_ W B H w ps vp va vn k xa xn i j r){v:Nat}:
 dy_ W B H (w.setCell ⟨H+1,c,none⟩ (.int .i64 (v:Int))) ps vp va vn k xa xn i j (fun x=>if x=c then v else r x):=by
 have a:=h.mem;have b:=h.lo;refine⟨⟨a.cz.setCell (p:=⟨H+1,c,none⟩) s_ _,a3_ a.cg s_,a.met.setOther s_ _, ?_, ?_, ?_⟩,a3_ h.here i_, ?_,h.lo,h.dp,h.da,h.dn⟩
 . exact bg_ a.cB _ _ (fun x hx=>by have:=h.da x hx;simp;omega)
 . exact bg_ a.cA _ _ (fun x hx=>by have:=h.dn x hx;simp;omega)
 . exact bg_ a.cG _ _ (fun x hx=>by have:=(h.dp x hx).2;simpa using this)
 . refine(h.rw.set c _).congr (fun x _=> ?_);by_cases e:x=c
   . simp[e]
   . simp[e]
theorem dy_.drewN (h:dy_ W B H w ps vp va vn k xa xn i j r)(q:Nat):dy_ W B H (w.drewN q) ps vp va vn k xa xn i j r:=
 ⟨⟨below_drewN h.mem.cz q,h.mem.cg,h.mem.met,h.mem.cB,h.mem.cA,h.mem.cG⟩,h.here,h.rw,h.lo,h.dp,h.da,h.dn⟩
theorem dy_.add (h:dy_ W B H w ps vp va vn k xa xn i j r){va' vn':Value}{ya yn:List Value}(hb:w2.heap[B+1+1]? =some (.cells #[va',vn'] 169 (0,0)))
 (h0:w2.ownsRow (B+1+1+1+1) 4 1 va' (k+1) ya) (h1:w2.ownsRow (B+1+1+1+1) 174 8 vn' (k+1) yn)
 (ht:ε (fun b=>b=B+1+1\/va.ownBlock=some b\/vn.ownBlock=some b) w w2):lj_ W B w2 ps vp va' vn' (k+1) (k+1) ya yn:=by
 have a:=h.mem;have d:=κ a.cg;refine⟨ht.below a.cz o_ ?_,hb,ht.row a.met ?_,h0,h1,ht.own a.cG ?_⟩
 . rintro x (rfl|e|e)
   . omega
   . have:=(a.cB.lt _ e).1;omega
   . have:=(a.cA.lt _ e).1;omega
 . rintro(e|e|e)
   . omega
   . have:=(a.cB.lt _ e).1;omega
   . have:=(a.cA.lt _ e).1;omega
 . rintro g c (rfl|e|e)
   . have:=(a.cG.lt _ c).1;omega
   . exact gn_ a.cG a.cB d_ g c e
   . exact gn_ a.cG a.cA d_ g c e
theorem dy_.cY (h:dy_ W B H w ps vp va vn k xa xn i j r){r':Nat->Nat}(e:∀x,x<8->r x=r' x):dy_ W B H w ps vp va vn k xa xn i j r':=
 ⟨h.mem,h.here,h.rw.congr (fun x hx=>by rw[e x hx]),h.lo,h.dp,h.da,h.dn⟩
end
theorem aof_ (a b:Bool)(how:Int)(w:World)(h0:0<=how)(h1:how<=3):
 Calls prog 158 #[.bool a,.bool b,.int .i64 how] w fun e w'=>e= .returned (.bool (fa_ how a b))/\w'=w:=by
 rcases (show how=0\/how=1\/how=2\/how=3 by omega)with rfl|rfl|rfl|rfl<;>cases a<;>cases b
 all_goals
  go_enter func158,ntmps158;go_wp2
  go_ret;exact⟨rfl,rfl⟩
theorem aog_:(prog.info? 204).map (fun i=>(i.zero,i.size,i.bytes))=some (some (.agg #[.int .i64 0,.int .i64 0]),2,16):=k_
def b9_ (X:Nat->Nat->Nat):Nat->List Value
 |0=> []
 |k+1=>b9_ X k++(List.range 8).map fun c=> .int .i64 ((X k c:Nat):Int)
def aa_ (A:Nat->Bool):Nat->List Value
 |0=> []
 |k+1=>aa_ A k++ [.bool (A k)]
theorem aoh_ {M N:γ}{how:Int}(hk:k<=ps.length):aa_ (be_ M N how (ps++ [q])).acc k=aa_ (be_ M N how ps).acc k:=by
 induction k with
 |zero=>rfl
 |succ k ih=>
  simp only[aa_];rw[ih o_];simp only[be_];rw[b8_ _ _ _ o_]
theorem tx_ {X Y:Nat->Nat->Nat}(h:∀i c,i<k->c<8->X i c=Y i c):b9_ X k=b9_ Y k:=by
 induction k with
 |zero=>rfl
 |succ k ih=>
  simp only[b9_];rw[ih (fun i c hi a=>h i c o_ a)];congr 1
  apply map_congr_left;intro c a;rw[h k c o_ (by simpa using a)]
theorem h7_ {good:Nat->Prop}{S:Nat->Nat->Nat}{p:Nat}(h:Κ good S ps p)(i c:Nat)(hc:c<8)(hr:8*i+c<p):pn S (ps++ [q]) i c=pn S ps i c:=by
 have hc:=h.dt _ hr;rw[show(8*i+c)/8=i by omega,show(8*i+c)%8=c by omega]at hc;simp only[pn];rw[b8_ _ _ _ hc.1,idxOf_append,if_pos hc.2]
theorem ty_ (A:Nat->Bool)(k:Nat):(aa_ A k).length=k:=by
 induction k with
 |zero=>rfl
 |succ k ih=>simp[aa_,ih]
theorem tz_ (X:Nat->Nat->Nat)(k:Nat):(b9_ X k).length=k*8:=by
 induction k with
 |zero=>rfl
 |succ k ih=>simp only[b9_,Μ,ih,length_map,length_range];omega
theorem n8_ (A:Nat->Bool)(k i:Nat)(hi:i<k):(aa_ A k)[i]? =some (.bool (A i)):=by
 induction k with
 |zero=>omega
 |succ k ih=>
  simp only[aa_];by_cases e:i=k
  . subst e;rw[getElem?_append_right (by rw[ty_];exact ι),ty_];simp
  . rw[gl_ (by rw[ty_];omega)];exact ih o_
theorem t0_ (X:Nat->Nat->Nat)(k i c:Nat)(hi:i<k)(hc:c<8):(b9_ X k)[i*8+c]? =some (.int .i64 ((X i c:Nat):Int)):=by
 induction k with
 |zero=>omega
 |succ k ih=>
  simp only[b9_];by_cases e:i=k
  . subst e;rw[getElem?_append_right (by rw[tz_];omega),tz_,show i*8+c - i*8=c by omega];simp[hc]
  . rw[gl_ (by rw[tz_];omega)];exact ih o_
theorem aap_ (V U:ρ)(M N:γ)(how:Int)(w:World)(hM:M.Ok)(hN:N.Ok)(hV:π w V M)(hU:π w U N)(hh0:0<=how)(hh1:how<=3):
 Calls prog 124 #[.agg #[.slice (some ⟨V.ba,V.oa,none⟩) M.n V.ca,.slice (some ⟨V.bn,V.on,none⟩) M.n V.cn],.agg #[.slice (some ⟨U.ba,U.oa,none⟩) N.n U.ca,.slice (some ⟨U.bn,U.on,none⟩) N.n U.cn],.int .i64 how] w
  fun e w'=>Bl w w'/\∃ps gw ga ca gn cn,Κ (fw_ M N) (Ν M N) ps (8*ps.length)/\e= .returned (.pointer (some ⟨gw,0,none⟩))/\gj_ w' gw ga ca gn cn (be_ M N how ps):=by
 have hz:=aoc_;have l1:=hM.lo;have l2:=hM.hi;have l3:=hN.lo;have l4:=hN.hi;obtain⟨i0,hi,aE,aF,aG⟩:=info_parts aog_;obtain⟨h,z⟩:=af_ ((((w.alloc (.cells #[.slice (some ⟨V.ba,V.oa,none⟩) M.n V.ca,.slice (some ⟨V.bn,V.on,none⟩) M.n V.cn] 41)).alloc (.cells #[.slice (some ⟨U.ba,U.oa,none⟩) N.n U.ca,.slice (some ⟨U.bn,U.on,none⟩) N.n U.cn] 41)).alloc (.cells #[.slice none 0 0,.slice none 0 0] 169)).alloc (.cells (zs 1600) 202));have ah:Bl w h:=by
  rw[z];exact((ξ.alloc i_ _).alloc s_ _).alloc s_ _
 have am:h.heap.size=w.heap.size+1+1+1+1:=by rw[z];simp
 have b0:h.heap[w.heap.size]? =some (.cells #[.slice (some ⟨V.ba,V.oa,none⟩) M.n V.ca,.slice (some ⟨V.bn,V.on,none⟩) M.n V.cn] 41 (0,0)):=by rw[z];exact φ (φ (φ (ο i_)))
 have b1:h.heap[w.heap.size+1]? =some (.cells #[.slice (some ⟨U.ba,U.oa,none⟩) N.n U.ca,.slice (some ⟨U.bn,U.on,none⟩) N.n U.cn] 41 (0,0)):=by rw[z];exact φ (φ (ο i_))
 have b3:h.heap[w.heap.size+1+1]? =some (.cells #[.slice none 0 0,.slice none 0 0] 169 (0,0)):=by rw[z];exact φ (ο i_)
 have b4:h.heap[w.heap.size+1+1+1]? =some (.cells (zs 1600) 202 (0,0)):=by rw[z];exact ο i_
 have r4:h.rowIs (w.heap.size+1+1+1) 202 1600 (fun _=> .int .i64 0):=⟨_,b4,by simp[zs],fun i hi=>by simp[zs,hi]⟩;have s0:=r4.cell (i:=0) o_;have s1:=r4.frozen 0;have R4:=α r4;clear r4 b4;go_enter func124,ntmps124;go_upto_region 3 with fail;rw[<-z];clear z hz;go_wp2_with fail;clear s0 s1;have P0:lj_ h w.heap.size ((h.setCell ⟨w.heap.size+1+1+1,0,none⟩ (.int .i64 1)).alloc (.cells #[.int .i64 0,.int .i64 0] 204)) [0] (.slice (some ⟨w.heap.size+1+1+1+1,0,none⟩) 1 1) (.slice none 0 0) (.slice none 0 0) 0 0 [] []:=by
  have hs:(h.setCell ⟨w.heap.size+1+1+1,0,none⟩ (.int .i64 1)).heap.size=w.heap.size+1+1+1+1:=by simp[am]
  refine⟨(μ.setCell (p:=⟨w.heap.size+1+1+1,0,none⟩) i_ _).alloc o_ _,φ (a3_ b3 i_), ?_,a8_,a8_, ?_⟩
  . refine((R4.out.set 0 _).alloc _).congr (fun x _=> ?_);by_cases e:x=0
    . subst e;simp[ew_]
    . simp[ew_,e]
  . have:=World.ownsRow_lit (base:=w.heap.size+1+1+1+1) (e:=204) (size:=2) (h.setCell ⟨w.heap.size+1+1+1,0,none⟩ (.int .i64 1)) #[.int .i64 0,.int .i64 0] 1 o_ d_ rfl;rw[hs]at this;exact this
 clear R4 b3;go_loopw [9,10] (fun vp at' wr=>∃k:Nat,∃ps B C,k<=ps.length/\at'= .int .i64 k/\Κ (fw_ M N) (Ν M N) ps (8*k)/\
  lj_ h w.heap.size wr ps vp B C k k (aa_ (be_ M N how ps).acc k) (b9_ (pn (Ν M N) ps) k))
  (fun _ at' _=>1600 - (intOf at').toNat)
 case atStart=>exact⟨0,[0],_,_,i_,rfl,Κ.start ⟨s_,s_⟩,P0⟩
 case round=>
  obtain⟨k,ps,B,C,hk,rfl,l,f⟩:=hrel;clear P0;have ai:=l.bound hN;have aI:M.n*N.n<=1600:=by have:=Nat.mul_le_mul l2 l4;omega
  have s:=f.cz;have t:=η ah s;obtain⟨x0,x1,_,_⟩:=β ((s.block _ o_).trans b0);obtain⟨x2,x3,_,_⟩:=β ((s.block _ o_).trans b1);obtain⟨ap,L,rfl,F⟩:=Β f.cG;by_cases A:k<ps.length
  . obtain⟨gp,rfl,O⟩:=F o_;have af:=aoe_ ps k A;have J:=(O (k*2) o_).trans af.1;have D:=(O (k*2+1) o_).trans af.2;obtain⟨q0,r⟩:=δ (ps.getD k 0);rw[r.out]at J D;have ae:fw_ M N q0:=by rw[<-r.out];exact l.inr _ (fj_ ps k A)
    obtain⟨i,T⟩:=δ (q0/40);obtain⟨j,W⟩:=δ (q0%40);rw[T.out]at J;rw[W.out]at D;have Z:i<M.n:=by rw[<-T.out];exact ae.1
    have ab:j<N.n:=by rw[<-W.out];exact ae.2
    have m:=α f;have o:=α l;clear f l F O af;go_wp2_with fail;clear J D x0 x1 x2 x3 s ai;rename World=>wo
    have HS:w.heap.size+1+1+1+1<=wo.heap.size:=by have:=m.out.met.lt;omega
    have R0:dy_ h w.heap.size wo.heap.size ((wo.alloc (.cells #[.int .i64 (i:Int),.int .i64 (j:Int)] 204)).alloc (.cells #[.int .i64 0,.int .i64 0,.int .i64 0,.int .i64 0,.int .i64 0,.int .i64 0,.int .i64 0,.int .i64 0] 174))
     ps (.slice (some ⟨gp,0,none⟩) ps.length L) B C k (aa_ (be_ M N how ps).acc k) (b9_ (pn (Ν M N) ps) k) i j (fun _=>0):=by
     have I:=m.out;refine⟨(I.alloc _).alloc _,φ (ο rfl), ?_,HS,fun g e=> ?_,fun g e=>(I.cB.lt g e).2,fun g e=>(I.cA.lt g e).2⟩
     . refine⟨_,ο i_,rfl,fun x hx=> ?_⟩;rcases (show x=0\/x=1\/x=2\/x=3\/x=4\/x=5\/x=6\/x=7 by omega)with rfl|rfl|rfl|rfl|rfl|rfl|rfl|rfl<;>rfl
     . have:=(I.cG.lt g e).2;omega
    go_loopw [9,13] (fun vp c' wi=>∃c:Nat,∃ps,c<=8/\c'= .int .i64 c/\k<ps.length/\Hid (ps.getD k 0=q0)/\Κ (fw_ M N) (Ν M N) ps (8*k+c)/\
     dy_ h w.heap.size wo.heap.size wi ps vp B C k (aa_ (be_ M N how ps).acc k) (b9_ (pn (Ν M N) ps) k) i j (fun c'=>if c'<c then pn (Ν M N) ps k c' else 0))
     (fun _ c' _=>8 - (intOf c').toNat)
    case atStart=>exact⟨0,ps,o_,rfl,A,r,o.out,by simpa using R0⟩
    case round=>
     clear R0 m o r A;obtain⟨c,a,hc,rfl,A,r,l,f⟩:=hrel;have ai:=l.bound hN;have s:=f.mem.cz;have t:=η ah s;obtain⟨x0,x1,_,_⟩:=β ((s.block _ o_).trans b0);obtain⟨x2,x3,_,_⟩:=β ((s.block _ o_).trans b1);obtain⟨e0,e1,_,_⟩:=β f.here;obtain⟨ap,L,rfl,F⟩:=Β f.mem.cG;obtain⟨Y,rfl,O⟩:=F o_;by_cases G:c<8
     . have J:=(hV.below t).row i Z;have D:=(hV.below t).cT i c Z G;have y2:=(hU.below t).row j ab;have y3:=(hU.below t).cT j c ab G;have n1:=hM.nx i c Z G;have n2:=hN.nx j c ab G;obtain⟨b,H1⟩:=δ (M.b7 i c);obtain⟨d,H2⟩:=δ (N.b7 j c);rw[H1.out]at D n1;rw[H2.out]at y3 n2;have o1:b<40:=o_;have o2:d<40:=o_;have P:Hid (Ν M N (a.getD ((8*k+c)/8) 0) ((8*k+c)%8)=b*40+d):=by
        unfold Hid Ν;rw[show(8*k+c)/8=k by omega,show(8*k+c)%8=c by omega,r.out,T.out,W.out,H1.out,H2.out]
       have m0:=f.mem.met.cell (i:=b*40+d) o_;have r0:=f.rw.cell G;have r1:=f.rw.frozen c;simp only[Nat.lt_irrefl,if_false]at r0;have m:=α f;have o:=α l;have aH:=f.rw.lt;clear f l F O hV hU s t;by_cases H:b*40+d∈a
       . have S:ew_ a (b*40+d)=a.idxOf (b*40+d)+1:=by simp[ew_,H]
         have ay:=ix_ H;rw[S]at m0;obtain⟨ix,HX⟩:=δ (a.idxOf (b*40+d));rw[HX.out]at m0 ay;have aC:Hid (pn (Ν M N) a k c=ix):=by
          have:=P.out;rw[show(8*k+c)/8=k by omega,show(8*k+c)%8=c by omega]at this;unfold Hid pn;rw[this];exact HX.out
         have K:=α H;clear H S;go_wp2_with fail;go_roundw
         case rel=>
          have hm:Ν M N (a.getD ((8*k+c)/8) 0) ((8*k+c)%8)∈a:=by rw[P.out];exact K.out
          have hn:=(m.out.old (c:=c) (v:=ix)).cY (r':=fun c'=>if c'<c+1 then pn (Ν M N) a k c' else 0) (fun x _=>by
           by_cases e:x=c
           . subst e;simp[aC.out]
           . by_cases R:x<c
             . simp only[e,R,if_false,if_true];rw[if_pos o_]
             . simp only[e,R,if_false];rw[if_neg o_])
          exact⟨c+1,a,o_,by go_num,A,r,o.out.old o_ hm,hn⟩
         case measure=>exact c_
       . have S:ew_ a (b*40+d)=0:=by simp[ew_,H]
         rw[S]at m0;have K:=α H;clear H S;have ac:Hid (dy_ h w.heap.size wo.heap.size (wr.alloc (.cells #[.int .i64 (b:Int),.int .i64 (d:Int)] 204)) a (.slice (some ⟨Y,0,none⟩) a.length L) B C k (aa_ (be_ M N how a).acc k) (b9_ (pn (Ν M N) a) k) i j (fun c'=>if c'<c then pn (Ν M N) a k c' else 0)):=m.out.alloc _;have az:=ac.out.mem.cG;have ar:w.heap.size+1+1+1+1<=(wr.alloc (.cells #[.int .i64 (b:Int),.int .i64 (d:Int)] 204)).heap.size:=s_;have hcells:Hid (hf_ a++ [.int .i64 (b:Int),.int .i64 (d:Int)]=hf_ (a++ [b*40+d])):=by
          have:=aod_ a (b*40+d);rw[show(b*40+d)/40=b by omega,show(b*40+d)%40=d by omega]at this;exact this
         have HG:∀g Q y,y.ownsRow (w.heap.size+1+1+1+1) 204 2 (.slice (some ⟨g,0,none⟩) (a.length+1) Q) (a.length+1) (hf_ a++ [.int .i64 (b:Int),.int .i64 (d:Int)])->
          (wr.alloc (.cells #[.int .i64 (b:Int),.int .i64 (d:Int)] 204)).grownBy y (Value.slice (some ⟨Y,0,none⟩) a.length L).ownBlock->((Value.slice (some ⟨Y,0,none⟩) a.length L).ownBlock=some g\/g=(wr.alloc (.cells #[.int .i64 (b:Int),.int .i64 (d:Int)] 204)).heap.size)->
          y.cell? ⟨w.heap.size+1+1+1,b*40+d,none⟩=some (.int .i64 0)/\y.frozen? ⟨w.heap.size+1+1+1,b*40+d,none⟩=false/\y.cell? ⟨wo.heap.size+1,c,none⟩=some (.int .i64 0)/\y.frozen? ⟨wo.heap.size+1,c,none⟩=false/\
          Hid (dy_ h w.heap.size wo.heap.size ((y.setCell ⟨w.heap.size+1+1+1,b*40+d,none⟩ (.int .i64 ((a.length:Int)+1))).setCell ⟨wo.heap.size+1,c,none⟩ (.int .i64 (a.length:Int))) (a++ [b*40+d]) (.slice (some ⟨g,0,none⟩) (a.length+1) Q) B C k (aa_ (be_ M N how a).acc k) (b9_ (pn (Ν M N) a) k) i j (fun x=>if x=c then a.length else if x<c then pn (Ν M N) a k x else 0)):=by
          intro g Q y ho hg hf;rw[hcells.out]at ho;obtain⟨_,_,g3,_,_,_,g7,_⟩:=ac.out.grown ho hg hf;refine⟨?_,g3.frozen _, ?_,g7.frozen _,ac.out.new K.out ho hg hf⟩
          . rw[g3.cell o_];simp[ew_,K.out]
          . rw[g7.cell G];simp
         go_wp2_with (at_builtin;refine jh_ _ rfl _ _ 205 rfl (w.heap.size+1+1+1+1) 204 i0 (.agg #[.int .i64 0,.int .i64 0]) 2 16 underlying205 hi aE aF aG rfl d_ _ a.length (hf_ a) rfl az ⟨wr.heap.size,0,none⟩ 1 1 [.int .i64 (b:Int),.int .i64 (d:Int)] rfl rfl (cell_two_new _ _ _ _) (by intro u hu;simp at hu;rcases hu with rfl|rfl<;>rfl) d_ u_ o_ ar ?_;intro g Q y aB ax av;obtain⟨f0,f1,f2,f3,HN⟩:=HG g Q y aB ax av);go_roundw
         case rel=>
          have aA:Ν M N (a.getD ((8*k+c)/8) 0) ((8*k+c)%8)∉a:=by rw[P.out];exact K.out
          have aw:fw_ M N (Ν M N (a.getD ((8*k+c)/8) 0) ((8*k+c)%8)):=by
           rw[show(8*k+c)/8=k by omega,show(8*k+c)%8=c by omega,r.out];exact(zp_ hM hN ae G).1
          have aj:=o.out.new o_ aA aw;rw[P.out]at aj;have aD:pn (Ν M N) (a++ [b*40+d]) k c=a.length:=by
           have:=P.out;rw[show(8*k+c)/8=k by omega,show(8*k+c)%8=c by omega]at this;simp only[pn];rw[b8_ _ _ _ A,this,idxOf_append,if_neg K.out];simp
          have hn:=HN.out.cY (r':=fun c'=>if c'<c+1 then pn (Ν M N) (a++ [b*40+d]) k c' else 0) (fun x hx=>by
           by_cases e:x=c
           . subst e;simp[aD]
           . by_cases R:x<c
             . simp only[e,R,if_false,if_true];rw[if_pos o_,h7_ o.out k x hx o_]
             . simp only[e,R,if_false];rw[if_neg o_])
          rw[<-aoh_ (M:=M) (N:=N) (how:=how) (q:=b*40+d) o_,<-tx_ (X:=pn (Ν M N) (a++ [b*40+d])) (fun x c' hx hc'=>h7_ o.out x c' hc' o_)]at hn;exact⟨c+1,a++ [b*40+d],o_,by go_num,s_,by unfold Hid;rw[b8_ _ _ _ A];exact r.out,aj,hn⟩
         case measure=>exact c_
     . have au:c=8:=o_;subst au;have a0:=(hV.below t).acc i Z;have a1:=(hU.below t).acc j ab;have m:=α f;have o:=α l;clear f l F O s t;go_wp2_with fail;go_quiet ((go_at_call 158;exact Calls.quiet_of_same (aof_ _ _ _ _ hh0 hh1)));go_upto_region 20 with fail;obtain⟨W3,ad⟩:=af_ (wr.drewN nq);rw[<-ad];have E:Hid (dy_ h w.heap.size wo.heap.size W3 a (.slice (some ⟨Y,0,none⟩) a.length L) B C k (aa_ (be_ M N how a).acc k) (b9_ (pn (Ν M N) a) k) i j (fun c'=>if c'<8 then pn (Ν M N) a k c' else 0)):=by
        rw[ad];exact m.out.drewN nq
       clear ad m x0 x1 x2 x3 e0 e1 a0 a1;have f2:=E.out.rw;have c0:=f2.cell (i:=0) o_;have c1:=f2.cell (i:=1) o_;have c2:=f2.cell (i:=2) o_;have c3:=f2.cell (i:=3) o_;have c4:=f2.cell (i:=4) o_;have c5:=f2.cell (i:=5) o_;have c6:=f2.cell (i:=6) o_;have c7:=f2.cell (i:=7) o_;simp only[show(0:Nat)<8 from by decide,show(1:Nat)<8 from by decide,show(2:Nat)<8 from by decide,show(3:Nat)<8 from by decide,show(4:Nat)<8 from by decide,show(5:Nat)<8 from by decide,show(6:Nat)<8 from by decide,show(7:Nat)<8 from by decide,if_true]at c0 c1 c2 c3 c4 c5 c6 c7;clear f2;have HA:=tw_ (w.heap.size+1+1) (w.heap.size+1+1+1+1) B C k _ _ (fa_ how (M.acc i) (N.acc j)) (pn (Ν M N) a k) W3 E.out.mem.cg E.out.mem.cB E.out.mem.cA o_ (by have:=E.out.mem.met.lt;omega) o_;unfold do_ at HA;go_wp2_with fail;refine HA.mono ?_;rintro e w6 ⟨rfl,aJ,aK,f0,f1,f2,f3,_,_⟩;have F1:Hid _:=E.out.add f0 f1 f2 f3;clear HA f0 f1 f2 f3 E c0 c1 c2 c3 c4 c5 c6 c7;go_wp2_with fail;go_roundw
       case rel=>
        have f1:=F1.out;have ea:aa_ (be_ M N how a).acc k++ [.bool (fa_ how (M.acc i) (N.acc j))]=aa_ (be_ M N how a).acc (k+1):=by
         simp only[aa_,be_];rw[r.out,T.out,W.out]
        have er:b9_ (pn (Ν M N) a) k++ [(.int .i64 ((pn (Ν M N) a k 0:Nat):Int)),(.int .i64 ((pn (Ν M N) a k 1:Nat):Int)),(.int .i64 ((pn (Ν M N) a k 2:Nat):Int)),(.int .i64 ((pn (Ν M N) a k 3:Nat):Int)),(.int .i64 ((pn (Ν M N) a k 4:Nat):Int)),(.int .i64 ((pn (Ν M N) a k 5:Nat):Int)),(.int .i64 ((pn (Ν M N) a k 6:Nat):Int)),(.int .i64 ((pn (Ν M N) a k 7:Nat):Int))]=b9_ (pn (Ν M N) a) (k+1):=by
         simp only[b9_];rfl
        rw[ea,er]at f1;exact⟨k+1,a,_,_,o_,by go_num,by rw[show 8*(k+1)=8*k+8 by omega];exact o.out,f1⟩
       case measure=>exact c_
  . have he:k=ps.length:=o_;subst he;obtain⟨J,D,_,_⟩:=β f.cg;obtain⟨aa,ca,rfl,ao⟩:=Β f.cB;obtain⟨an,cn,rfl,aq⟩:=Β f.cA;obtain⟨ga,rfl,_⟩:=ao l.len;obtain⟨gn,rfl,_⟩:=aq l.len;have m:Hid _:=f;have o:=α l;have ak:Hid _:=J;have al:Hid _:=D;clear f l F J D;go_wp2_with fail;go_ret;have I:=m.out;refine⟨t,ps,w.heap.size+1+1,ga,ca,gn,cn,o.out,rfl,⟨ak.out,al.out,fun x hx=> ?_,fun x c hx hc=> ?_⟩⟩
    . have ag:x<ps.length:=hx;rw[I.cB.cellAt x o_];exact n8_ _ _ _ ag
    . have ag:x<ps.length:=hx;rw[I.cA.cellAt (x*8+c) o_];exact t0_ _ _ _ _ ag hc
theorem aaq_:(prog.info? 38).map (fun i=>(i.zero,i.size,i.bytes))=some (some (.slice none 0 0),1,24):=k_
theorem d7_.wrap {w0 w1:World}(h:d7_ L budget bound w0 e w1)(h0:Bl w w0)(hs:w.heap.size<=w0.heap.size):
 ∃a0 n0 c0 a1 n1 c1 er,e= .returned (.tuple #[.agg #[.slice a0 n0 c0,.slice a1 n1 c1],.int .i64 er])/\Bl w w1/\Bl w0 w1/\
  ∀b,w.heap.size<=b->b<w0.heap.size->d7_ L budget bound w e ((w1.setCell ⟨b,0,none⟩ (.slice a0 n0 c0)).setCell ⟨b,1,none⟩ (.slice a1 n1 c1)):=by
 obtain⟨d,j⟩:=h;have a:=h0.trans (d.mono hs);rcases j with ⟨R,V,c,l,rfl,i,f,g⟩|⟨rfl,k,c⟩
 . exact⟨_,_,_,_,_,_,_,rfl,a,d,fun b h1 h2=>⟨av_ a h1 _ _,.inl ⟨R,V,c,l,rfl,i.res f h2 _ _,f.mono hs,(g.set _ _ _).set _ _ _⟩⟩⟩
 . exact⟨_,_,_,_,_,_,_,rfl,a,d,fun b h1 h2=>⟨av_ a h1 _ _,.inr ⟨rfl,k,c⟩⟩⟩
theorem t1_ (V U:ρ)(M N:γ)(how budget:Int)(w:World)(hM:M.Ok)(hN:N.Ok)(hV:π w V M)(hU:π w U N)(hh0:0<=how)(hh1:how<=3)(hb0:1<=budget)(hb1:budget<=40):
 Calls prog 81 #[.agg #[.slice (some ⟨V.ba,V.oa,none⟩) M.n V.ca,.slice (some ⟨V.bn,V.on,none⟩) M.n V.cn],.agg #[.slice (some ⟨U.ba,U.oa,none⟩) N.n U.ca,.slice (some ⟨U.bn,U.on,none⟩) N.n U.cn],.int .i64 how,.int .i64 budget] w
  (d7_ (fun x=>fa_ how (M.b6 x) (N.b6 x)) budget.toNat (M.n*N.n) w):=by
 obtain⟨Z,rfl⟩:=Int.eq_ofNat_of_zero_le (show 0<=budget by omega);rw[tn_];obtain⟨W,p,j,d,h,i⟩:=fe_ w #[.slice (some ⟨V.ba,V.oa,none⟩) M.n V.ca,.slice (some ⟨V.bn,V.on,none⟩) M.n V.cn] 41 #[.slice (some ⟨U.ba,U.oa,none⟩) N.n U.ca,.slice (some ⟨U.bn,U.on,none⟩) N.n U.cn] 41 #[.slice none 0 0,.slice none 0 0] 41;have aa:W.heap.size=w.heap.size+1+1+1:=by rw[p];simp
 have o:=hV.below j;have G:=hU.below j;obtain⟨r,s,_,_⟩:=β d;go_enter func81,ntmps81;go_wp2_with fail;rw[<-p];clear p;refine(jf_ V M _ hM o).mono ?_;rintro e w1 ⟨rfl,a⟩;have f:=(a.block _ o_).trans d;have c:=(a.block _ o_).trans h;have g:=(a.block _ o_).trans i;have ac:=a.size;have I:=o.below a;have m:=G.below a;have z:=η j a;clear r s d h i a o G j;obtain⟨t,y,_,_⟩:=β c;go_wp2_with fail;refine(jf_ U N _ hN m).mono ?_;rintro e w2 ⟨rfl,b⟩;have d:=(b.block _ o_).trans f;have h:=(b.block _ o_).trans c;have i:=(b.block _ o_).trans g;have ad:=b.size;have J:=I.below b;have H:=m.below b;have A:=η z b;clear t y f c g b I m z;obtain⟨r,s,_,_⟩:=β d;obtain⟨t,y,_,_⟩:=β h;go_wp2_with fail;refine(aap_ V U M N how _ hM hN J H hh0 hh1).mono ?_;rintro e w3 ⟨k,q,gw,ga,ca,gn,cn,l,rfl,K⟩;have g:=(k.block _ o_).trans i;have ae:=k.size;have X:=η A k;clear r s t y d h i k J H A hV hU;have Q:=s2_ (how:=how) l;have P:=fun x hx=>zq_ hM hN (how:=how) l x hx
 have L:=l.bound hN;have ab:q.length<=1600:=by have:=Nat.mul_le_mul hM.hi hN.hi;omega
 have C:=to_ gw ga ca gn cn (be_ M N how q) (fun x=>fa_ how (M.b6 x) (N.b6 x)) Z w3 K Q (by show q.length<=100000000;omega) P o_ o_;have B:=α L;clear Q P l K L;go_wp2_with fail;refine C.mono ?_;clear C;intro e w5 R;obtain⟨f,S,E,c,T,F,er,rfl,hB,a,O⟩:=(R.eZ (b':=M.n*N.n) B.out).wrap X o_;have D:=(a.block _ o_).trans g;have Y:Hid _:=O (w.heap.size+1+1) o_ o_;obtain⟨q0,q1,p0,p1⟩:=β D;clear R O a g B;go_wp2_with fail;obtain⟨r1,r2,r3⟩:=Φ (u:= .slice f S E) (v:= .slice c T F) D;refine bodyPost_ret (v:= .tuple #[.agg #[.slice f S E,.slice c T F],.int .i64 er]) (by simp[results,results81,go_sem,r1,r2]) rfl ?_;exact Y.out
theorem aoi_ (V U:ρ)(M N:γ)(how budget:Int)(w:World)(hM:M.Ok)(hN:N.Ok)(hV:π w V M)(hU:π w U N)(hh0:0<=how)(hh1:how<=3)(hb0:1<=budget)(hb1:budget<=40):
 Calls prog 40 #[.agg #[.slice (some ⟨V.ba,V.oa,none⟩) M.n V.ca,.slice (some ⟨V.bn,V.on,none⟩) M.n V.cn],.agg #[.slice (some ⟨U.ba,U.oa,none⟩) N.n U.ca,.slice (some ⟨U.bn,U.on,none⟩) N.n U.cn],.int .i64 how,.int .i64 budget] w
  (d7_ (fun x=>fa_ how (M.b6 x) (N.b6 x)) budget.toNat (M.n*N.n) w):=by
 obtain⟨W,b,a,-,-,h⟩:=fe_ w #[.slice (some ⟨V.ba,V.oa,none⟩) M.n V.ca,.slice (some ⟨V.bn,V.on,none⟩) M.n V.cn] 41 #[.slice (some ⟨U.ba,U.oa,none⟩) N.n U.ca,.slice (some ⟨U.bn,U.on,none⟩) N.n U.cn] 41 #[.slice none 0 0,.slice none 0 0] 41;have z:W.heap.size=w.heap.size+1+1+1:=by rw[b];simp
 have c:=t1_ V U M N how budget W hM hN (hV.below a) (hU.below a) hh0 hh1 hb0 hb1;clear hV hU;go_enter func40,ntmps40;go_wp2_with fail;rw[<-b];clear b;refine c.mono ?_;intro e F m;obtain⟨d,o,i,f,p,j,r,rfl,y,k,l⟩:=m.wrap a o_;have g:=(k.block _ o_).trans h;have q:Hid _:=l (w.heap.size+1+1) o_ o_;obtain⟨C,D,A,B⟩:=β g;clear c m l k h;go_wp2_with fail;obtain⟨s,t,E⟩:=Φ (u:= .slice d o i) (v:= .slice f p j) g;refine bodyPost_ret (v:= .tuple #[.agg #[.slice d o i,.slice f p j],.int .i64 r]) (by simp[results,results40,go_sem,s,t]) rfl ?_;exact q.out
theorem d7_.congr {L':List Nat->Bool}{w':World}(h:d7_ L budget bound w e w')(hL:∀x,Γ x->L x=L' x):d7_ L' budget bound w e w':=by
 obtain⟨g,i⟩:=h;refine⟨g, ?_⟩;rcases i with ⟨R,V,a,k,b,f,c,d⟩|⟨b,j,a⟩
 . exact .inl ⟨R,V,⟨a.num,a.apart,fun x hx=>by rw[a.lang x hx,hL x hx]⟩,k,b,f,c,d⟩
 . exact .inr ⟨b,j,fun R' hR'=>a R' ⟨hR'.num,hR'.apart,fun x hx=>by rw[hR'.lang x hx,hL x hx]⟩⟩
theorem aoj_ (V:ρ)(M:γ)(w:World)(hM:M.Ok)(hV:π w V M):
 Calls prog 79 #[.agg #[.slice (some ⟨V.ba,V.oa,none⟩) M.n V.ca,.slice (some ⟨V.bn,V.on,none⟩) M.n V.cn]] w
  (d7_ M.b6 40 (M.n*M.n) w):=by
 obtain⟨W,b,a,-,h⟩:=bl_ w #[.slice (some ⟨V.ba,V.oa,none⟩) M.n V.ca,.slice (some ⟨V.bn,V.on,none⟩) M.n V.cn] 41 #[.slice none 0 0,.slice none 0 0] 41;have A:W.heap.size=w.heap.size+1+1:=by rw[b];simp
 have c:=t1_ V V M M 0 40 W hM hM (hV.below a) (hV.below a) o_ o_ o_ o_;clear hV;go_enter func79,ntmps79;go_wp2_with fail;rw[<-b];clear b;refine c.mono ?_;intro e G m;have o:=m.congr (L':=M.b6) (fun x _=>by simp[fa_]);obtain⟨d,p,i,f,q,j,s,rfl,z,k,l⟩:=o.wrap a o_;have g:=(k.block _ o_).trans h;have r:Hid _:=l (w.heap.size+1) o_ o_;obtain⟨D,E,B,C⟩:=β g;clear c m o l k h;go_wp2_with fail;obtain⟨t,y,F⟩:=Φ (u:= .slice d p i) (v:= .slice f q j) g;refine bodyPost_ret (v:= .tuple #[.agg #[.slice d p i,.slice f q j],.int .i64 s]) (by simp[results,results79,go_sem,t,y]) rfl ?_;exact r.out
theorem aok_ (V:ρ)(M:γ)(w:World)(hM:M.Ok)(hV:π w V M):
 Calls prog 36 #[.agg #[.slice (some ⟨V.ba,V.oa,none⟩) M.n V.ca,.slice (some ⟨V.bn,V.on,none⟩) M.n V.cn]] w
  (d7_ M.b6 40 (M.n*M.n) w):=by
 obtain⟨W,a,b,-,h⟩:=bl_ w #[.slice (some ⟨V.ba,V.oa,none⟩) M.n V.ca,.slice (some ⟨V.bn,V.on,none⟩) M.n V.cn] 41 #[.slice none 0 0,.slice none 0 0] 41;have y:W.heap.size=w.heap.size+1+1:=by rw[a];simp
 have c:=aoj_ V M W hM (hV.below b);clear hV;go_enter func36,ntmps36;go_wp2_with fail;rw[<-a];clear a;refine c.mono ?_;intro e E m;obtain⟨d,o,i,f,p,j,r,rfl,x,k,l⟩:=m.wrap b o_;have g:=(k.block _ o_).trans h;have q:Hid _:=l (w.heap.size+1) o_ o_;obtain⟨B,C,z,A⟩:=β g;clear c m l k h;go_wp2_with fail;obtain⟨s,t,D⟩:=Φ (u:= .slice d o i) (v:= .slice f p j) g;refine bodyPost_ret (v:= .tuple #[.agg #[.slice d o i,.slice f p j],.int .i64 r]) (by simp[results,results36,go_sem,s,t]) rfl ?_;exact q.out
def km_:γ:=⟨1,fun _=>true,fun _ _=>0⟩
theorem aar_:km_.Ok:=⟨d_,d_,fun _ _ _ _=>by show 0<1;decide⟩
theorem aas_ (w:World):
 Calls prog 123 #[] w fun e w'=>∃V:ρ,e= .returned (.agg #[.slice (some ⟨V.ba,V.oa,none⟩) 1 V.ca,.slice (some ⟨V.bn,V.on,none⟩) 1 V.cn])/\π w' V km_/\Bl w w':=by
 have k:=run_make_row' (P:=prog) 24 3 (.int .i64 0) 8 underlying24 e9_ rfl .i64 .i64 8 o_ o_;simp only[show((8:Nat):Int)=8 from rfl]at k;go_enter func123,ntmps123;go_wp2_with fail;obtain⟨W,a⟩:=af_ ((((w.alloc (.cells #[.slice (some ⟨w.heap.size+1,0,none⟩) 1 1,.slice (some ⟨w.heap.size+1+1+1,0,none⟩) 1 1] 41)).alloc (.cells #[.bool true] 4)).alloc (.cells (madeCells #[.int .i64 0] 8) 3)).alloc (.cells #[.slice (some ⟨w.heap.size+1+1,0,none⟩) 8 8] 24));have d:W.heap[w.heap.size]? =some (.cells #[.slice (some ⟨w.heap.size+1,0,none⟩) 1 1,.slice (some ⟨w.heap.size+1+1+1,0,none⟩) 1 1] 41 (0,0)):=by rw[a];exact φ (φ (φ (ο i_)))
 have f:W.heap[w.heap.size+1]? =some (.cells #[.bool true] 4 (0,0)):=by rw[a];exact φ (φ (ο i_))
 have g:W.heap[w.heap.size+1+1]? =some (.cells (madeCells #[.int .i64 0] 8) 3 (0,0)):=by rw[a];exact φ (ο i_)
 have j:W.heap[w.heap.size+1+1+1]? =some (.cells #[.slice (some ⟨w.heap.size+1+1,0,none⟩) 8 8] 24 (0,0)):=by rw[a];exact ο i_
 have b:Bl w W:=by
  rw[a];exact((ξ.alloc i_ _).alloc s_ _).alloc s_ _
 rw[<-a];clear a;obtain⟨l,m,_,_⟩:=β d;refine bodyPost_ret (v:= .agg #[.slice (some ⟨w.heap.size+1,0,none⟩) 1 1,.slice (some ⟨w.heap.size+1+1+1,0,none⟩) 1 1]) (by simp[results,results123,go_sem,l,m]) rfl ?_;refine⟨⟨w.heap.size+1,0,1,w.heap.size+1+1+1,0,1,fun _=>w.heap.size+1+1,fun _=>0,fun _=>8⟩,rfl,⟨fun i hi=> ?_,fun i hi=> ?_,fun i c hi hc=> ?_⟩,b⟩
 . have:i=0:=by have:i<1:=hi;omega
   subst this;exact cell_of_one f
 . have:i=0:=by have:i<1:=hi;omega
   subst this;exact cell_of_one j
 . have h:=(h5_ g).cell hc;simp only[Nat.zero_add];exact h
theorem aol_ (b:Bool):fa_ 2 true b= !b:=by simp[fa_]
theorem aom_ (V:ρ)(M:γ)(w:World)(hM:M.Ok)(hV:π w V M):
 Calls prog 80 #[.agg #[.slice (some ⟨V.ba,V.oa,none⟩) M.n V.ca,.slice (some ⟨V.bn,V.on,none⟩) M.n V.cn]] w
  (d7_ (fun x=> !M.b6 x) 40 (1*M.n) w):=by
 obtain⟨W,f,c,o,p⟩:=bl_ w #[.slice (some ⟨V.ba,V.oa,none⟩) M.n V.ca,.slice (some ⟨V.bn,V.on,none⟩) M.n V.cn] 41 #[.slice none 0 0,.slice none 0 0] 41;have P:W.heap.size=w.heap.size+1+1:=by rw[f];simp
 have z:=hV.below c;go_enter func80,ntmps80;go_wp2_with fail;rw[<-f];clear f hV;refine(aas_ W).mono ?_;rintro e F ⟨U,rfl,y,a⟩;have Q:=a.size;obtain⟨h,g,b,-,-⟩:=ν F #[.slice (some ⟨U.ba,U.oa,none⟩) 1 U.ca,.slice (some ⟨U.bn,U.on,none⟩) 1 U.cn] 41;have R:=b.size;have i:=(a.block _ o_).trans o;have l:=(b.block _ o_).trans ((a.block _ o_).trans p);have G:Bl w h:=(c.trans (a.mono o_)).trans (b.mono o_);have d:=t1_ U V km_ M 2 40 h aar_ hM (y.below b) ((z.below a).below b) o_ o_ o_ o_;clear z y a b o p c;obtain⟨L,N,_,_⟩:=β i;have S:w.heap.size<F.heap.size:=o_;have s:km_.n=1:=rfl;rw[s,g]at d;clear s;go_wp2_with fail;refine d.mono ?_;rw[<-g];clear d g;intro e w3 B;have C:=B.congr (L':=fun x=> !M.b6 x) (fun x _=>aol_ _);obtain⟨j,D,q,k,E,r,I,rfl,O,t,A⟩:=C.wrap G o_;have m:=(t.block _ o_).trans l;have H:Hid _:=A (w.heap.size+1) o_ o_;obtain⟨Y,Z,T,X⟩:=β m;clear B C A t l L N i;go_wp2_with fail;obtain⟨J,K,r3⟩:=Φ (u:= .slice j D q) (v:= .slice k E r) m;refine bodyPost_ret (v:= .tuple #[.agg #[.slice j D q,.slice k E r],.int .i64 I]) (by simp[results,results80,go_sem,J,K]) rfl ?_;exact H.out
theorem aon_ (V:ρ)(M:γ)(w:World)(hM:M.Ok)(hV:π w V M):
 Calls prog 38 #[.agg #[.slice (some ⟨V.ba,V.oa,none⟩) M.n V.ca,.slice (some ⟨V.bn,V.on,none⟩) M.n V.cn]] w
  (d7_ (fun x=> !M.b6 x) 40 (1*M.n) w):=by
 obtain⟨W,a,b,-,h⟩:=bl_ w #[.slice (some ⟨V.ba,V.oa,none⟩) M.n V.ca,.slice (some ⟨V.bn,V.on,none⟩) M.n V.cn] 41 #[.slice none 0 0,.slice none 0 0] 41;have z:W.heap.size=w.heap.size+1+1:=by rw[a];simp
 have c:=aom_ V M W hM (hV.below b);clear hV;go_enter func38,ntmps38;go_wp2_with fail;rw[<-a];clear a;refine c.mono ?_;intro e F m;obtain⟨d,o,i,f,p,j,r,rfl,y,k,l⟩:=m.wrap b o_;have g:=(k.block _ o_).trans h;have q:Hid _:=l (w.heap.size+1) o_ o_;obtain⟨C,D,A,B⟩:=β g;clear c m l k h;go_wp2_with fail;obtain⟨s,t,E⟩:=Φ (u:= .slice d o i) (v:= .slice f p j) g;refine bodyPost_ret (v:= .tuple #[.agg #[.slice d o i,.slice f p j],.int .i64 r]) (by simp[results,results38,go_sem,s,t]) rfl ?_;exact q.out
end Go.Proofs.YtpngikmcjkjdaaaGreatDoor
