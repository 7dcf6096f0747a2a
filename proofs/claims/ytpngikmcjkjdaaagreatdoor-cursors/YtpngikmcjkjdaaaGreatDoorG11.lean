import Derived.Test.YtpngikmcjkjdaaaGreatDoorG0
import Derived.BigQuiet
import Derived.Deep.AppendLies
import Derived.Deep.QuietTactic
import Derived.Deep.RegionLaw
import Derived.Test.YtpngikmcjkjdaaaGreatDoorG8
set_option linter.unusedVariables false
set_option linter.unusedSimpArgs false
set_option maxRecDepth 20000
set_option maxHeartbeats 80000000
namespace Go.Proofs.YtpngikmcjkjdaaaGreatDoor
open Go.RowKit Tryz
theorem xt_ (gw base:Nat)(va vn:Value)(k:Nat)(xa xn:List Value)(a:Bool)(r:Nat->Nat)(w:World)(hb:w.heap[gw]? =some (.cells #[va,vn] 169 (0,0)))
 (h0:w.ownsRow base 4 1 va k xa) (h1:w.ownsRow base 174 8 vn k xn) (hlt:gw<base) (hbase:base<=w.heap.size) (hk:k<=100000000):
 Calls prog 138 #[.pointer (some ⟨gw,0,none⟩),.bool a,.agg (row8 r)] w fun e w'=>e= .returned (.tuple #[])/\
  ∃va' vn',w'.heap[gw]? =some (.cells #[va',vn'] 169 (0,0))/\w'.ownsRow base 4 1 va' (k+1) (xa++ [.bool a])/\w'.ownsRow base 174 8 vn' (k+1) (xn++(row8 r).toList)/\
   ab_ (fun b=>b=gw\/va.ownBlock=some b\/vn.ownBlock=some b) w w'/\(∀g,va'.ownBlock=some g->va.ownBlock=some g\/w.heap.size<=g)/\(∀g,vn'.ownBlock=some g->vn.ownBlock=some g\/w.heap.size<=g):=by
 obtain⟨i4,hi4,hz4,hz41,hz42⟩:=info_parts fa_;obtain⟨i8,hi8,hz8,hz81,hz82⟩:=info_parts aez_;have hgs:=ac_ hb;obtain⟨W,hW,-,-,-⟩:=nw__ w (row8 r) 174;have hWs:w.heap.size+1<=W.heap.size:=by rw[hW];simp
 have bw:W.heap[gw]? =some (.cells #[va,vn] 169 (0,0)):=by rw[hW];exact ah_ hb
 have br:=hn__ hW;have T0:ab_ (fun b=>b=gw\/va.ownBlock=some b\/vn.ownBlock=some b) w W:=by rw[hW];exact(ab_.refl _ _).alloc _
 have o0:W.ownsRow base 4 1 va k xa:=by rw[hW];exact h0.alloc _
 have o1:W.ownsRow base 174 8 vn k xn:=by rw[hW];exact h1.alloc _
 obtain⟨y0,y1,z0,z1⟩:=aa_ bw;have HX:Hid (W=w.alloc (.cells (row8 r) 174)):=hW;unfold row8 at hW;unfold row8;go_enter func138,ntmps138;go_upto_region 1 with fail;rw[<-hW];have l0:=fun g e=>h0.lt g e
 have l1:=fun g e=>h1.lt g e
 clear hW HX hb h0 h1;have hna:=o0.alloc (.cells #[.bool a] 4);have hbo:base<=(W.alloc (.cells #[.bool a] 4)).heap.size:=s_;have HG:∀g cap w2,w2.ownsRow base 4 1 (.slice (some ⟨g,0,none⟩) (k+1) cap) (k+1) (xa++ [.bool a])->(W.alloc (.cells #[.bool a] 4)).grownBy w2 va.ownBlock->(va.ownBlock=some g\/g=(W.alloc (.cells #[.bool a] 4)).heap.size)->
  w2.heap[gw]? =some (.cells #[va,vn] 169 (0,0))/\Hid (ab_ (fun b=>b=gw\/va.ownBlock=some b\/vn.ownBlock=some b) w w2/\w2.ownsRow base 174 8 vn k xn/\w2.heap[w.heap.size]? =some (.cells (row8 r) 174 (0,0))/\W.heap.size<=w2.heap.size):=by
  intro g cap w2 ho hg hf;have hsz:=hg.size;simp at hsz;refine⟨?_,(T0.alloc _).grown hg (fun k e=> .inl (.inr (.inl e))), ?_, ?_,o_⟩
  . rw[hg.block gw s_ (fun e=>by have:=(l0 gw e.symm).1;omega)];exact ah_ bw
  . refine(o1.alloc _).kept hg ?_;cases hv:vn.ownBlock with
    |none=>exact .inl rfl
    |some x=>exact .inr (fun e=>d6_ o1 o0 d_ x hv e.symm)
  . rw[hg.block w.heap.size s_ (fun e=>by have h2:=(l0 _ e.symm).2;omega)];exact ah_ br
 clear bw br T0 o0 o1;have hss:gw<W.heap.size:=o_;go_upto_region 2 with (at_builtin;refine ae_ _ rfl _ _ 38 rfl base 4 i4 (.bool false) 1 1 underlying38 hi4 hz4 hz41 hz42 rfl d_ _ k xa rfl hna ⟨W.heap.size,0,none⟩ 1 1 [.bool a] rfl rfl (cell_one_new _ _ _) (oc__ rfl) d_ u_ o_ hbo ?_;intro g cap w2 hown hgr hfr;obtain⟨f0,F⟩:=HG g cap w2 hown hgr hfr;obtain⟨f3,f4,f5,f6⟩:=aa_ f0);obtain⟨F1,F2,F3,F4⟩:=F.out;obtain⟨W5,hW5⟩:=ew__ (w2.setCell ⟨gw,0,none⟩ (.slice (some ⟨g,0,none⟩) (k+1) cap));have hW5s:w2.heap.size<=W5.heap.size:=by rw[hW5];simp
 have b5:W5.heap[gw]? =some (.cells #[.slice (some ⟨g,0,none⟩) (k+1) cap,vn] 169 (0,0)):=by rw[hW5];exact bg_ f0
 have r5:W5.heap[w.heap.size]? =some (.cells (row8 r) 174 (0,0)):=by rw[hW5];exact aj_ F3 s_
 have T5:ab_ (fun b=>b=gw\/va.ownBlock=some b\/vn.ownBlock=some b) w W5:=by rw[hW5];exact F1.set _ _ (.inl (.inl rfl))
 have o05:W5.ownsRow base 4 1 (.slice (some ⟨g,0,none⟩) (k+1) cap) (k+1) (xa++ [.bool a]):=by rw[hW5];exact ownsRow_setCell_below hown s_ _
 have o15:W5.ownsRow base 174 8 vn k xn:=by rw[hW5];exact ownsRow_setCell_below F2 s_ _
 have fa:va.ownBlock=some g\/w.heap.size<=g:=by
  rcases hfr with h|h
  . exact .inl h
  . right;rw[h];simp;omega
 rw[<-hW5];clear hW5 f0 f3 f4 f5 f6 F F1 F2 F3 HG hgr hown hfr hna hbo y0 y1 z0 z1;obtain⟨y0,y1,z0,z1⟩:=aa_ b5;have c0:=cell_of_row W5 w.heap.size 0 (row8 r) 174 (0,0) r5;have c1:=cell_of_row W5 w.heap.size 1 (row8 r) 174 (0,0) r5;have c2:=cell_of_row W5 w.heap.size 2 (row8 r) 174 (0,0) r5;have c3:=cell_of_row W5 w.heap.size 3 (row8 r) 174 (0,0) r5;have c4:=cell_of_row W5 w.heap.size 4 (row8 r) 174 (0,0) r5;have c5:=cell_of_row W5 w.heap.size 5 (row8 r) 174 (0,0) r5;have c6:=cell_of_row W5 w.heap.size 6 (row8 r) 174 (0,0) r5;have c7:=cell_of_row W5 w.heap.size 7 (row8 r) 174 (0,0) r5;simp[row8]at c0 c1 c2 c3 c4 c5 c6 c7;have hna:=o15.alloc (.cells (row8 r) 174);have hbo:base<=(W5.alloc (.cells (row8 r) 174)).heap.size:=s_;have hss5:gw<W5.heap.size:=o_;have HG:∀g' cap' w6,w6.ownsRow base 174 8 (.slice (some ⟨g',0,none⟩) (k+1) cap') (k+1) (xn++(row8 r).toList)->(W5.alloc (.cells (row8 r) 174)).grownBy w6 vn.ownBlock->(vn.ownBlock=some g'\/g'=(W5.alloc (.cells (row8 r) 174)).heap.size)->
  w6.heap[gw]? =some (.cells #[.slice (some ⟨g,0,none⟩) (k+1) cap,vn] 169 (0,0))/\Hid (ab_ (fun b=>b=gw\/va.ownBlock=some b\/vn.ownBlock=some b) w w6/\w6.ownsRow base 4 1 (.slice (some ⟨g,0,none⟩) (k+1) cap) (k+1) (xa++ [.bool a])):=by
  intro g' cap' w6 ho hg hf;have hsz:=hg.size;simp at hsz;refine⟨?_,(T5.alloc _).grown hg (fun k e=> .inl (.inr (.inr e))), ?_⟩
  . rw[hg.block gw s_ (fun e=>by have:=(l1 gw e.symm).1;omega)];exact ah_ b5
  . refine(o05.alloc _).kept hg ?_;by_cases hv:vn.ownBlock=some g
    . exact absurd (d6_ o15 o05 d_ g hv rfl) id
    . exact .inr (fun e=>hv e.symm)
 clear b5 r5 T5 o05 o15;unfold row8 at hna hbo HG;have HGG:Hid _:=HG;clear HG;go_region_law
  ((refine step_append_lies _ (by rfl) _ _ _ (by rfl) base 174 i8 (.agg #[.int .i64 0,.int .i64 0,.int .i64 0,.int .i64 0,.int .i64 0,.int .i64 0,.int .i64 0,.int .i64 0]) 8 64 underlying167 hi8 hz8 hz81 hz82 rfl d_ vn k xn (by rfl) hna ⟨W5.heap.size,0,none⟩ 1 1 [.int .i64 ((r 0:Nat):Int),.int .i64 ((r 1:Nat):Int),.int .i64 ((r 2:Nat):Int),.int .i64 ((r 3:Nat):Int),.int .i64 ((r 4:Nat):Int),.int .i64 ((r 5:Nat):Int),.int .i64 ((r 6:Nat):Int),.int .i64 ((r 7:Nat):Int)] (by rfl) (by rfl) (jp_ _ _ _) (by intro u hu;simp at hu;rcases hu with rfl|rfl|rfl|rfl|rfl|rfl|rfl|rfl<;>rfl) d_ u_ o_ s_ (W5.heap.size+1) i_ ?_;intro g' cap' w6 hown' hgr' hfr' hlt2;obtain⟨f0,F⟩:=HGG.out g' cap' w6 hown' ⟨hgr'.os,hgr'.tape,hgr'.output,hgr'.size,hgr'.block⟩ (by simpa using hfr');obtain⟨f3,f4,f5,f6⟩:=aa_ f0;have HFR:Hid _:=hfr';clear hfr'))
 all_goals go_wp2_with fail
 all_goals
  obtain⟨F1,F2⟩:=F.out;go_end0
  refine⟨rfl,.slice (some ⟨g,0,none⟩) (k+1) cap,.slice (some ⟨g',0,none⟩) (k+1) cap',c7_ f0,ownsRow_setCell_below F2 s_ _,ownsRow_setCell_below hown' s_ _,F1.set _ _ (.inl (.inl rfl)), ?_, ?_⟩
  . intro x hx;simp only[Value.ownBlock,Option.some.injEq]at hx;subst hx;exact fa
  . intro x hx;simp only[Value.ownBlock,Option.some.injEq]at hx;subst hx;rcases HFR.out with h|h
    . exact .inl h
    . right;rw[h];omega
def zs (n:Nat):Array Value:=Array.replicate n (.int .i64 0)
def metv (ps:List Nat)(q:Nat):Nat:=if q∈ps then ps.idxOf q+1 else 0
theorem aam_ (ps:List Nat)(q r:Nat)(hq:q∉ps):metv (ps++ [q]) r=if r=q then ps.length+1 else metv ps r:=by
 unfold metv;by_cases e:r=q
 . subst e;simp[List.idxOf_append,hq]
 . by_cases h:r∈ps
   . simp[h,e,List.idxOf_append]
   . simp[h,e]
def b4_ (X:Nat->Nat->Nat):Nat->List Value
 |0=> []
 |k+1=>b4_ X k++(List.range 8).map fun c=> .int .i64 ((X k c:Nat):Int)
def a0_ (A:Nat->Bool):Nat->List Value
 |0=> []
 |k+1=>a0_ A k++ [.bool (A k)]
theorem lo_ {X Y:Nat->Nat->Nat}{k:Nat}(h:∀i c,i<k->c<8->X i c=Y i c):b4_ X k=b4_ Y k:=by
 induction k with
 |zero=>rfl
 |succ k ih=>
  simp only[b4_];rw[ih (fun i c hi hc=>h i c o_ hc)];congr 1
  apply List.map_congr_left;intro c hc;rw[h k c o_ (by simpa using hc)]
theorem hn_ {good:Nat->Prop}{S:Nat->Nat->Nat}{ps:List Nat}{p q:Nat}(h:PRel good S ps p)(i c:Nat)(hc:c<8)(hr:8*i+c<p):pn S (ps++ [q]) i c=pn S ps i c:=by
 have hc:=h.clo _ hr;rw[show(8*i+c)/8=i by omega,show(8*i+c)%8=c by omega]at hc;simp only[pn];rw[ce_ _ _ _ hc.1,List.idxOf_append,if_pos hc.2]
theorem kf_ (A:Nat->Bool)(k:Nat):(a0_ A k).length=k:=by
 induction k with
 |zero=>rfl
 |succ k ih=>simp[a0_,ih]
theorem kg_ (X:Nat->Nat->Nat)(k:Nat):(b4_ X k).length=k*8:=by
 induction k with
 |zero=>rfl
 |succ k ih=>simp only[b4_,List.length_append,ih,List.length_map,List.length_range];omega
theorem lp_ (A:Nat->Bool)(k i:Nat)(hi:i<k):(a0_ A k)[i]? =some (.bool (A i)):=by
 induction k with
 |zero=>omega
 |succ k ih=>
  simp only[a0_];by_cases e:i=k
  . subst e;rw[List.getElem?_append_right (by rw[kf_];exact lr__),kf_];simp
  . rw[List.getElem?_append_left (by rw[kf_];omega)];exact ih o_
theorem ps_ (X:Nat->Nat->Nat)(k i c:Nat)(hi:i<k)(hc:c<8):(b4_ X k)[i*8+c]? =some (.int .i64 ((X i c:Nat):Int)):=by
 induction k with
 |zero=>omega
 |succ k ih=>
  simp only[b4_];by_cases e:i=k
  . subst e;rw[List.getElem?_append_right (by rw[kg_];omega),kg_,show i*8+c - i*8=c by omega];simp[hc]
  . rw[List.getElem?_append_left (by rw[kg_];omega)];exact ih o_
theorem adm_:(prog.info? 38).map (fun i=>(i.zero,i.size,i.bytes))=some (some (.slice none 0 0),1,24):=k_
theorem di_.wrap {L:List Nat->Bool}{budget bound:Nat}{w w0 w1:World}{e:Ending}(h:di_ L budget bound w0 e w1)(h0:Below w.heap.size w w0)(hs:w.heap.size<=w0.heap.size):
 ∃a0 n0 c0 a1 n1 c1 er,e= .returned (.tuple #[.agg #[.slice a0 n0 c0,.slice a1 n1 c1],.int .i64 er])/\Below w.heap.size w w1/\Below w0.heap.size w0 w1/\
  ∀b,w.heap.size<=b->b<w0.heap.size->di_ L budget bound w e ((w1.setCell ⟨b,0,none⟩ (.slice a0 n0 c0)).setCell ⟨b,1,none⟩ (.slice a1 n1 c1)):=by
 obtain⟨hb,hc⟩:=h;have hB:=h0.trans (hb.mono hs);rcases hc with ⟨R,V,hR,hn,rfl,hT,hF,hFr⟩|⟨rfl,hlt,hR⟩
 . exact⟨_,_,_,_,_,_,_,rfl,hB,hb,fun b h1 h2=>⟨az_ hB h1 _ _,.inl ⟨R,V,hR,hn,rfl,hT.res hF h2 _ _,hF.mono hs,(hFr.set _ _ _).set _ _ _⟩⟩⟩
 . exact⟨_,_,_,_,_,_,_,rfl,hB,hb,fun b h1 h2=>⟨az_ hB h1 _ _,.inr ⟨rfl,hlt,hR⟩⟩⟩
theorem di_.congr {L L':List Nat->Bool}{budget bound:Nat}{w w':World}{e:Ending}(h:di_ L budget bound w e w')(hL:∀x,ax_ x->L x=L' x):di_ L' budget bound w e w':=by
 obtain⟨hb,hc⟩:=h;refine⟨hb, ?_⟩;rcases hc with ⟨R,V,hR,hn,he,hT,hF,hFr⟩|⟨he,hlt,hR⟩
 . exact .inl ⟨R,V,⟨hR.num,hR.apart,fun x hx=>by rw[hR.lang x hx,hL x hx]⟩,hn,he,hT,hF,hFr⟩
 . exact .inr ⟨he,hlt,fun R' hR'=>hR R' ⟨hR'.num,hR'.apart,fun x hx=>by rw[hR'.lang x hx,hL x hx]⟩⟩
structure RLay where
 (aa an:Option Addr)
 (na ca nn cn:Nat)
 (ra:Nat->Option Addr)
 (rl rc:Nat->Nat)
def RLay.val (r:RLay):Value:= .agg #[.slice r.aa r.na r.ca,.slice r.an r.nn r.cn]
structure cz_ (w:World)(r:RLay)(A:Nat->Bool)(X:Nat->Nat->Int):Prop where
 la:r.na<=9223372036854775807
 ln:r.nn<=9223372036854775807
 lr:∀i,i<r.nn->r.rl i<=9223372036854775807
 acc:∀i,i<r.na->∃b o,r.aa=some ⟨b,o,none⟩/\w.cell? ⟨b,o+i,none⟩=some (.bool (A i))
 row:∀i,i<r.nn->∃b o,r.an=some ⟨b,o,none⟩/\w.cell? ⟨b,o+i,none⟩=some (.slice (r.ra i) (r.rl i) (r.rc i))
 cel:∀i c,i<r.nn->c<r.rl i->∃b o,r.ra i=some ⟨b,o,none⟩/\w.cell? ⟨b,o+c,none⟩=some (.int .i64 (X i c))
theorem cz_.below {w w':World}{r:RLay}{A:Nat->Bool}{X:Nat->Nat->Int}(h:cz_ w r A X)(hb:Below w.heap.size w w'):cz_ w' r A X:=
 ⟨h.la,h.ln,h.lr,fun i hi=>by obtain⟨b,o,e,hc⟩:=h.acc i hi;exact⟨b,o,e,by rw[(cu_ hb).1 _ _ (an_ hc)];exact hc⟩,
  fun i hi=>by obtain⟨b,o,e,hc⟩:=h.row i hi;exact⟨b,o,e,by rw[(cu_ hb).1 _ _ (an_ hc)];exact hc⟩,
  fun i c hi hc=>by obtain⟨b,o,e,hcc⟩:=h.cel i c hi hc;exact⟨b,o,e,by rw[(cu_ hb).1 _ _ (an_ hcc)];exact hcc⟩⟩
def cf_ (r:RLay)(X:Nat->Nat->Int):Nat->Bool
 |0=>true
 |k+1=>cf_ r X k&&(decide (r.rl k=8)&&c8_ (X k) r.nn 8)
theorem kh_ (r:RLay)(X:Nat->Nat->Int)(k:Nat):cf_ r X k=true↔∀i,i<k->r.rl i=8/\∀c,c<8->0<=X i c/\X i c<r.nn:=by
 induction k with
 |zero=>simp[cf_]
 |succ k ih=>
  simp only[cf_,Bool.and_eq_true,ih,decide_eq_true_eq,l4_];constructor
  . rintro⟨h,h1⟩ c hc;by_cases e:c=k
    . subst e;exact h1
    . exact h c o_
  . intro h;exact⟨fun c hc=>h c o_,h k o_⟩
theorem gh_ (r:RLay)(X:Nat->Nat->Int)(k m:Nat)(hk:k<=m)(h:cf_ r X k=false):cf_ r X m=false:=by
 rw[Bool.eq_false_iff]at h ⊢;intro hm;apply h;rw[kh_]at hm ⊢;exact fun c hc=>hm c o_
def c0_ (r:RLay)(X:Nat->Nat->Int):Bool:=(decide (1<=r.nn)&&decide (r.nn<=40))&&(decide (r.na=r.nn)&&cf_ r X r.nn)
def db_ (r:RLay)(A:Nat->Bool)(X:Nat->Nat->Int):Tab:=⟨r.nn,A,fun i c=>(X i c).toNat⟩
theorem pt_ {r:RLay}{A:Nat->Bool}{X:Nat->Nat->Int}(h:c0_ r X=true):(db_ r A X).Ok:=by
 simp only[c0_,Bool.and_eq_true,decide_eq_true_eq,kh_]at h;refine⟨h.1.1,h.1.2,fun i c hi hc=> ?_⟩;have:=(h.2.2 i hi).2 c hc;simp only[db_];omega
theorem i6_ {w:World}{r:RLay}{A:Nat->Bool}{X:Nat->Nat->Int}(hr:cz_ w r A X)(h:c0_ r X=true):
 ∃V:Lay,r.val= .agg #[.slice (some ⟨V.ba,V.oa,none⟩) (db_ r A X).n V.ca,.slice (some ⟨V.bn,V.on,none⟩) (db_ r A X).n V.cn]/\av_ w V (db_ r A X):=by
 have ok:=h;simp only[c0_,Bool.and_eq_true,decide_eq_true_eq,kh_]at h;obtain⟨⟨h1,h2⟩,h3,h4⟩:=h;obtain⟨ba,oa,ea,_⟩:=hr.acc 0 o_;obtain⟨bn,on,en,_⟩:=hr.row 0 o_;have hrow:∀i,∃p:Nat×Nat,i<r.nn->r.ra i=some ⟨p.1,p.2,none⟩:=fun i=>by
  by_cases hi:i<r.nn
  . obtain⟨b,o,e,_⟩:=hr.cel i 0 hi (by rw[(h4 i hi).1];omega);exact⟨(b,o),fun _=>e⟩
  . exact⟨(0,0),fun h=>absurd h hi⟩
 refine⟨⟨ba,oa,r.ca,bn,on,r.cn,fun i=>(Classical.choose (hrow i)).1,fun i=>(Classical.choose (hrow i)).2,r.rc⟩, ?_,⟨fun i hi=> ?_,fun i hi=> ?_,fun i c hi hc=> ?_⟩⟩
 . simp only[RLay.val,db_,ea,en,h3]
 . obtain⟨b,o,e,hc⟩:=hr.acc i (by rw[h3];exact hi);rw[ea]at e;cases e;exact hc
 . obtain⟨b,o,e,hc⟩:=hr.row i hi;rw[en]at e;cases e;rw[Classical.choose_spec (hrow i) hi,(h4 i hi).1]at hc;exact hc
 . obtain⟨b,o,e,hcc⟩:=hr.cel i c hi (by rw[(h4 i hi).1];exact hc);have hs:=Classical.choose_spec (hrow i) hi;rw[hs]at e;cases e;have:=(h4 i hi).2 c hc;rw[hcc];simp only[db_];rw[show(((X i c).toNat:Nat):Int)=X i c by omega]
theorem xu_ (r:RLay)(A:Nat->Bool)(X:Nat->Nat->Int)(w:World)(h:cz_ w r A X):
 Calls prog 120 #[.agg #[.slice r.aa r.na r.ca,.slice r.an r.nn r.cn]] w fun e w'=>e= .returned (.bool (c0_ r X))/\Below w.heap.size w w':=by
 have hla:=h.la;have hln:=h.ln;have B1:Below w.heap.size w (w.alloc (.cells #[.slice r.aa r.na r.ca,.slice r.an r.nn r.cn] 41)):=br__.alloc lr__ _;by_cases hlo:1<=r.nn
 . by_cases hhi:r.nn<=40
   . by_cases hna:r.na=r.nn
     . have e:c0_ r X=cf_ r X r.nn:=by simp[c0_,hlo,hhi,hna]
       rw[e];have h1:=h.below B1;have hb:((r.na:Int) !=(r.nn:Int))=false:=by simp[hna]
       have hb2:((r.na:Int)==(r.nn:Int))=true:=by simp[hna]
       have HNA:Hid (r.na=r.nn):=hna;clear e h hna;go_enter func120,ntmps120;go_wp2_with fail;go_loop [5,25] (fun _ i=>∃k:Nat,k<=r.nn/\i= .int .i64 k/\cf_ r X k=true) (fun _ i=>r.nn - (intOf i).toNat)
       case atStart=>exact⟨0,o_,rfl,rfl⟩
       case round=>
        obtain⟨k,hk,rfl,hro⟩:=hrel;by_cases hlt:k<r.nn
        . obtain⟨b,o,ean,hc⟩:=h1.row k hlt;have hrl:=h1.lr k hlt;have hce:=fun c=>h1.cel k c hlt
          have hs:cf_ r X (k+1)=(decide (r.rl k=8)&&c8_ (X k) r.nn 8):=by simp[cf_,hro]
          clear h1;by_cases h8:r.rl k=8
          . obtain⟨b2,o2,era,_⟩:=hce 0 o_;have hcc:∀c,c<8->(w.alloc (.cells #[.slice r.aa r.na r.ca,.slice r.an r.nn r.cn] 41)).cell? ⟨b2,o2+c,none⟩=some (.int .i64 (X k c)):=fun c hc8=>by
             obtain⟨b3,o3,e3,hc3⟩:=hce c o_;rw[era]at e3;cases e3;exact hc3
            have HC:=oh_ b2 o2 (r.rc k) (X k) r.nn _ hcc;rw[h8,era]at hc;have hs2:cf_ r X (k+1)=c8_ (X k) r.nn 8:=by rw[hs];simp[h8]
            generalize r.an=an at*;subst ean;cases hv:c8_ (X k) r.nn 8
            . rw[hv]at HC;have HF:Hid (cf_ r X r.nn=false):=gh_ r X (k+1) _ o_ (by rw[hs2,hv]);clear hs hs2 hro hce hcc hv;go_wp2_with (go_at_call 157;refine HC.mono ?_;rintro e w' ⟨rfl,rfl⟩);go_ret;exact⟨bh_ HF.out.symm,B1⟩
            . rw[hv]at HC;have HF:Hid (cf_ r X (k+1)=true):=by unfold Hid;rw[hs2,hv]
              clear hs hs2 hro hce hcc hv;go_wp2_with (go_at_call 157;refine HC.mono ?_;rintro e w' ⟨rfl,rfl⟩);go_round
              case rel=>exact⟨k+1,o_,by go_num,HF.out⟩
              case measure=>simp[intOf];omega
          . have HF:Hid (cf_ r X r.nn=false):=gh_ r X (k+1) _ o_ (by rw[hs];simp[h8]);generalize r.an=an at*;subst ean;clear hs hro hce;go_wp2_with (go_at_call 157;refine(t7_ _ _ _ _ _ h8 hrl).mono ?_;rintro e w' ⟨rfl,rfl⟩);go_ret;exact⟨bh_ HF.out.symm,B1⟩
        . have e:k=r.nn:=o_;subst e;have HF:Hid (cf_ r X r.nn=true):=hro;clear hro h1;go_wp2_with fail;go_ret;exact⟨bh_ HF.out.symm,B1⟩
     . have e:c0_ r X=false:=by simp[c0_,hna]
       rw[e];have hb:((r.na:Int)==(r.nn:Int))=false:=s_;have hb2:((r.na:Int) !=(r.nn:Int))=true:=s_;clear e h;go_enter func120,ntmps120;go_wp2_with fail;go_ret;exact⟨rfl,B1⟩
   . have e:c0_ r X=false:=by simp[c0_,hhi]
     rw[e];clear e h;go_enter func120,ntmps120;go_wp2_with fail;go_ret;exact⟨rfl,B1⟩
 . have e:c0_ r X=false:=by simp[c0_,hlo]
   rw[e];have hz:r.nn<1:=o_;clear e h;go_enter func120,ntmps120;go_wp2_with fail;go_ret;exact⟨rfl,B1⟩
theorem u6_ {w:World}{aa an:Option Addr}{na ca nn cn:Nat}{ra:Nat->Option Addr}{rl rc:Nat->Nat}{A:Nat->Bool}{X:Nat->Nat->Int}(h:cz_ w ⟨aa,an,na,ca,nn,cn,ra,rl,rc⟩ A X)(i:Nat)(hi:i<na):
 ∃b o,aa=some ⟨b,o,none⟩/\w.cell? ⟨b,o+i,none⟩=some (.bool (A i)):=h.acc i hi
theorem u7_ {w:World}{aa an:Option Addr}{na ca nn cn:Nat}{ra:Nat->Option Addr}{rl rc:Nat->Nat}{A:Nat->Bool}{X:Nat->Nat->Int}(h:cz_ w ⟨aa,an,na,ca,nn,cn,ra,rl,rc⟩ A X)(i:Nat)(hi:i<nn):
 ∃b o,an=some ⟨b,o,none⟩/\w.cell? ⟨b,o+i,none⟩=some (.slice (ra i) (rl i) (rc i)):=h.row i hi
theorem u8_ {w:World}{aa an:Option Addr}{na ca nn cn:Nat}{ra:Nat->Option Addr}{rl rc:Nat->Nat}{A:Nat->Bool}{X:Nat->Nat->Int}(h:cz_ w ⟨aa,an,na,ca,nn,cn,ra,rl,rc⟩ A X)(i c:Nat)(hi:i<nn)(hc:c<rl i):
 ∃b o,ra i=some ⟨b,o,none⟩/\w.cell? ⟨b,o+c,none⟩=some (.int .i64 (X i c)):=h.cel i c hi hc
theorem rl_ (aa an bb bn:Option Addr)(na ca cb nn cn dn:Nat)(ra rb:Nat->Option Addr)(rl rc rd:Nat->Nat)(A:Nat->Bool)(X:Nat->Nat->Int)(w:World)
 (h1:cz_ w ⟨aa,an,na,ca,nn,cn,ra,rl,rc⟩ A X) (h2:cz_ w ⟨bb,bn,na,cb,nn,dn,rb,rl,rd⟩ A X):
 Calls prog 58 #[.agg #[.slice aa na ca,.slice an nn cn],.agg #[.slice bb na cb,.slice bn nn dn]] w fun e w'=>e= .returned (.bool true)/\Below w.heap.size w w':=by
 have hla:na<=9223372036854775807:=h1.la;have hln:nn<=9223372036854775807:=h1.ln;obtain⟨W,hW,BW,b0,b1⟩:=n2__ w #[.slice aa na ca,.slice an nn cn] 41 #[.slice bb na cb,.slice bn nn dn] 41;have k1:=h1.below BW;have k2:=h2.below BW;have HLR:Hid (∀i,i<nn->rl i<=9223372036854775807):=h1.lr;clear h1 h2;obtain⟨x0,x1,_,_⟩:=aa_ b0;obtain⟨x2,x3,_,_⟩:=aa_ b1;have en:((na:Int) !=(na:Int))=false:=i_;have em:((nn:Int) !=(nn:Int))=false:=i_;go_enter func58,ntmps58;go_upto_region 1 with fail;rw[<-hW];clear hW;go_wp2_with fail;clear en em;go_loopw [5] (fun i' wr=>∃i q:Nat,i<=na/\i'= .int .i64 i/\wr=W.drewN q) (fun i' _=>na - (intOf i').toNat)
 case atStart=>exact⟨0,0,o_,rfl,rfl⟩
 case round=>
  obtain⟨i,q,hi,rfl,rfl⟩:=hrel;by_cases hlt:i<na
  . obtain⟨ba,oa,rfl,c0⟩:=u6_ k1 i hlt;obtain⟨bc,oc,rfl,c1⟩:=u6_ k2 i hlt;have ee:(A i !=A i)=false:=i_;clear k1 k2;go_wp2_with fail;go_quiet (fail);go_wp2_with fail;go_roundw
    case rel=>exact⟨i+1,_,o_,by go_num,rfl⟩
    case measure=>simp[intOf];omega
  . have he:i=na:=o_;subst he;go_wp2_with fail;go_loopw [6] (fun j' wr=>∃j q:Nat,j<=nn/\j'= .int .i64 j/\wr=W.drewN q) (fun j' _=>nn - (intOf j').toNat)
    case atStart=>exact⟨0,_,o_,rfl,rfl⟩
    case round=>
     obtain⟨j,q2,hj,rfl,rfl⟩:=hrel;by_cases hltj:j<nn
     . obtain⟨ba,oa,rfl,c0⟩:=u7_ k1 j hltj;obtain⟨bc,oc,rfl,c1⟩:=u7_ k2 j hltj;have hlr:=HLR.out j hltj;have K1:Hid _:=fun c=>u8_ k1 j c hltj
       have K2:Hid _:=fun c=>u8_ k2 j c hltj
       obtain⟨l,HL⟩:=hx__ (rl j);rw[HL.out]at c0 c1 hlr;have em:((l:Int) !=(l:Int))=false:=i_;clear k1 k2;go_wp2_with fail;go_quiet (fail);go_wp2_with fail;go_loopw [7] (fun c' wr=>∃c q:Nat,c<=l/\c'= .int .i64 c/\wr=W.drewN q) (fun c' _=>l - (intOf c').toNat)
       case atStart=>exact⟨0,_,o_,rfl,World.drewN_drewN _ _ _⟩
       case round=>
        obtain⟨c,q3,hc,rfl,rfl⟩:=hrel;by_cases hltc:c<l
        . obtain⟨p,o,e1,d0⟩:=K1.out c (by rw[HL.out];exact hltc);obtain⟨p',o',e2,d1⟩:=K2.out c (by rw[HL.out];exact hltc);rw[e1]at c0;rw[e2]at c1;have ee:(X j c !=X j c)=false:=i_;clear K1 K2;go_wp2_with fail;go_quiet (fail);go_wp2_with fail;go_roundw
          case rel=>exact⟨c+1,_,o_,by go_num,rfl⟩
          case measure=>simp[intOf];omega
        . have he:c=l:=o_;subst he;go_wp2_with fail;go_roundw
          case rel=>exact⟨j+1,_,o_,by go_num,rfl⟩
          case measure=>simp[intOf];omega
     . have he:j=nn:=o_;subst he;go_wp2_with fail;go_ret;exact⟨rfl,below_drewN BW _⟩
theorem tz_ (r:RLay)(A:Nat->Bool)(X:Nat->Nat->Int)(w:World)(h:cz_ w r A X):
 Calls prog 75 #[.agg #[.slice r.aa r.na r.ca,.slice r.an r.nn r.cn]] w fun e w'=>e= .returned (.bool (c0_ r X))/\Below w.heap.size w w':=by
 have hla:=h.la;have hln:=h.ln;obtain⟨W,hW,B1,-,b0⟩:=nw__ w #[.slice r.aa r.na r.ca,.slice r.an r.nn r.cn] 41;obtain⟨x0,x1,_,_⟩:=aa_ b0;by_cases hlo:1<=r.nn
 . by_cases hhi:r.nn<=40
   . by_cases hna:r.na=r.nn
     . have e:c0_ r X=cf_ r X r.nn:=by simp[c0_,hlo,hhi,hna]
       rw[e];have h1:=h.below B1;have hb:((r.na:Int) !=(r.nn:Int))=false:=by simp[hna]
       have hb2:((r.na:Int)==(r.nn:Int))=true:=by simp[hna]
       clear e h hna b0;go_enter func75,ntmps75;go_wp2_with fail;rw[<-hW];clear hW;go_loop [4] (fun i=>∃k:Nat,k<=r.nn/\i= .int .i64 k/\cf_ r X k=true) (fun i=>r.nn - (intOf i).toNat)
       case atStart=>exact⟨0,o_,rfl,rfl⟩
       case round=>
        obtain⟨k,hk,rfl,hro⟩:=hrel;by_cases hlt:k<r.nn
        . obtain⟨b,o,ean,hc⟩:=h1.row k hlt;have hrl:=h1.lr k hlt;have hce:=fun c=>h1.cel k c hlt
          have hs:cf_ r X (k+1)=(decide (r.rl k=8)&&c8_ (X k) r.nn 8):=by simp[cf_,hro]
          clear h1;by_cases h8:r.rl k=8
          . obtain⟨b2,o2,era,_⟩:=hce 0 o_;have hcc:∀c,c<8->W.cell? ⟨b2,o2+c,none⟩=some (.int .i64 (X k c)):=fun c hc8=>by
             obtain⟨b3,o3,e3,hc3⟩:=hce c o_;rw[era]at e3;cases e3;exact hc3
            rw[h8,era]at hc;have HS2:Hid (cf_ r X (k+1)=c8_ (X k) r.nn 8):=by unfold Hid;rw[hs];simp[h8]
            have HCC:=hi__ hcc;generalize r.an=an at*;subst ean;clear hs hro hce hcc;go_wp2_with fail;go_loop [5] (fun c'=>∃c:Nat,c<=8/\c'= .int .i64 c/\c8_ (X k) r.nn c=true) (fun c'=>8 - (intOf c').toNat)
            case atStart=>exact⟨0,o_,rfl,rfl⟩
            case round=>
             obtain⟨c,hc8,rfl,hrc⟩:=hrel;by_cases hl8:c<8
             . have z1:=HCC.out c hl8;have hsc:c8_ (X k) r.nn (c+1)=(decide (0<=X k c)&&decide (X k c<r.nn)):=by simp[c8_,hrc]
               by_cases h0:X k c<0
               . have HF:Hid (cf_ r X r.nn=false):=gh_ r X (k+1) _ o_ (by rw[HS2.out];exact h8_ _ _ (c+1) 8 o_ (by rw[hsc];simp;omega));clear hsc hrc;generalize X k c=xv at*;go_wp2_with fail;go_ret;exact⟨bh_ HF.out.symm,B1⟩
               . by_cases hn:X k c<r.nn
                 . have HF:Hid (c8_ (X k) r.nn (c+1)=true):=by unfold Hid;rw[hsc];simp;omega
                   clear hsc hrc;generalize X k c=xv at*;go_wp2_with fail;go_round
                   case rel=>exact⟨c+1,o_,by go_num,HF.out⟩
                   case measure=>simp[intOf];omega
                 . have HF:Hid (cf_ r X r.nn=false):=gh_ r X (k+1) _ o_ (by rw[HS2.out];exact h8_ _ _ (c+1) 8 o_ (by rw[hsc];simp;omega));clear hsc hrc;generalize X k c=xv at*;go_wp2_with fail;go_ret;exact⟨bh_ HF.out.symm,B1⟩
             . have he:c=8:=o_;subst he;have HF:Hid (cf_ r X (k+1)=true):=by unfold Hid;rw[HS2.out];exact hrc
               clear hrc;go_wp2_with fail;go_round
               case rel=>exact⟨k+1,o_,by go_num,HF.out⟩
               case measure=>simp[intOf];omega
          . have HF:Hid (cf_ r X r.nn=false):=gh_ r X (k+1) _ o_ (by rw[hs];simp[h8]);generalize r.an=an at*;subst ean;have hb8:((r.rl k:Int) !=8)=true:=s_;clear hs hro hce;go_wp2_with fail;go_ret;exact⟨bh_ HF.out.symm,B1⟩
        . have e:k=r.nn:=o_;subst e;have HF:Hid (cf_ r X r.nn=true):=hro;clear hro h1;go_wp2_with fail;go_ret;exact⟨bh_ HF.out.symm,B1⟩
     . have e:c0_ r X=false:=by simp[c0_,hna]
       rw[e];have hb:((r.na:Int)==(r.nn:Int))=false:=s_;have hb2:((r.na:Int) !=(r.nn:Int))=true:=s_;clear e h b0;go_enter func75,ntmps75;go_wp2_with fail;rw[<-hW];go_ret;exact⟨rfl,B1⟩
   . have e:c0_ r X=false:=by simp[c0_,hhi]
     rw[e];clear e h b0;go_enter func75,ntmps75;go_wp2_with fail;rw[<-hW];go_ret;exact⟨rfl,B1⟩
 . have e:c0_ r X=false:=by simp[c0_,hlo]
   rw[e];have hz:r.nn<1:=o_;clear e h b0;go_enter func75,ntmps75;go_wp2_with fail;rw[<-hW];go_ret;exact⟨rfl,B1⟩
theorem n3_ (V:Lay)(M:Tab)(w:World)(hM:M.Ok)(h:av_ w V M):
 Calls prog 75 #[.agg #[.slice (some ⟨V.ba,V.oa,none⟩) M.n V.ca,.slice (some ⟨V.bn,V.on,none⟩) M.n V.cn]] w
  fun e w'=>e= .returned (.bool true)/\Below w.heap.size w w':=by
 have l1:=hM.lo;have l2:=hM.hi;obtain⟨W,hW,BW,-,b0⟩:=nw__ w #[.slice (some ⟨V.ba,V.oa,none⟩) M.n V.ca,.slice (some ⟨V.bn,V.on,none⟩) M.n V.cn] 41;obtain⟨x0,x1,_,_⟩:=aa_ b0;have h1:=h.below BW;have hbm:((M.n:Int) !=(M.n:Int))=false:=i_;go_enter func75,ntmps75;go_wp2_with fail;rw[<-hW];clear hW h b0;go_loop [4] (fun i'=>∃i:Nat,i<=M.n/\i'= .int .i64 i) (fun i'=>M.n - (intOf i').toNat)
 case atStart=>exact⟨0,o_,rfl⟩
 case round=>
  obtain⟨i,hi,rfl⟩:=hrel;by_cases hlt:i<M.n
  . have y0:=h1.row i hlt;have HZ:Hid (∀c,c<8->W.cell? ⟨V.rb i,V.ro i+c,none⟩=some (.int .i64 (M.nxt i c))):=fun c=>h1.cel i c hlt
    have HX:Hid (∀c,c<8->M.nxt i c<M.n):=fun c=>hM.nx i c hlt
    clear h1;go_wp2_with fail;go_loop [5] (fun c'=>∃c:Nat,c<=8/\c'= .int .i64 c) (fun c'=>8 - (intOf c').toNat)
    case atStart=>exact⟨0,o_,rfl⟩
    case round=>
     obtain⟨c,hc,rfl⟩:=hrel;by_cases hl8:c<8
     . have z1:=HZ.out c hl8;have n1:=HX.out c hl8;generalize M.nxt i c=nv at*;go_wp2_with fail;go_round
       case rel=>exact⟨c+1,o_,by go_num⟩
       case measure=>simp[intOf];omega
     . go_wp2_with fail;go_round
       case rel=>exact⟨i+1,o_,by go_num⟩
       case measure=>simp[intOf];omega
  . clear h1;go_wp2_with fail;go_ret;exact⟨rfl,BW⟩
theorem gt_ (s:ByteArray)(most:Nat)(w:World)(hs:s.size<=maxLen)(hm:most<=100000):
 Calls prog 61 #[.string s,.int .i64 most] w fun e w'=>e= .returned (.bool (decide (s.size<=most)&&ba_ s s.size))/\w'=w:=by
 unfold maxLen at hs;by_cases hl:s.size<=most
 . have e:(decide (s.size<=most)&&ba_ s s.size)=ba_ s s.size:=by simp[hl]
   rw[e];clear e;go_enter func61,ntmps61;go_wp2_with fail;go_loop [5] (fun i'=>∃i:Nat,i<=s.size/\i'= .int .i64 i/\ba_ s i=true) (fun i'=>s.size - (intOf i').toNat)
   case atStart=>exact⟨0,o_,rfl,rfl⟩
   case round=>
    obtain⟨i,hi,rfl,ht⟩:=hrel;by_cases hlt:i<s.size
    . have hg:=l6_ s i hlt;have hts:ba_ s (i+1)=(decide (97<=s[i].toNat)&&decide (s[i].toNat<=104)):=by simp only[ba_,ht,Bool.true_and,hg]
      by_cases h97:97<=s[i].toNat
      . by_cases h104:s[i].toNat<=104
        . have HT:Hid (ba_ s (i+1)=true):=by unfold Hid;rw[hts];simp[h97,h104]
          have q1:¬((s[i].toNat:Int)<97):=o_;have q2:¬((104:Int)<(s[i].toNat:Int)):=o_;clear hts hg ht;go_wp2_with fail;go_round
          case rel=>exact⟨i+1,o_,by go_num,HT.out⟩
          case measure=>simp[intOf];omega
        . have HT:Hid (ba_ s s.size=false):=jv_ s (i+1) _ o_ (by rw[hts];simp[h104]);have q1:¬((s[i].toNat:Int)<97):=o_;have q2:(104:Int)<(s[i].toNat:Int):=o_;clear hts hg ht;go_wp2_with fail;go_ret;exact⟨bh_ HT.out.symm,rfl⟩
      . have HT:Hid (ba_ s s.size=false):=jv_ s (i+1) _ o_ (by rw[hts];simp[h97]);have q1:(s[i].toNat:Int)<97:=o_;clear hts hg ht;go_wp2_with fail;go_ret;exact⟨bh_ HT.out.symm,rfl⟩
    . have e:i=s.size:=o_;subst e;have HT:Hid (ba_ s s.size=true):=ht;clear ht;go_wp2_with fail;go_ret;exact⟨bh_ HT.out.symm,rfl⟩
 . have e:(decide (s.size<=most)&&ba_ s s.size)=false:=by simp[hl]
   rw[e];clear e;go_enter func61,ntmps61;go_wp2_with fail;go_ret;exact⟨rfl,rfl⟩
theorem v0_ (c:Nat)(h:c<8):IntKind.i64.wrap (97+(c:Int))=97+(c:Int):=by rw[IntKind.wrap_i64];omega
theorem t0_ (c:Nat)(h:c<8):IntKind.i64.wrap (c:Int)=(c:Int):=by rw[IntKind.wrap_i64];omega
theorem v1_ (V:Lay)(M:Tab)(s:ByteArray)(w:World)(hM:M.Ok)(h:av_ w V M)(hs:ed_ s)(hl:s.size<=1000):
 Calls prog 76 #[.agg #[.slice (some ⟨V.ba,V.oa,none⟩) M.n V.ca,.slice (some ⟨V.bn,V.on,none⟩) M.n V.cn],.string s] w
  fun e w'=>e= .returned (.bool (M.accepts (bu_ s)))/\Below w.heap.size w w':=by
 have hlo:=hM.lo;have hhi:=hM.hi;obtain⟨W,hW,BW,-,b0⟩:=nw__ w #[.slice (some ⟨V.ba,V.oa,none⟩) M.n V.ca,.slice (some ⟨V.bn,V.on,none⟩) M.n V.cn] 41;obtain⟨x0,x1,_,_⟩:=aa_ b0;have h2:=h.below BW;go_enter func76,ntmps76;go_wp2_with fail;rw[<-hW];clear hW h b0;go_loopw [5,6] (fun st i' wr=>∃k q:Nat,k<=s.size/\i'= .int .i64 k/\st= .int .i64 (M.read 0 ((bu_ s).take k))/\wr=W.drewN q) (fun _ i' _=>s.size - (intOf i').toNat)
 case atStart=>exact⟨0,0,Nat.zero_le _,rfl,rfl,rfl⟩
 case round=>
  obtain⟨k,q,hk,rfl,rfl,rfl⟩:=hrel;have hst:=Tab.read_lt hM 0 o_ _ (oi_ (sc_ hs) k);by_cases hlt:k<s.size
  . have hch:=jb_ hs k hlt;have HT:=l5_ s k hlt;have hc8:(s[k].toNat - 97:Nat)<8:=o_;have HS:Hid (((M.read 0 ((bu_ s).take (k+1)):Nat):Int)=(M.nxt (M.read 0 ((bu_ s).take k)) (s[k].toNat - 97):Nat)):=by
     unfold Hid;rw[HT,Tab.read_snoc]
    generalize M.read 0 ((bu_ s).take k)=st at*;have hr:=h2.row st hst;have hcl:=h2.cel st _ hst hc8;obtain⟨cc,HCC⟩:∃c,Hid (s[k].toNat - 97=c):=⟨s[k].toNat - 97,Eq.refl _⟩;have hcc:(s[k].toNat:Int)=97+(cc:Int):=by have:=HCC.out;omega
    rw[HCC.out]at hcl hc8;have HW1:IntKind.i64.wrap (97+(cc:Int))=97+(cc:Int):=v0_ cc hc8;have HW2:IntKind.i64.wrap (cc:Int)=(cc:Int):=t0_ cc hc8;have hcn:(cc:Int)<8:=o_;have hcz:(0:Int)<=(cc:Int):=o_;clear HT h2;go_wp2_with fail;go_quiet (fail);go_wp2_with fail;go_roundw
    case rel=>exact⟨k+1,_,o_,by go_num,by rw[HS.out,HCC.out],rfl⟩
    case measure=>simp[intOf];omega
  . have e:k=s.size:=o_;subst e;rw[List.take_of_length_le (by rw[ha_];omega)]at hst ⊢;have HS:Hid (M.accepts (bu_ s)=M.acc (M.read 0 (bu_ s))):=rfl;generalize M.read 0 (bu_ s)=st at*;have ha:=h2.acc st hst;clear h2;go_wp2_with fail;go_ret;exact⟨bh_ HS.out.symm,below_drewN BW _⟩
def eb_ (R C:Nat->Nat)(k:Nat):List Value:=(List.range k).map fun i=> .slice (some ⟨R i,0,none⟩) 8 (C i)
def am_ (X:Nat->Nat)(k:Nat):List Value:=(List.range k).map fun c:Nat=> .int .i64 ((X c:Nat):Int)
theorem t1_ (R C:Nat->Nat)(k:Nat):eb_ R C (k+1)=eb_ R C k++ [.slice (some ⟨R k,0,none⟩) 8 (C k)]:=by simp[eb_,List.range_succ]
theorem e3_ (X:Nat->Nat)(k:Nat):am_ X (k+1)=am_ X k++ [.int .i64 ((X k:Nat):Int)]:=by simp[am_,List.range_succ]
structure au_ (W:World)(b:Nat)(w:World)(va vn:Value)(ka kn:Nat)(A:Nat->Bool)(R C:Nat->Nat)(X:Nat->Nat->Nat):Prop where
 two:bd_ W b 41 4 1 24 1 w va vn ka kn (a0_ A ka) (eb_ R C kn)
 rows:∀i,i<kn->w.ownsRow (b+1) 3 1 (.slice (some ⟨R i,0,none⟩) 8 (C i)) 8 (am_ (X i) 8)
section
variable {W:World} {b:Nat} {w w1 w2:World} {va vn vr:Value} {ka kn:Nat} {A:Nat->Bool} {R C:Nat->Nat} {X:Nat->Nat->Nat} {c:Nat} {x:List Value}
theorem au_.start (hb:Below b W w)(hk:w.heap[b]? =some (.cells #[.slice none 0 0,.slice none 0 0] 41 (0,0))):au_ W b w (.slice none 0 0) (.slice none 0 0) 0 0 A R C X:=
 ⟨⟨hb,hk,on__,on__,by intro g h;simp[Value.ownBlock]at h⟩,fun i hi=>absurd hi o_⟩
theorem au_.below (h:au_ W b w va vn ka kn A R C X)(hb:Below w.heap.size w w1):au_ W b w1 va vn ka kn A R C X:=
 ⟨h.two.below hb,fun i hi=>al_ (h.rows i hi) hb⟩
theorem au_.acc (h:au_ W b w va vn ka kn A R C X){g cap:Nat}(hown:w2.ownsRow (b+1) 4 1 (.slice (some ⟨g,0,none⟩) (ka+1) cap) (ka+1) (a0_ A ka++ [.bool (A ka)]))(hg:w.grownBy w2 va.ownBlock)(hf:va.ownBlock=some g\/g=w.heap.size):
 au_ W b (w2.setCell ⟨b,0,none⟩ (.slice (some ⟨g,0,none⟩) (ka+1) cap)) (.slice (some ⟨g,0,none⟩) (ka+1) cap) vn (ka+1) kn A R C X:=by
 refine⟨h.two.put0 hown hg hf,fun i hi=>ownsRow_setCell_below ((h.rows i hi).kept hg (.inr (fun e=>d6_ (h.rows i hi) h.two.own0 d_ _ rfl e.symm))) i_ _⟩
theorem au_.grown (h:au_ W b w va vn ka kn A R C X)(hr:w.ownsRow (b+1) 3 1 vr c x)(hd:∀i,i<kn->vr.ownBlock≠some (R i))(hg:w.grownBy w2 vr.ownBlock):au_ W b w2 va vn ka kn A R C X:=by
 have hsz:=ac_ h.two.blk;refine⟨⟨h.two.blw.grown hg o_ (fun k e=>by have:=(hr.lt k e).1;omega), ?_, ?_, ?_,h.two.dis⟩,fun i hi=>(h.rows i hi).kept hg (.inr (fun e=>hd i hi e.symm))⟩
 . rw[hg.block b hsz (fun e=>by have:=(hr.lt b e.symm).1;omega)];exact h.two.blk
 . refine h.two.own0.kept hg ?_;cases hv:va.ownBlock with
   |none=>exact .inl rfl
   |some k=>exact .inr (fun e=>d6_ h.two.own0 hr d_ k hv e.symm)
 . refine h.two.own1.kept hg ?_;cases hv:vn.ownBlock with
   |none=>exact .inl rfl
   |some k=>exact .inr (fun e=>d6_ h.two.own1 hr d_ k hv e.symm)
theorem au_.nxt (h:au_ W b w va vn ka kn A R C X){g cap gr cr:Nat}(hr:w.ownsRow (b+1) 3 1 (.slice (some ⟨gr,0,none⟩) 8 cr) 8 (am_ (X kn) 8))
 (hown:w2.ownsRow (b+1) 24 1 (.slice (some ⟨g,0,none⟩) (kn+1) cap) (kn+1) (eb_ R C kn++ [.slice (some ⟨gr,0,none⟩) 8 cr])) (hg:w.grownBy w2 vn.ownBlock) (hf:vn.ownBlock=some g\/g=w.heap.size):
 au_ W b (w2.setCell ⟨b,1,none⟩ (.slice (some ⟨g,0,none⟩) (kn+1) cap)) va (.slice (some ⟨g,0,none⟩) (kn+1) cap) ka (kn+1) A (fun i=>if i=kn then gr else R i) (fun i=>if i=kn then cr else C i) X:=by
 have es:eb_ R C kn++ [.slice (some ⟨gr,0,none⟩) 8 cr]=eb_ (fun i=>if i=kn then gr else R i) (fun i=>if i=kn then cr else C i) (kn+1):=by
  rw[t1_];congr 1
  . simp only[eb_];apply List.map_congr_left;intro i hi;have:i<kn:=by simpa using hi
    rw[if_neg o_,if_neg o_]
  . simp
 refine⟨?_,fun i hi=> ?_⟩
 . have:=h.two.put1 hown hg hf;rw[es]at this;exact this
 . by_cases e:i=kn
   . subst e;simp only[if_true];exact ownsRow_setCell_below (hr.kept hg (.inr (fun e=>d6_ hr h.two.own1 d_ _ rfl e.symm))) i_ _
   . simp only[if_neg e];have h1:=h.rows i o_;exact ownsRow_setCell_below (h1.kept hg (.inr (fun e=>d6_ h1 h.two.own1 d_ _ rfl e.symm))) i_ _
theorem au_.done (h:au_ W b w va vn kn kn A R C X)(hk:0<kn){N:Tab}(hn:N.n=kn)(ha:∀i,i<kn->N.acc i=A i)(hx:∀i c,i<kn->c<8->N.nxt i c=X i c):
 ∃V:Lay,va= .slice (some ⟨V.ba,V.oa,none⟩) kn V.ca/\vn= .slice (some ⟨V.bn,V.on,none⟩) kn V.cn/\av_ w V N/\V.From (b+1) kn:=by
 obtain⟨aa,ca,rfl,haa⟩:=af_ h.two.own0;obtain⟨an,cn,rfl,han⟩:=af_ h.two.own1;obtain⟨ga,rfl,h1⟩:=haa hk;obtain⟨gn,rfl,h2⟩:=han hk;refine⟨⟨ga,0,ca,gn,0,cn,R,fun _=>0,C⟩,rfl,rfl,⟨fun i hi=> ?_,fun i hi=> ?_,fun i c hi hc=> ?_⟩,⟨(h.two.own0.lt ga rfl).1,(h.two.own1.lt gn rfl).1,fun i hi=>((h.rows i hi).lt (R i) rfl).1⟩⟩
 . have hi':i<kn:=o_;simp only[Nat.zero_add];rw[h1 i o_,lp_ _ _ _ hi',ha i hi']
 . have hi':i<kn:=o_;simp only[Nat.zero_add];rw[h2 i o_];simp[eb_,hi']
 . have hi':i<kn:=o_;simp only[Nat.zero_add];rw[(h.rows i hi').cellAt c o_,hx i c hi' hc];simp[am_,hc]
end
end Go.Proofs.YtpngikmcjkjdaaaGreatDoor
