import Derived.Test.YtpngikmcjkjdaaaGreatDoorG0
import Derived.BigQuiet
import Derived.Deep.QuietTactic
import Derived.Deep.RegionHeld3
import Derived.Test.YtpngikmcjkjdaaaGreatDoorG11
import Derived.Test.YtpngikmcjkjdaaaGreatDoorG12
import Derived.Test.YtpngikmcjkjdaaaGreatDoorG26
import Derived.Test.YtpngikmcjkjdaaaGreatDoorG30
import Derived.Test.YtpngikmcjkjdaaaGreatDoorG34
set_option linter.unusedVariables false
set_option linter.unusedSimpArgs false
set_option maxRecDepth 20000
set_option maxHeartbeats 80000000
namespace Go.Proofs.YtpngikmcjkjdaaaGreatDoor
open Go.RowKit Tryz
def ptrs (hs:List Hd):List Value:=hs.map fun d=> .pointer (some ⟨d.bh,0,none⟩)
theorem z0_ (hs:List Hd)(d:Hd):ptrs hs++ [.pointer (some ⟨d.bh,0,none⟩)]=ptrs (hs++ [d]):=by simp[ptrs]
theorem kb_ (hs:List Hd)(i:Nat)(h:i<hs.length):(ptrs hs)[i]? =some (.pointer (some ⟨hs[i].bh,0,none⟩)):=by simp[ptrs,h]
structure Fw where
 wo:World
 vbs:Value
 vtx:Value
 fr:Nat->Option Obj
structure WdAt (W0:Fw)(w:World)(bw:Nat)(vts:Value)(hs:List Hd):Prop where
 blw:Below bw W0.wo w
 blk:w.heap[bw]? =some (.cells #[vts,W0.vbs,W0.vtx] 31 (0,0))
 own:w.ownsRow (bw+1) 36 1 vts hs.length (ptrs hs)
 hds:∀d∈hs,HdAt w d
 lo:∀d∈hs,bw+1<=d.lo
 ord:hs.Pairwise (fun a b=>a.hi<=b.lo)
 tsf:∀g,vts.ownBlock=some g->∀d∈hs,g<d.lo\/d.hi<=g
 frm:∀k o,W0.fr k=some o->w.heap[k]? =some o/\bw<k/\vts.ownBlock≠some k/\∀d∈hs,k<d.lo\/d.hi<=k
theorem WdAt.below {W0:Fw}{w w':World}{bw:Nat}{vts:Value}{hs:List Hd}(h:WdAt W0 w bw vts hs)(hb:Below w.heap.size w w'):WdAt W0 w' bw vts hs:=
 ⟨h.blw.trans (hb.mono (by have:=ac_ h.blk;omega)),by rw[hb.block _ (ac_ h.blk)];exact h.blk,al_ h.own hb,fun d hd=>(h.hds d hd).below hb,h.lo,h.ord,h.tsf,fun k o hk=>by
  obtain⟨f1,f2,f3,f4⟩:=h.frm k o hk;exact⟨by rw[hb.block _ (ac_ f1)];exact f1,f2,f3,f4⟩⟩
theorem b2_ {w:World}{b:Nat}{x y z:Value}{t:TypeId}(h:w.heap[b]? =some (.cells #[x,y,z] t (0,0))):w.cell? ⟨b,0,none⟩=some x/\w.cell? ⟨b,1,none⟩=some y/\w.cell? ⟨b,2,none⟩=some z/\w.frozen? ⟨b,0,none⟩=false:=by
 simp[World.cell?,World.frozen?,h]
theorem xa_ {w:World}{b:Nat}{x y z u:Value}{t:TypeId}(h:w.heap[b]? =some (.cells #[x,y,z] t (0,0))):(w.setCell ⟨b,0,none⟩ u).heap[b]? =some (.cells #[u,y,z] t (0,0)):=by
 simp[World.setCell,Array.getElem?_modify,h]
theorem WdAt.add {W0:Fw}{w w1 w2:World}{bw:Nat}{vts:Value}{hs:List Hd}(h:WdAt W0 w bw vts hs)(hB:Below w.heap.size w w1){d:Hd}(hd:HdAt w1 d)(hl:w.heap.size<=d.lo){g cap:Nat}
 (hown:w2.ownsRow (bw+1) 36 1 (.slice (some ⟨g,0,none⟩) (hs.length+1) cap) (hs.length+1) (ptrs hs++ [.pointer (some ⟨d.bh,0,none⟩)])) {o:Obj} (hg:(w1.alloc o).grownBy w2 vts.ownBlock) (hf:vts.ownBlock=some g\/g=(w1.alloc o).heap.size):
 w2.heap[bw]? =some (.cells #[vts,W0.vbs,W0.vtx] 31 (0,0))/\WdAt W0 (w2.setCell ⟨bw,0,none⟩ (.slice (some ⟨g,0,none⟩) (hs.length+1) cap)) bw (.slice (some ⟨g,0,none⟩) (hs.length+1) cap) (hs++ [d]):=by
 have h1:=(h.below hB).below ((Below.refl w1.heap.size w1).alloc lr__ o);have hd1:=hd.below ((Below.refl w1.heap.size w1).alloc lr__ o);have hs1:=ac_ h1.blk;have hlt:=fun x e=>h1.own.lt x e
 have hsz:=hg.size;have hs0:=ac_ h.blk;have hblk:w2.heap[bw]? =some (.cells #[vts,W0.vbs,W0.vtx] 31 (0,0)):=by
  rw[hg.block _ hs1 (fun e=>by have:=(hlt _ e.symm).1;omega)];exact h1.blk
 have hkeep:∀k:Nat,bw<k->k<(w1.alloc o).heap.size->vts.ownBlock≠some k->(w2.setCell ⟨bw,0,none⟩ (.slice (some ⟨g,0,none⟩) (hs.length+1) cap)).heap[k]? =(w1.alloc o).heap[k]? :=by
  intro k hk1 hk2 hne;rw[Below.heap_setCell _ _ _ k s_,hg.block k hk2 (fun e=>hne e.symm)]
 have hws:w.heap.size<=w1.heap.size:=hB.size;have hold:∀e∈hs,e.hi<=w.heap.size:=fun e he=>(h.hds e he).siz
 have hvt:∀x,vts.ownBlock=some x->x<w.heap.size:=fun x e=>(h.own.lt x e).2
 refine⟨hblk,(h1.blw.grown hg o_ (fun x e=>by have:=(hlt x e).1;omega)).setCell (p:=⟨bw,0,none⟩) lr__ _,xa_ hblk, ?_, ?_, ?_, ?_, ?_, ?_⟩
 . rw[z0_]at hown;simp only[List.length_append,List.length_singleton];exact ownsRow_setCell_below hown i_ _
 . intro e he;simp only[List.mem_append,List.mem_singleton]at he;rcases he with he|rfl
   . refine(h1.hds e he).keep (fun k hk1 hk2=>hkeep k ?_ ?_ ?_) (by simpa using hsz)
     . have:=h.lo e he;omega
     . have:=hold e he;simp;omega
     . intro e';rcases h.tsf k e' e he with hh|hh<;>omega
   . refine hd1.keep (fun k hk1 hk2=>hkeep k ?_ ?_ ?_) (by simpa using hsz)
     . omega
     . have:=hd.siz;simp;omega
     . intro e';have:=hvt k e';omega
 . intro e he;simp only[List.mem_append,List.mem_singleton]at he;rcases he with he|rfl
   . exact h.lo e he
   . omega
 . rw[List.pairwise_append];refine⟨h.ord,i_,fun a ha b hb=> ?_⟩;simp only[List.mem_singleton]at hb;subst hb;have:=hold a ha;omega
 . intro x hx e he;simp only[Value.ownBlock,Option.some.injEq]at hx;subst hx;simp only[List.mem_append,List.mem_singleton]at he;rcases hf with hf|hf
   . rcases he with he|rfl
     . exact h.tsf _ hf e he
     . left;have:=hvt _ hf;omega
   . right;rw[hf];rcases he with he|rfl
     . have:=hold e he;simp;omega
     . have:=hd.siz;simp;omega
 . intro k ob hk;obtain⟨f1,f2,f3,f4⟩:=h.frm k ob hk;have hks:=ac_ f1;refine⟨?_,f2, ?_, ?_⟩
   . rw[hkeep k f2 s_ f3];exact(h1.frm k ob hk).1
   . simp only[Value.ownBlock,ne_eq,Option.some.injEq];rcases hf with hf|hf
     . intro e;exact f3 (by rw[hf,e])
     . intro e;have:k<(w1.alloc o).heap.size:=ac_ (h1.frm k ob hk).1;omega
   . intro e he;simp only[List.mem_append,List.mem_singleton]at he;rcases he with he|rfl
     . exact f4 e he
     . left;omega
theorem WdAt.put {W0:Fw}{w w1:World}{bw:Nat}{vts:Value}{hs:List Hd}(h:WdAt W0 w bw vts hs){i:Nat}(hi:i<hs.length){A:Nat->Bool}{X:Nat->Nat->Int}(hd:HdAt w1 {hs[i]with A:=A,X:=X})(ht:ab_ (fun b=>hs[i].lo<=b/\b<hs[i].hi) w w1):
 WdAt W0 w1 bw vts (hs.set i {hs[i]with A:=A,X:=X}):=by
 have hm:hs[i]∈hs:=List.getElem_mem hi;have hlo:=h.lo _ hm;have hsz:=ac_ h.blk;have hmem:∀e∈hs.set i {hs[i]with A:=A,X:=X},∃e'∈hs,e.lo=e'.lo/\e.hi=e'.hi:=by
  intro e he;rcases List.mem_or_eq_of_mem_set he with he|rfl
  . exact⟨e,he,rfl,rfl⟩
  . exact⟨hs[i],hm,rfl,rfl⟩
 refine⟨ht.below h.blw o_ (fun k hk=>o_),ht.heap h.blk o_, ?_, ?_, ?_, ?_, ?_, ?_⟩
 . have hp:ptrs (hs.set i {hs[i]with A:=A,X:=X})=ptrs hs:=by
    apply List.ext_getElem?;intro j;by_cases hj:j<hs.length
    . rw[kb_ hs j hj,kb_ _ j (by simpa using hj)];by_cases e:j=i
      . subst e;simp
      . rw[List.getElem_set_ne (fun e'=>e e'.symm)]
    . rw[List.getElem?_eq_none (by simp[ptrs];omega),List.getElem?_eq_none (by simp[ptrs];omega)]
   rw[hp,List.length_set];refine ht.own h.own (fun g e hc=> ?_);rcases h.tsf g e _ hm with hh|hh<;>omega
 . intro e he;obtain⟨j,hj,rfl⟩:=List.getElem_of_mem he;have hj':j<hs.length:=by simpa using hj
   by_cases e:i=j
   . subst e;rw[List.getElem_set_self];exact hd
   . rw[List.getElem_set_ne e];refine(h.hds _ (List.getElem_mem hj')).keep (fun k hk1 hk2=>ht.block k (Nat.lt_of_lt_of_le hk2 (h.hds _ (List.getElem_mem hj')).siz) (fun hc=> ?_)) ht.size;rcases Nat.lt_or_gt_of_ne e with hij|hij
     . have:=List.pairwise_iff_getElem.1 h.ord i j hi hj' hij;omega
     . have:=List.pairwise_iff_getElem.1 h.ord j i hj' hi hij;omega
 . intro e he;obtain⟨e',he',h1,h2⟩:=hmem e he;have:=h.lo e' he';omega
 . rw[List.pairwise_iff_getElem];intro a b ha hb hab;have ha':a<hs.length:=by simpa using ha
   have hb':b<hs.length:=by simpa using hb
   have:=List.pairwise_iff_getElem.1 h.ord a b ha' hb' hab;have e1:(hs.set i {hs[i]with A:=A,X:=X})[a].hi=hs[a].hi:=by
    by_cases e:i=a
    . subst e;rw[List.getElem_set_self]
    . rw[List.getElem_set_ne e]
   have e2:(hs.set i {hs[i]with A:=A,X:=X})[b].lo=hs[b].lo:=by
    by_cases e:i=b
    . subst e;rw[List.getElem_set_self]
    . rw[List.getElem_set_ne e]
   rw[e1,e2];exact this
 . intro g e d hd';obtain⟨e',he',h1,h2⟩:=hmem d hd';have:=h.tsf g e e' he';omega
 . intro k o hk;obtain⟨f1,f2,f3,f4⟩:=h.frm k o hk;refine⟨ht.heap f1 (fun hc=> ?_),f2,f3, ?_⟩
   . have:=f4 _ hm;omega
   . intro e he;obtain⟨e',he',h1,h2⟩:=hmem e he;have:=f4 e' he';omega
def f7_ (W0:Fw)(bw n:Nat)(e:Ending)(w':World):Prop:=e= .returned (.bool true)/\∃vts' hs',WdAt W0 w' bw vts' hs'/\hs'.length<=n+1
theorem vs_:(prog.info? 36).map (fun i=>(i.zero,i.size,i.bytes))=some (some (.pointer none),1,8):=k_
theorem xb_ (W0:Fw)(w:World)(bw:Nat)(vts:Value)(hs:List Hd)(h:WdAt W0 w bw vts hs)(a b c d:Int)(s:ByteArray)(lo:Option Addr)(ll lc:Nat)(z:Nat->Int)(hL:jf_ w lo ll z)(hn:hs.length<=4398046511104):
 Calls prog 12 #[.pointer (some ⟨bw,0,none⟩),.agg #[.int .i64 1,.int .i64 a,.int .i64 b,.int .i64 c,.int .i64 d,.string s,.slice lo ll lc]] w (f7_ W0 bw hs.length):=by
 obtain⟨i0,hi0,hz0,hz01,hz02⟩:=info_parts vs_;obtain⟨W,hW,BW,hWs,b0⟩:=nw__ w #[.int .i64 1,.int .i64 a,.int .i64 b,.int .i64 c,.int .i64 d,.string s,.slice lo ll lc] 33;have HC:=afh_ lo ll lc z b W (hL.below BW);obtain⟨x0,_,x2,_,_,_,x6⟩:=bn_ b0;go_enter func12,ntmps12;go_upto_region 1 with fail;rw[<-hW];clear hW;go_wp2_with fail;refine HC.mono ?_;rintro e w1 ⟨hB1,t,A,X,rfl,hT,ra,rn,rr,drr⟩;have hs1:=hB1.size;have HC2:=vm_ t A X W.heap.size w1 hT ra rn rr drr;clear HC x0 x2 x6;go_wp2_with fail;refine HC2.mono ?_;rintro e w2 ⟨hB2,dd,rfl,hD,_,_,_,hlo,_⟩;have hs2:=hB2.size;have hB:Below w.heap.size w w2:=(BW.trans (hB1.mono o_)).trans (hB2.mono o_);have h2:=h.below hB;obtain⟨y0,y1,y2,y3⟩:=b2_ h2.blk;have hbs:=ac_ h2.blk;have hna:=(h2.below (br__.alloc lr__ (.cells #[.pointer (some ⟨dd.bh,0,none⟩)] 36))).own;have HG:∀(g cap:Nat) (w3:World),w3.ownsRow (bw+1) 36 1 (.slice (some ⟨g,0,none⟩) (hs.length+1) cap) (hs.length+1) (ptrs hs++ [.pointer (some ⟨dd.bh,0,none⟩)])->(w2.alloc (.cells #[.pointer (some ⟨dd.bh,0,none⟩)] 36)).grownBy w3 vts.ownBlock->(vts.ownBlock=some g\/g=(w2.alloc (.cells #[.pointer (some ⟨dd.bh,0,none⟩)] 36)).heap.size)->
  w3.heap[bw]? =some (.cells #[vts,W0.vbs,W0.vtx] 31 (0,0))/\Hid (WdAt W0 (w3.setCell ⟨bw,0,none⟩ (.slice (some ⟨g,0,none⟩) (hs.length+1) cap)) bw (.slice (some ⟨g,0,none⟩) (hs.length+1) cap) (hs++ [dd])):=by
  intro g cap w3 ho hg hf;exact h.add hB hD o_ ho hg hf
 clear HC2 hB1 hB2 hT hL;go_wp2_with (at_builtin;refine ae_ _ rfl _ _ 27 rfl (bw+1) 36 i0 (.pointer none) 1 8 underlying27 hi0 hz0 hz01 hz02 rfl d_ _ hs.length _ rfl hna ⟨w2.heap.size,0,none⟩ 1 1 [.pointer (some ⟨dd.bh,0,none⟩)] rfl rfl (cell_one_new _ _ _) (oc__ rfl) d_ u_ o_ s_ ?_;intro g cap w3 hown hgr hfr;obtain⟨f0,F⟩:=HG g cap w3 hown hgr hfr;obtain⟨f1,f2,f3,f4⟩:=b2_ f0);go_ret;exact⟨rfl,_,_,F.out,i_⟩
theorem xc_ (W0:Fw)(w:World)(bw:Nat)(vts:Value)(hs:List Hd)(h:WdAt W0 w bw vts hs)(a b c d:Int)(s:ByteArray)(lo:Option Addr)(ll lc:Nat)(hn:hs.length<=4398046511104)
 (ha: -9223372036854775808<=a/\a<=9223372036854775807) (hb: -9223372036854775808<=b/\b<=9223372036854775807) (hc: -9223372036854775808<=c/\c<=9223372036854775807):
 Calls prog 12 #[.pointer (some ⟨bw,0,none⟩),.agg #[.int .i64 2,.int .i64 a,.int .i64 b,.int .i64 c,.int .i64 d,.string s,.slice lo ll lc]] w (f7_ W0 bw hs.length):=by
 obtain⟨W,hW,BW,hWs,b0⟩:=nw__ w #[.int .i64 2,.int .i64 a,.int .i64 b,.int .i64 c,.int .i64 d,.string s,.slice lo ll lc] 33;have h1:=h.below BW;obtain⟨x0,x1,x2,x3,x4,_,_⟩:=bn_ b0;obtain⟨y0,y1,y2,y3⟩:=b2_ h1.blk;obtain⟨al,cl,rfl,hal⟩:=af_ h1.own;go_enter func12,ntmps12;go_upto_region 1 with fail;rw[<-hW];clear hW;by_cases h0:hs.length=0
 . rw[h0]at y0;have HF:Hid _:=h1;go_wp2_with fail;go_ret;exact⟨rfl,_,_,HF.out,o_⟩
 . obtain⟨gl,rfl,hcl⟩:=hal o_;obtain⟨pi,HPI⟩:=hx__ (ex_ a hs.length);have hpi:pi<hs.length:=by rw[<-HPI.out];exact f6_ _ _ o_
   have HP:=gq_ a hs.length W.drew o_ o_ ha.1 ha.2;rw[Int.toNat_natCast,HPI.out]at HP;have z0:=(hcl pi o_).trans (kb_ hs pi hpi);have HQ:=ab5_ hs[pi] b c d W.drew ((h1.hds _ (List.getElem_mem hpi)).below (br__.drew)) hb.1 hb.2 hc.1 hc.2;have HF:Hid (WdAt W0 W.drew bw (.slice (some ⟨gl,0,none⟩) hs.length cl) hs):=h1.below (br__.drew);have v0:=HF.out.lo _ (List.getElem_mem hpi);have v1:=(HF.out.hds _ (List.getElem_mem hpi)).siz;have v2:=HF.out.tsf gl rfl _ (List.getElem_mem hpi);have v3:hs[pi].hi<=w.heap.size:=(h.hds _ (List.getElem_mem hpi)).siz;have v4:=(HF.out.own.lt gl rfl).2;have v5:=ac_ HF.out.blk;obtain⟨dd,HDD⟩:∃x,Hid (hs[pi]=x):=⟨hs[pi],by unfold Hid;rfl⟩;rw[HDD.out]at z0 HQ v0 v1 v2 v3;have KK:∀(w':World) (k o:Nat),ab_ (fun b=>dd.lo<=b/\b<dd.hi) W.drew w'->k<W.heap.size->¬(dd.lo<=k/\k<dd.hi)->w'.cell? ⟨k,o,none⟩=W.cell? ⟨k,o,none⟩:=fun w' k o ht hk hne=>World.cell?_of_block (a:=⟨k,o,none⟩) (ht.block k hk hne)
   have hgt:(0:Int)<(hs.length:Int):=o_;have hgt2:(pi:Int)<(hs.length:Int):=o_;clear h1 h hcl hal;go_upto_region 8 with fail;go_region_held3 (fun w'=>w'.cell? ⟨bw,0,none⟩=some (.slice (some ⟨gl,0,none⟩) hs.length cl)/\w'.cell? ⟨w.heap.size,1,none⟩=some (.int .i64 a)/\w'.cell? ⟨w.heap.size,2,none⟩=some (.int .i64 b)/\w'.cell? ⟨w.heap.size,3,none⟩=some (.int .i64 c)/\w'.cell? ⟨w.heap.size,4,none⟩=some (.int .i64 d)/\w'.cell? ⟨gl,pi,none⟩=some (.pointer (some ⟨dd.bh,0,none⟩))) (go_keep)
    ((first
     |(go_at_call 16;refine HP.mono ?_;rintro e w' ⟨rfl,hw'⟩;obtain rfl:W.drew=w':=hw'.symm)
     |(go_at_call 17;refine HQ.mono ?_;rintro e w' ⟨rfl,A,X,hD,hT⟩;have u0:=(KK w' bw 0 hT (by simpa using v5) o_).trans y0;have u1:=(KK w' w.heap.size 1 hT o_ o_).trans x1;have u2:=(KK w' w.heap.size 2 hT o_ o_).trans x2;have u3:=(KK w' w.heap.size 3 hT o_ o_).trans x3;have u4:=(KK w' w.heap.size 4 hT o_ o_).trans x4;have u5:=(KK w' gl pi hT (by simpa using v4) o_).trans z0;have HD2:Hid (HdAt w' {dd with A:=A,X:=X}):=hD;have HT2:Hid (ab_ (fun b=>dd.lo<=b/\b<dd.hi) W.drew w'):=hT;clear hD hT)))
   all_goals go_wp2_with fail
   all_goals go_ret
   all_goals
    have hD:=HD2.out;have hT:=HT2.out;rw[<-HDD.out]at hD hT;exact⟨rfl,_,_,HF.out.put hpi hD hT,i_⟩
structure o1_ (w:World)(ao:Option Addr)(len:Nat)(kd fa fb fc fd:Nat->Int)(st:Nat->ByteArray)(lo:Nat->Option Addr)(ll lc:Nat->Nat)(z:Nat->Nat->Int):Prop where
 ln:len<=4398046511104
 cel:∀i,i<len->∃b o,ao=some ⟨b,o,none⟩/\w.cell? ⟨b,o+i*7,none⟩=some (.int .i64 (kd i))/\w.cell? ⟨b,o+i*7+1,none⟩=some (.int .i64 (fa i))/\w.cell? ⟨b,o+i*7+2,none⟩=some (.int .i64 (fb i))/\w.cell? ⟨b,o+i*7+3,none⟩=some (.int .i64 (fc i))/\
  w.cell? ⟨b,o+i*7+4,none⟩=some (.int .i64 (fd i))/\w.cell? ⟨b,o+i*7+5,none⟩=some (.string (st i))/\w.cell? ⟨b,o+i*7+6,none⟩=some (.slice (lo i) (ll i) (lc i))
 ra:∀i,i<len-> -9223372036854775808<=fa i/\fa i<=9223372036854775807
 rb:∀i,i<len-> -9223372036854775808<=fb i/\fb i<=9223372036854775807
 rc:∀i,i<len-> -9223372036854775808<=fc i/\fc i<=9223372036854775807
 str:∀i,i<len->(st i).size<=maxLen
 lst:∀i,i<len->jf_ w (lo i) (ll i) (z i)
theorem o1_.below {w w':World}{ao:Option Addr}{len:Nat}{kd fa fb fc fd:Nat->Int}{st:Nat->ByteArray}{lo:Nat->Option Addr}{ll lc:Nat->Nat}{z:Nat->Nat->Int}(h:o1_ w ao len kd fa fb fc fd st lo ll lc z)(hb:Below w.heap.size w w'):o1_ w' ao len kd fa fb fc fd st lo ll lc z:=
 ⟨h.ln,fun i hi=>by
  obtain⟨b,o,e,c0,c1,c2,c3,c4,c5,c6⟩:=h.cel i hi;have hk:=fun x=>(cu_ hb).1 b x (an_ c0)
  exact⟨b,o,e,by rw[hk];exact c0,by rw[hk];exact c1,by rw[hk];exact c2,by rw[hk];exact c3,by rw[hk];exact c4,by rw[hk];exact c5,by rw[hk];exact c6⟩,h.ra,h.rb,h.rc,h.str,fun i hi=>(h.lst i hi).below hb⟩
def inB (k:Int)(ks:Nat->Int):Nat->Bool
 |0=>(k==1)||(k==2)
 |j+1=>inB k ks j||(k==ks j)
theorem aer_ (k:Int)(ks:Nat->Int)(n:Nat):inB k ks n=true↔k=1\/k=2\/∃j,j<n/\k=ks j:=by
 induction n with
 |zero=>simp[inB]
 |succ n ih=>
  simp only[inB,Bool.or_eq_true,ih,beq_iff_eq];constructor
  . rintro((h|h|⟨j,hj,h⟩)|h)
    . exact .inl h
    . exact .inr (.inl h)
    . exact .inr (.inr ⟨j,o_,h⟩)
    . exact .inr (.inr ⟨n,o_,h⟩)
  . rintro(h|h|⟨j,hj,h⟩)
    . exact .inl (.inl h)
    . exact .inl (.inr (.inl h))
    . by_cases e:j=n
      . subst e;exact .inr h
      . exact .inl (.inr (.inr ⟨j,o_,h⟩))
def Lay.tl (V:Lay)(n:Nat):TL:=⟨V.ba,n,n,V.bn,n,n,V.rb,fun _=>8,fun _=>8⟩
theorem nz_ {w:World}{b t n:Nat}{f:Nat->Value}(hs:∃c,w.heap[b]? =some (.cells c t (0,0))/\n<=c.size)(hc:∀i,i<n->w.cell? ⟨b,i,none⟩=some (f i)):ar_ w b t n f:=by
 obtain⟨c,hb,hn⟩:=hs;refine⟨c,hb,hn,fun i hi=> ?_⟩;have:=hc i hi;rw[cell_of_row w b i c t (0,0) hb]at this;exact this
theorem uw_ {w:World}{V:Lay}{R:Tab}(hT:av_ w V R)(hF:g6_ w V R.n)(h1:1<=R.n)(h2:R.n<=40):TLAt w (V.tl R.n) R.acc (fun i c=>(R.nxt i c:Int)) where
 na:=lr__
 ca:=by show R.n<=_;omega
 ca1:=h1
 nn:=lr__
 cn:=by show R.n<=_;omega
 cn1:=h1
 rl i _:=lr__
 rc i _:=by show 8<=1000000;omega
 acc:=nz_ hF.sa (fun i hi=>by have:=hT.acc i hi;rw[hF.oa,Nat.zero_add]at this;exact this)
 nxt:=nz_ hF.sn (fun i hi=>by
  have:=hT.row i hi;rw[hF.on,Nat.zero_add,(hF.ro i hi).1,(hF.ro i hi).2]at this;exact this)
 row i hi _:=nz_ (hF.sr i hi) (fun c hc=>by have:=hT.cel i c hi hc;rw[(hF.ro i hi).1,Nat.zero_add]at this;exact this)
theorem aes_ {w:World}{V:Lay}{R:Tab}(hT:av_ w V R)(h2:R.n<=40):cz_ w ⟨some ⟨V.ba,V.oa,none⟩,some ⟨V.bn,V.on,none⟩,R.n,V.ca,R.n,V.cn,fun i=>some ⟨V.rb i,V.ro i,none⟩,fun _=>8,V.rc⟩ R.acc (fun i c=>(R.nxt i c:Int)) where
 la:=by show R.n<=_;omega
 ln:=by show R.n<=_;omega
 lr i _:=by show 8<=_;omega
 acc i hi:=⟨_,_,rfl,hT.acc i hi⟩
 row i hi:=⟨_,_,rfl,hT.row i hi⟩
 cel i c hi hc:=⟨_,_,rfl,hT.cel i c hi hc⟩
theorem cz_.congr {w:World}{r:RLay}{A A':Nat->Bool}{X X':Nat->Nat->Int}(h:cz_ w r A X)(hA:∀i,i<r.na->A i=A' i)(hX:∀i c,i<r.nn->c<r.rl i->X i c=X' i c):cz_ w r A' X' where
 la:=h.la
 ln:=h.ln
 lr:=h.lr
 acc i hi:=by obtain⟨b,o,e,hc⟩:=h.acc i hi;exact⟨b,o,e,by rw[hc,hA i hi]⟩
 row:=h.row
 cel i c hi hc:=by obtain⟨b,o,e,hcc⟩:=h.cel i c hi hc;exact⟨b,o,e,by rw[hcc,hX i c hi hc]⟩
def Kept (bw:Nat)(vts:Value)(w w':World):Prop:=∀k,k<w.heap.size->k≠bw->vts.ownBlock≠some k->w'.heap[k]? =w.heap[k]?
theorem Kept.of_below {bw:Nat}{vts:Value}{w w':World}(h:Below w.heap.size w w'):Kept bw vts w w':=fun k hk _ _=>h.block k hk
theorem Kept.from {bw:Nat}{vts:Value}{w w1 w':World}(h:Below w.heap.size w w1)(h':Kept bw vts w1 w'):Kept bw vts w w':=fun k hk h1 h2=>(h' k (by have:=h.size;omega) h1 h2).trans (h.block k hk)
theorem aet_ {P:Program}{t e:TypeId}(d:Nat)(hu:P.underlying t=some (.slice e))(w:World):Sem.run P (Op.equalIn (d+1) t (.slice none 0 0) (.slice none 0 0)) w= .ok true w:=by
 simp only[Op.equalIn,Sem.run_bind,run_underlying hu,Result.andThen_ok];rfl
theorem xd_ {P:Program}{t e:TypeId}(hu:P.underlying t=some (.slice e))(w:World):Sem.run P (binOp .eql t (.slice none 0 0) (.slice none 0 0)) w= .ok (.bool true) w:=by
 have h:=aet_ 9999 hu w;show Sem.run P (do pure (Value.bool (<-Op.equalIn (9999+1) t (Value.slice none 0 0) (Value.slice none 0 0)))) w=_
 rw[Sem.run_bind,h];rfl
theorem jj_ (bw:Nat)(er:Int)(w:World)(he:er≠0):
 Calls prog 29 #[.pointer (some ⟨bw,0,none⟩),.agg #[.slice none 0 0,.slice none 0 0],.int .i64 er,.agg #[.slice none 0 0,.slice none 0 0],.int .i64 er] w
  fun e w'=>e= .returned (.bool true)/\Below w.heap.size w w':=by
 have B1:Below w.heap.size w ((w.alloc (.cells #[.slice none 0 0,.slice none 0 0] 41)).alloc (.cells #[.slice none 0 0,.slice none 0 0] 41)):=ba__.alloc i_ _;have h1:(er !=er)=false:=i_;have z1:=xd_ underlying38 ((w.alloc (.cells #[.slice none 0 0,.slice none 0 0] 41)).alloc (.cells #[.slice none 0 0,.slice none 0 0] 41));have z2:=xd_ underlying39 ((w.alloc (.cells #[.slice none 0 0,.slice none 0 0] 41)).alloc (.cells #[.slice none 0 0,.slice none 0 0] 41));have h2:(er !=0)=true:=by simp[he]
 go_enter func29,ntmps29;go_wp2_with fail;go_ret;exact⟨rfl,B1⟩
theorem tn_ (W0:Fw)(wa w:World)(bw:Nat)(vts:Value)(hs:List Hd)(h:WdAt W0 wa bw vts hs)(hB:Below wa.heap.size wa w)(hn:hs.length<=4398046511104)
 (V U:Lay) (R Q:Tab) (L:List Nat->Bool) (hR:b8_ R L) (hQ:b8_ Q L) (hT:av_ w V R) (hFr:g6_ w V R.n) (hF:V.From wa.heap.size R.n) (hU:av_ w U Q) (hR40:R.n<=40):
 Calls prog 29 #[.pointer (some ⟨bw,0,none⟩),.agg #[.slice (some ⟨V.ba,V.oa,none⟩) R.n V.ca,.slice (some ⟨V.bn,V.on,none⟩) R.n V.cn],.int .i64 0,.agg #[.slice (some ⟨U.ba,U.oa,none⟩) Q.n U.ca,.slice (some ⟨U.bn,U.on,none⟩) Q.n U.cn],.int .i64 0] w
  (fun e w'=>f7_ W0 bw hs.length e w'/\Kept bw vts wa w'):=by
 have hS:=i1_ hR hQ;have hR1:=hR.num.pos;rw[<-hS.n];rw[show V.oa=0 from hFr.oa,show V.on=0 from hFr.on,show V.ca=R.n from hFr.ca,show V.cn=R.n from hFr.cn];obtain⟨i0,hi0,hz0,hz01,hz02⟩:=info_parts vs_;obtain⟨W,hW,BW,b0,b1⟩:=n2__ w #[.slice (some ⟨V.ba,0,none⟩) R.n R.n,.slice (some ⟨V.bn,0,none⟩) R.n R.n] 41 #[.slice (some ⟨U.ba,U.oa,none⟩) R.n U.ca,.slice (some ⟨U.bn,U.on,none⟩) R.n U.cn] 41;have hWs:w.heap.size+1<W.heap.size:=by rw[hW];simp
 have hTL:=uw_ hT hFr hR1 hR40;have hTL1:=hTL.below BW;have r1:=hTL1.raw;have r2:=((aes_ hU (by rw[<-hS.n];exact hR40)).below BW).congr (A':=R.acc) (X':=fun i c=>(R.nxt i c:Int)) (fun i hi=>(hS.acc i (by rw[hS.n];exact hi)).symm) (fun i c hi hc=>by
  have:=hS.nxt i c (by rw[hS.n];exact hi) hc;rw[this])
 rw[<-hS.n]at r2;have HC:=rl_ _ _ _ _ _ _ _ _ _ _ _ _ _ _ _ R.acc (fun i c=>(R.nxt i c:Int)) W r1 r2;have hsz:=hB.size;have hab:Below wa.heap.size wa W:=hB.trans (BW.mono o_);obtain⟨x0,x1,_,_⟩:=aa_ b0;obtain⟨x2,x3,_,_⟩:=aa_ b1;have HTL:Hid _:=hTL1;have HFF:Hid _:=hF;have HFI:Hid (∀i j,i<j->j<R.n->V.rb i≠V.rb j):=hFr.inj;try simp only[Lay.tl]at HC
 clear hTL hTL1 r1 r2 hS hR hQ hT hU hFr hF;go_enter func29,ntmps29;go_upto_region 1 with fail;rw[<-hW];clear hW;go_wp2_with fail;refine HC.mono ?_;clear HC;rintro e w1 ⟨rfl,hB1⟩;have hs1:=hB1.size;have c0:=(hB1.block _ o_).trans b0;obtain⟨x0,x1,_,_⟩:=aa_ c0;have HC:=vm_ (V.tl R.n) R.acc (fun i c=>(R.nxt i c:Int)) wa.heap.size w1 (HTL.out.below hB1) HFF.out.a HFF.out.b (fun j hj _=>HFF.out.r j hj) (fun i j hij hj _ _=>HFI.out i j hij hj);simp only[Lay.tl]at HC;have hab1:Below wa.heap.size wa w1:=hab.trans (hB1.mono o_);clear x2 x3 b0 b1 c0 hB1;go_wp2_with fail;refine HC.mono ?_;clear HC;rintro e w2 ⟨hB2,dd,rfl,hD,_,_,_,hlo,_⟩;have hs2:=hB2.size;have hBa:Below wa.heap.size wa w2:=hab1.trans (hB2.mono o_);have h2:=h.below hBa;obtain⟨y0,y1,y2,y3⟩:=b2_ h2.blk;have hbs:=ac_ h2.blk;have hna:=(h2.below (br__.alloc lr__ (.cells #[.pointer (some ⟨dd.bh,0,none⟩)] 36))).own;have HG:∀(g cap:Nat) (w3:World),w3.ownsRow (bw+1) 36 1 (.slice (some ⟨g,0,none⟩) (hs.length+1) cap) (hs.length+1) (ptrs hs++ [.pointer (some ⟨dd.bh,0,none⟩)])->(w2.alloc (.cells #[.pointer (some ⟨dd.bh,0,none⟩)] 36)).grownBy w3 vts.ownBlock->(vts.ownBlock=some g\/g=(w2.alloc (.cells #[.pointer (some ⟨dd.bh,0,none⟩)] 36)).heap.size)->
  w3.heap[bw]? =some (.cells #[vts,W0.vbs,W0.vtx] 31 (0,0))/\Hid (WdAt W0 (w3.setCell ⟨bw,0,none⟩ (.slice (some ⟨g,0,none⟩) (hs.length+1) cap)) bw (.slice (some ⟨g,0,none⟩) (hs.length+1) cap) (hs++ [dd]))/\Hid (Kept bw vts wa (w3.setCell ⟨bw,0,none⟩ (.slice (some ⟨g,0,none⟩) (hs.length+1) cap))):=by
  intro g cap w3 ho hg hf;obtain⟨k1,k2⟩:=h.add hBa hD o_ ho hg hf;refine⟨k1,k2,fun k hk hb hv=> ?_⟩;have hk2:k<w2.heap.size:=by have:=hBa.size;omega
  have e1:(w3.setCell ⟨bw,0,none⟩ (.slice (some ⟨g,0,none⟩) (hs.length+1) cap)).heap[k]? =w3.heap[k]? :=by simp[World.setCell,Array.getElem?_modify,Ne.symm hb]
  rw[e1,hg.block k s_ (fun e=>hv e.symm),<-hBa.block k hk];exact((Below.refl w2.heap.size w2).alloc lr__ _).block k hk2
 clear hB2 x0 x1;go_wp2_with (at_builtin;refine ae_ _ rfl _ _ 27 rfl (bw+1) 36 i0 (.pointer none) 1 8 underlying27 hi0 hz0 hz01 hz02 rfl d_ _ hs.length _ rfl hna ⟨w2.heap.size,0,none⟩ 1 1 [.pointer (some ⟨dd.bh,0,none⟩)] rfl rfl (cell_one_new _ _ _) (oc__ rfl) d_ u_ o_ s_ ?_;intro g cap w3 hown hgr hfr;obtain⟨f0,F,FK⟩:=HG g cap w3 hown hgr hfr;obtain⟨f1,f2,f3,f4⟩:=b2_ f0);go_ret;exact⟨⟨rfl,_,_,F.out,i_⟩,FK.out⟩
end Go.Proofs.YtpngikmcjkjdaaaGreatDoor
