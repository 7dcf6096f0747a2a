import Derived.Test.YtpngikmcjkjdaaaGreatDoorCW
import Derived.Test.YtpngikmcjkjdaaaGreatDoorC20
import Derived.Test.YtpngikmcjkjdaaaGreatDoorC27
set_option linter.unusedVariables false
set_option linter.unusedSimpArgs false
set_option maxRecDepth 20000
set_option maxHeartbeats 80000000
namespace Go.Proofs.YtpngikmcjkjdaaaGreatDoor
open Go.RowKit Tryz List Nat
variable {b bw:Nat} {A:Nat->Bool} {X:Nat->Nat->Int} {P:Program} {e t:TypeId} {vts x y z:Value} {w w' w1:World}
def ho_ (hs:List Hd):List Value:=hs.map fun d=> .pointer (some ⟨d.bh,0,none⟩)
theorem alq_ (hs:List Hd)(d:Hd):ho_ hs++ [.pointer (some ⟨d.bh,0,none⟩)]=ho_ (hs++ [d]):=by simp[ho_]
theorem lf_ (hs:List Hd)(i:Nat)(h:i<hs.length):(ho_ hs)[i]? =some (.pointer (some ⟨hs[i].bh,0,none⟩)):=by simp[ho_,h]
structure Fw where
 wo:World
 cC:Value
 cH:Value
 fr:Nat->Option Obj
structure bj_ (W0:Fw)(w:World)(bw:Nat)(vts:Value)(hs:List Hd):Prop where
 cz:Below bw W0.wo w
 cg:w.heap[bw]? =some (.cells #[vts,W0.cC,W0.cH] 31 (0,0))
 own:w.ownsRow (bw+1) 36 1 vts hs.length (ho_ hs)
 dJ:∀d∈hs,ef_ w d
 lo:∀d∈hs,bw+1<=d.lo
 ord:hs.Pairwise (fun a b=>a.hi<=b.lo)
 eP:∀g,vts.ownBlock=some g->∀d∈hs,g<d.lo\/d.hi<=g
 eK:∀k o,W0.fr k=some o->w.heap[k]? =some o/\bw<k/\vts.ownBlock≠some k/\∀d∈hs,k<d.lo\/d.hi<=k
theorem bj_.below {W0:Fw}{hs:List Hd}(h:bj_ W0 w bw vts hs)(hb:Bl w w'):bj_ W0 w' bw vts hs:=
 ⟨h.cz.trans (hb.mono (by have:=κ h.cg;omega)),by rw[hb.block _ (κ h.cg)];exact h.cg,ao_ h.own hb,fun d hd=>(h.dJ d hd).below hb,h.lo,h.ord,h.eP,fun k o hk=>by
  obtain⟨f1,f2,f3,f4⟩:=h.eK k o hk;exact⟨by rw[hb.block _ (κ f1)];exact f1,f2,f3,f4⟩⟩
theorem ev_ (h:w.heap[b]? =some (.cells #[x,y,z] t (0,0))):w.cell? ⟨b,0,none⟩=some x/\w.cell? ⟨b,1,none⟩=some y/\w.cell? ⟨b,2,none⟩=some z/\w.frozen? ⟨b,0,none⟩=false:=by
 simp[World.cell?,World.frozen?,h]
theorem alr_ {u:Value}(h:w.heap[b]? =some (.cells #[x,y,z] t (0,0))):(w.setCell ⟨b,0,none⟩ u).heap[b]? =some (.cells #[u,y,z] t (0,0)):=by
 simp[World.setCell,Array.getElem?_modify,h]
theorem bj_.add {W0:Fw}{w2:World}{hs:List Hd}(h:bj_ W0 w bw vts hs)(hB:Bl w w1){d:Hd}(hd:ef_ w1 d)(hl:w.heap.size<=d.lo){g cap:Nat}
 (hown:w2.ownsRow (bw+1) 36 1 (.slice (some ⟨g,0,none⟩) (hs.length+1) cap) (hs.length+1) (ho_ hs++ [.pointer (some ⟨d.bh,0,none⟩)])) {o:Obj} (hg:(w1.alloc o).grownBy w2 vts.ownBlock) (hf:vts.ownBlock=some g\/g=(w1.alloc o).heap.size):
 w2.heap[bw]? =some (.cells #[vts,W0.cC,W0.cH] 31 (0,0))/\bj_ W0 (w2.setCell ⟨bw,0,none⟩ (.slice (some ⟨g,0,none⟩) (hs.length+1) cap)) bw (.slice (some ⟨g,0,none⟩) (hs.length+1) cap) (hs++ [d]):=by
 have f:=(h.below hB).below ((Below.refl w1.heap.size w1).alloc ι o);have z:=hd.below ((Below.refl w1.heap.size w1).alloc ι o);have B:=κ f.cg;have t:=fun x e=>f.own.lt x e
 have u:=hg.size;have D:=κ h.cg;have r:w2.heap[bw]? =some (.cells #[vts,W0.cC,W0.cH] 31 (0,0)):=by
  rw[hg.block _ B (fun e=>by have:=(t _ e.symm).1;omega)];exact f.cg
 have m:∀k:Nat,bw<k->k<(w1.alloc o).heap.size->vts.ownBlock≠some k->(w2.setCell ⟨bw,0,none⟩ (.slice (some ⟨g,0,none⟩) (hs.length+1) cap)).heap[k]? =(w1.alloc o).heap[k]? :=by
  intro k s l A;rw[Below.heap_setCell _ _ _ k s_,hg.block k l (fun e=>A e.symm)]
 have E:w.heap.size<=w1.heap.size:=hB.size;have n:∀e∈hs,e.hi<=w.heap.size:=fun e c=>(h.dJ e c).cQ
 have v:∀x,vts.ownBlock=some x->x<w.heap.size:=fun x e=>(h.own.lt x e).2
 refine⟨r,(f.cz.grown hg o_ (fun x e=>by have:=(t x e).1;omega)).setCell (p:=⟨bw,0,none⟩) ι _,alr_ r, ?_, ?_, ?_, ?_, ?_, ?_⟩
 . rw[alq_]at hown;simp only[Μ,ls_];exact ownsRow_setCell_below hown i_ _
 . intro e c;simp only[mp_,mem_singleton]at c;rcases c with c|rfl
   . refine(f.dJ e c).cZ (fun k s l=>m k ?_ ?_ ?_) (by simpa using u)
     . have:=h.lo e c;omega
     . have:=n e c;simp;omega
     . intro i;rcases h.eP k i e c with hh|hh<;>omega
   . refine z.cZ (fun k s l=>m k ?_ ?_ ?_) (by simpa using u)
     . omega
     . have:=hd.cQ;simp;omega
     . intro i;have:=v k i;omega
 . intro e c;simp only[mp_,mem_singleton]at c;rcases c with c|rfl
   . exact h.lo e c
   . omega
 . rw[pairwise_append];refine⟨h.ord,i_,fun a ha b hb=> ?_⟩;simp only[mem_singleton]at hb;subst hb;have:=n a ha;omega
 . intro x y e c;simp only[Value.ownBlock,Δ]at y;subst y;simp only[mp_,mem_singleton]at c;rcases hf with hf|hf
   . rcases c with c|rfl
     . exact h.eP _ hf e c
     . left;have:=v _ hf;omega
   . right;rw[hf];rcases c with c|rfl
     . have:=n e c;simp;omega
     . have:=hd.cQ;simp;omega
 . intro k q j;obtain⟨f1,f2,f3,f4⟩:=h.eK k q j;have C:=κ f1;refine⟨?_,f2, ?_, ?_⟩
   . rw[m k f2 s_ f3];exact(f.eK k q j).1
   . simp only[Value.ownBlock,ne_eq,Δ];rcases hf with hf|hf
     . intro e;exact f3 (by rw[hf,e])
     . intro e;have:k<(w1.alloc o).heap.size:=κ (f.eK k q j).1;omega
   . intro e c;simp only[mp_,mem_singleton]at c;rcases c with c|rfl
     . exact f4 e c
     . left;omega
theorem bj_.put {W0:Fw}{hs:List Hd}(h:bj_ W0 w bw vts hs){i:Nat}(hi:i<hs.length)(hd:ef_ w1 {hs[i]with A:=A,X:=X})(ht:ε (fun b=>hs[i].lo<=b/\b<hs[i].hi) w w1):
 bj_ W0 w1 bw vts (hs.set i {hs[i]with A:=A,X:=X}):=by
 have p:hs[i]∈hs:=getElem_mem hi;have F:=h.lo _ p;have G:=κ h.cg;have q:∀e∈hs.set i {hs[i]with A:=A,X:=X},∃c∈hs,e.lo=c.lo/\e.hi=c.hi:=by
  intro e f;rcases mem_or_eq_of_mem_set f with f|rfl
  . exact⟨e,f,rfl,rfl⟩
  . exact⟨hs[i],p,rfl,rfl⟩
 refine⟨ht.below h.cz o_ (fun k t=>o_),ht.heap h.cg o_, ?_, ?_, ?_, ?_, ?_, ?_⟩
 . have E:ho_ (hs.set i {hs[i]with A:=A,X:=X})=ho_ hs:=by
    apply ext_getElem?;intro j;by_cases m:j<hs.length
    . rw[lf_ hs j m,lf_ _ j (by simpa using m)];by_cases e:j=i
      . subst e;simp
      . rw[getElem_set_ne (fun c=>e c.symm)]
    . rw[getElem?_eq_none (by simp[ho_];omega),getElem?_eq_none (by simp[ho_];omega)]
   rw[E,length_set];refine ht.own h.own (fun g e hc=> ?_);rcases h.eP g e _ p with hh|hh<;>omega
 . intro e f;obtain⟨j,m,rfl⟩:=getElem_of_mem f;have n:j<hs.length:=by simpa using m
   by_cases e:i=j
   . subst e;rw[getElem_set_self];exact hd
   . rw[getElem_set_ne e];refine(h.dJ _ (getElem_mem n)).cZ (fun k hk1 hk2=>ht.block k (Nat.lt_of_lt_of_le hk2 (h.dJ _ (getElem_mem n)).cQ) (fun hc=> ?_)) ht.size;rcases Nat.lt_or_gt_of_ne e with hij|hij
     . have:=pairwise_iff_getElem.1 h.ord i j hi n hij;omega
     . have:=pairwise_iff_getElem.1 h.ord j i n hi hij;omega
 . intro e f;obtain⟨c,l,r,s⟩:=q e f;have:=h.lo c l;omega
 . rw[pairwise_iff_getElem];intro a b x B z;have y:a<hs.length:=by simpa using x
   have C:b<hs.length:=by simpa using B
   have:=pairwise_iff_getElem.1 h.ord a b y C z;have u:(hs.set i {hs[i]with A:=A,X:=X})[a].hi=hs[a].hi:=by
    by_cases e:i=a
    . subst e;rw[getElem_set_self]
    . rw[getElem_set_ne e]
   have v:(hs.set i {hs[i]with A:=A,X:=X})[b].lo=hs[b].lo:=by
    by_cases e:i=b
    . subst e;rw[getElem_set_self]
    . rw[getElem_set_ne e]
   rw[u,v];exact this
 . intro g e d D;obtain⟨c,l,r,s⟩:=q d D;have:=h.eP g e c l;omega
 . intro k o t;obtain⟨f1,f2,f3,f4⟩:=h.eK k o t;refine⟨ht.heap f1 (fun hc=> ?_),f2,f3, ?_⟩
   . have:=f4 _ p;omega
   . intro e f;obtain⟨c,l,r,s⟩:=q e f;have:=f4 c l;omega
def hp_ (W0:Fw)(bw n:Nat)(e:Ending)(w':World):Prop:=e= .returned (.bool true)/\∃vts' hs',bj_ W0 w' bw vts' hs'/\hs'.length<=n+1
theorem z4_:(prog.info? 36).map (fun i=>(i.zero,i.size,i.bytes))=some (some (.pointer none),1,8):=k_
theorem als_ (W0:Fw)(w:World)(bw:Nat)(vts:Value)(hs:List Hd)(h:bj_ W0 w bw vts hs)(a b c d:Int)(s:ByteArray)(lo:Option Addr)(ll lc:Nat)(z:Nat->Int)(hL:kb_ w lo ll z)(hn:hs.length<=4398046511104):
 Calls prog 12 #[.pointer (some ⟨bw,0,none⟩),.agg #[.int .i64 1,.int .i64 a,.int .i64 b,.int .i64 c,.int .i64 d,.string s,.slice lo ll lc]] w (hp_ W0 bw hs.length):=by
 obtain⟨i0,I,M,N,O⟩:=info_parts z4_;obtain⟨W,v,n,Y,y⟩:=ν w #[.int .i64 1,.int .i64 a,.int .i64 b,.int .i64 c,.int .i64 d,.string s,.slice lo ll lc] 33;have o:=ajp_ lo ll lc z b W (hL.below n);obtain⟨T,_,U,_,_,_,V⟩:=bo_ y;go_enter func12,ntmps12;go_upto_region 1 with fail;rw[<-v];clear v;go_wp2_with fail;refine o.mono ?_;rintro e S ⟨l,t,A,X,rfl,u,P,Q,R,B⟩;have ab:=l.size;have p:=yl_ t A X W.heap.size S u P Q R B;clear o T U V;go_wp2_with fail;refine p.mono ?_;rintro e m ⟨r,j,rfl,C,_,_,_,aa,_⟩;have q:Bl w m:=(n.trans (l.mono o_)).trans (r.mono o_);have k:=h.below q;obtain⟨y0,y1,y2,y3⟩:=ev_ k.cg;have Z:=κ k.cg;have J:=(k.below (μ.alloc ι (.cells #[.pointer (some ⟨j.bh,0,none⟩)] 36))).own;have x:∀(g i:Nat) (f:World),f.ownsRow (bw+1) 36 1 (.slice (some ⟨g,0,none⟩) (hs.length+1) i) (hs.length+1) (ho_ hs++ [.pointer (some ⟨j.bh,0,none⟩)])->(m.alloc (.cells #[.pointer (some ⟨j.bh,0,none⟩)] 36)).grownBy f vts.ownBlock->(vts.ownBlock=some g\/g=(m.alloc (.cells #[.pointer (some ⟨j.bh,0,none⟩)] 36)).heap.size)->
  f.heap[bw]? =some (.cells #[vts,W0.cC,W0.cH] 31 (0,0))/\Hid (bj_ W0 (f.setCell ⟨bw,0,none⟩ (.slice (some ⟨g,0,none⟩) (hs.length+1) i)) bw (.slice (some ⟨g,0,none⟩) (hs.length+1) i) (hs++ [j])):=by
  intro g i f K G D;exact h.add q C o_ K G D
 clear p l r u hL;go_wp2_with (at_builtin;refine Υ underlying27 I M N O J ?_;intro g i f L H E;obtain⟨f0,F⟩:=x g i f L H E;obtain⟨f1,f2,f3,f4⟩:=ev_ f0);go_ret;exact⟨rfl,_,_,F.out,i_⟩
theorem alt_ (W0:Fw)(w:World)(bw:Nat)(vts:Value)(hs:List Hd)(h:bj_ W0 w bw vts hs)(a b c d:Int)(s:ByteArray)(lo:Option Addr)(ll lc:Nat)(hn:hs.length<=4398046511104)
 (ha:I64 a) (hb:I64 b) (hc:I64 c):
 Calls prog 12 #[.pointer (some ⟨bw,0,none⟩),.agg #[.int .i64 2,.int .i64 a,.int .i64 b,.int .i64 c,.int .i64 d,.string s,.slice lo ll lc]] w (hp_ W0 bw hs.length):=by
 obtain⟨W,B,G,Z,J⟩:=ν w #[.int .i64 2,.int .i64 a,.int .i64 b,.int .i64 c,.int .i64 d,.string s,.slice lo ll lc] 33;have q:=h.below G;obtain⟨x0,S,T,U,V,_,_⟩:=bo_ J;obtain⟨E,y1,y2,y3⟩:=ev_ q.cg;obtain⟨Y,z,rfl,C⟩:=Β q.own;go_enter func12,ntmps12;go_upto_region 1 with fail;rw[<-B];clear B;by_cases K:hs.length=0
 . rw[K]at E;have j:Hid _:=q;go_wp2_with fail;go_ret;exact⟨rfl,_,_,j.out,o_⟩
 . obtain⟨p,rfl,D⟩:=C o_;obtain⟨i,v⟩:=δ (f2_ a hs.length);have l:i<hs.length:=by rw[<-v.out];exact jo_ _ _ o_
   have u:=jp_ a hs.length W.drew o_ o_ ha.1 ha.2;rw[tn_,v.out]at u;have F:=(D i o_).trans (lf_ hs i l);have y:=aia_ hs[i] b c d W.drew ((q.dJ _ (getElem_mem l)).below (μ.drew)) hb.1 hb.2 hc.1 hc.2;have j:Hid (bj_ W0 W.drew bw (.slice (some ⟨p,0,none⟩) hs.length z) hs):=q.below (μ.drew);have M:=j.out.lo _ (getElem_mem l);have N:=(j.out.dJ _ (getElem_mem l)).cQ;have O:=j.out.eP p rfl _ (getElem_mem l);have P:hs[i].hi<=w.heap.size:=(h.dJ _ (getElem_mem l)).cQ;have Q:=(j.out.own.lt p rfl).2;have R:=κ j.out.cg;obtain⟨n,t⟩:∃x,Hid (hs[i]=x):=⟨hs[i],by unfold Hid;rfl⟩;rw[t.out]at F y M N O P;have m:∀(f:World) (k o:Nat),ε (fun b=>n.lo<=b/\b<n.hi) W.drew f->k<W.heap.size->¬(n.lo<=k/\k<n.hi)->f.cell? ⟨k,o,none⟩=W.cell? ⟨k,o,none⟩:=fun f k o ht hk hne=>World.cell?_of_block (a:=⟨k,o,none⟩) (ht.block k hk hne)
   have aa:(0:Int)<(hs.length:Int):=o_;have ab:(i:Int)<(hs.length:Int):=o_;clear q h D C;go_upto_region 8 with fail;go_region_held3 (fun f=>f.cell? ⟨bw,0,none⟩=some (.slice (some ⟨p,0,none⟩) hs.length z)/\f.cell? ⟨w.heap.size,1,none⟩=some (.int .i64 a)/\f.cell? ⟨w.heap.size,2,none⟩=some (.int .i64 b)/\f.cell? ⟨w.heap.size,3,none⟩=some (.int .i64 c)/\f.cell? ⟨w.heap.size,4,none⟩=some (.int .i64 d)/\f.cell? ⟨p,i,none⟩=some (.pointer (some ⟨n.bh,0,none⟩))) (go_keep)
    ((first
     |(go_at_call 16;refine u.mono ?_;rintro e f ⟨rfl,L⟩;obtain rfl:W.drew=f:=L.symm)
     |(go_at_call 17;refine y.mono ?_;rintro e f ⟨rfl,A,X,r,g⟩;have u0:=(m f bw 0 g (by simpa using R) o_).trans E;have u1:=(m f w.heap.size 1 g o_ o_).trans S;have u2:=(m f w.heap.size 2 g o_ o_).trans T;have u3:=(m f w.heap.size 3 g o_ o_).trans U;have u4:=(m f w.heap.size 4 g o_ o_).trans V;have u5:=(m f p i g (by simpa using Q) o_).trans F;have H:Hid (ef_ f {n with A:=A,X:=X}):=r;have I:=α g;clear r g)))
   all_goals go_wp2_with fail
   all_goals go_ret
   all_goals
    have r:=H.out;have g:=I.out;rw[<-t.out]at r g;exact⟨rfl,_,_,j.out.put l r g,i_⟩
structure nz_ (w:World)(ao:Option Addr)(len:Nat)(kd fa fb fc fd:Nat->Int)(st:Nat->ByteArray)(lo:Nat->Option Addr)(ll lc:Nat->Nat)(z:Nat->Nat->Int):Prop where
 ln:len<=4398046511104
 cT:∀i,i<len->∃b o,ao=some ⟨b,o,none⟩/\w.cell? ⟨b,o+i*7,none⟩=some (.int .i64 (kd i))/\w.cell? ⟨b,o+i*7+1,none⟩=some (.int .i64 (fa i))/\w.cell? ⟨b,o+i*7+2,none⟩=some (.int .i64 (fb i))/\w.cell? ⟨b,o+i*7+3,none⟩=some (.int .i64 (fc i))/\
  w.cell? ⟨b,o+i*7+4,none⟩=some (.int .i64 (fd i))/\w.cell? ⟨b,o+i*7+5,none⟩=some (.string (st i))/\w.cell? ⟨b,o+i*7+6,none⟩=some (.slice (lo i) (ll i) (lc i))
 ra:∀i,i<len-> -9223372036854775808<=fa i/\fa i<=9223372036854775807
 rb:∀i,i<len-> -9223372036854775808<=fb i/\fb i<=9223372036854775807
 rc:∀i,i<len-> -9223372036854775808<=fc i/\fc i<=9223372036854775807
 str:∀i,i<len->(st i).size<=maxLen
 fh:∀i,i<len->kb_ w (lo i) (ll i) (z i)
theorem nz_.below {ao:Option Addr}{len:Nat}{kd fa fb fc fd:Nat->Int}{st:Nat->ByteArray}{lo:Nat->Option Addr}{ll lc:Nat->Nat}{z:Nat->Nat->Int}(h:nz_ w ao len kd fa fb fc fd st lo ll lc z)(hb:Bl w w'):nz_ w' ao len kd fa fb fc fd st lo ll lc z:=
 ⟨h.ln,fun i hi=>by
  obtain⟨b,o,e,c0,c1,c2,c3,c4,c5,c6⟩:=h.cT i hi;have hk:=fun x=>(bc_ hb).1 b x (Χ c0)
  exact⟨b,o,e,by rw[hk];exact c0,by rw[hk];exact c1,by rw[hk];exact c2,by rw[hk];exact c3,by rw[hk];exact c4,by rw[hk];exact c5,by rw[hk];exact c6⟩,h.ra,h.rb,h.rc,h.str,fun i hi=>(h.fh i hi).below hb⟩
def inB (k:Int)(ks:Nat->Int):Nat->Bool
 |0=>(k==1)||(k==2)
 |j+1=>inB k ks j||(k==ks j)
theorem alu_ (k:Int)(ks:Nat->Int)(n:Nat):inB k ks n=true↔k=1\/k=2\/∃j,j<n/\k=ks j:=by
 induction n with
 |zero=>simp[inB]
 |succ n ih=>
  simp only[inB,Bool.or_eq_true,ih,beq_iff_eq];constructor
  . rintro((h|h|⟨j,a,h⟩)|h)
    . exact .inl h
    . exact .inr (.inl h)
    . exact .inr (.inr ⟨j,o_,h⟩)
    . exact .inr (.inr ⟨n,o_,h⟩)
  . rintro(h|h|⟨j,a,h⟩)
    . exact .inl (.inl h)
    . exact .inl (.inr (.inl h))
    . by_cases e:j=n
      . subst e;exact .inr h
      . exact .inl (.inr (.inr ⟨j,o_,h⟩))
def ρ.tl (V:ρ)(n:Nat):TL:=⟨V.ba,n,n,V.bn,n,n,V.rb,fun _=>8,fun _=>8⟩
theorem s8_ {t n:Nat}{f:Nat->Value}(hs:∃c,w.heap[b]? =some (.cells c t (0,0))/\n<=c.size)(hc:∀i,i<n->w.cell? ⟨b,i,none⟩=some (f i)):χ w b t n f:=by
 obtain⟨c,a,d⟩:=hs;refine⟨c,a,d,fun i hi=> ?_⟩;have:=hc i hi;rw[cell_of_row w b i c t (0,0) a]at this;exact this
theorem alv_ {V:ρ}{R:γ}(hT:π w V R)(hF:h6_ w V R.n)(h1:1<=R.n)(h2:R.n<=40):fh_ w (V.tl R.n) R.acc (fun i c=>(R.b7 i c:Int)) where
 na:=ι
 ca:=by show R.n<=_;omega
 eh:=h1
 nn:=ι
 cn:=by show R.n<=_;omega
 et:=h1
 rl i _:=ι
 rc i _:=by show 8<=1000000;omega
 acc:=s8_ hF.sa (fun i hi=>by have:=hT.acc i hi;rw[hF.oa,Nat.zero_add]at this;exact this)
 b7:=s8_ hF.sn (fun i hi=>by
  have:=hT.row i hi;rw[hF.on,Nat.zero_add,(hF.ro i hi).1,(hF.ro i hi).2]at this;exact this)
 row i hi _:=s8_ (hF.sr i hi) (fun c hc=>by have:=hT.cT i c hi hc;rw[(hF.ro i hi).1,Nat.zero_add]at this;exact this)
theorem alw_ {V:ρ}{R:γ}(hT:π w V R)(h2:R.n<=40):az_ w ⟨some ⟨V.ba,V.oa,none⟩,some ⟨V.bn,V.on,none⟩,R.n,V.ca,R.n,V.cn,fun i=>some ⟨V.rb i,V.ro i,none⟩,fun _=>8,V.rc⟩ R.acc (fun i c=>(R.b7 i c:Int)) where
 la:=by show R.n<=_;omega
 ln:=by show R.n<=_;omega
 lr i _:=by show 8<=_;omega
 acc i hi:=⟨_,_,rfl,hT.acc i hi⟩
 row i hi:=⟨_,_,rfl,hT.row i hi⟩
 cT i c hi hc:=⟨_,_,rfl,hT.cT i c hi hc⟩
theorem az_.congr {r:aj_}{A':Nat->Bool}{X':Nat->Nat->Int}(h:az_ w r A X)(hA:∀i,i<r.na->A i=A' i)(hX:∀i c,i<r.nn->c<r.rl i->X i c=X' i c):az_ w r A' X' where
 la:=h.la
 ln:=h.ln
 lr:=h.lr
 acc i hi:=by obtain⟨b,o,e,a⟩:=h.acc i hi;exact⟨b,o,e,by rw[a,hA i hi]⟩
 row:=h.row
 cT i c hi a:=by obtain⟨b,o,e,d⟩:=h.cT i c hi a;exact⟨b,o,e,by rw[d,hX i c hi a]⟩
def a5_ (bw:Nat)(vts:Value)(w w':World):Prop:=∀k,k<w.heap.size->k≠bw->vts.ownBlock≠some k->w'.heap[k]? =w.heap[k]?
theorem a5_.cS (h:Bl w w'):a5_ bw vts w w':=fun k hk _ _=>h.block k hk
theorem a5_.from (h:Bl w w1)(h':a5_ bw vts w1 w'):a5_ bw vts w w':=fun k hk h1 h2=>(h' k (by have:=h.size;omega) h1 h2).trans (h.block k hk)
theorem alx_ (d:Nat)(hu:P.underlying t=some (.slice e))(w:World):Sem.run P (Op.equalIn (d+1) t (.slice none 0 0) (.slice none 0 0)) w= .ok true w:=by
 simp only[Op.equalIn,Sem.run_bind,run_underlying hu,Result.andThen_ok];rfl
theorem s9_ (hu:P.underlying t=some (.slice e))(w:World):Sem.run P (binOp .eql t (.slice none 0 0) (.slice none 0 0)) w= .ok (.bool true) w:=by
 have h:=alx_ 9999 hu w;show Sem.run P (do pure (Value.bool (<-Op.equalIn (9999+1) t (Value.slice none 0 0) (Value.slice none 0 0)))) w=_
 rw[Sem.run_bind,h];rfl
theorem kf_ (bw:Nat)(er:Int)(w:World)(he:er≠0):
 Calls prog 29 #[.pointer (some ⟨bw,0,none⟩),.agg #[.slice none 0 0,.slice none 0 0],.int .i64 er,.agg #[.slice none 0 0,.slice none 0 0],.int .i64 er] w
  fun e w'=>e= .returned (.bool true)/\Bl w w':=by
 have a:Bl w ((w.alloc (.cells #[.slice none 0 0,.slice none 0 0] 41)).alloc (.cells #[.slice none 0 0,.slice none 0 0] 41)):=ξ.alloc i_ _;have c:=s9_ underlying38 ((w.alloc (.cells #[.slice none 0 0,.slice none 0 0] 41)).alloc (.cells #[.slice none 0 0,.slice none 0 0] 41));have d:=s9_ underlying39 ((w.alloc (.cells #[.slice none 0 0,.slice none 0 0] 41)).alloc (.cells #[.slice none 0 0,.slice none 0 0] 41));have b:(er !=0)=true:=by simp[he]
 go_enter func29,ntmps29;go_wp2_with fail;go_ret;exact⟨rfl,a⟩
theorem n0_ (W0:Fw)(wa w:World)(bw:Nat)(vts:Value)(hs:List Hd)(h:bj_ W0 wa bw vts hs)(hB:Bl wa w)(hn:hs.length<=4398046511104)
 (V U:ρ) (R Q:γ) (L:List Nat->Bool) (hR:ch_ R L) (hQ:ch_ Q L) (hT:π w V R) (hFr:h6_ w V R.n) (hF:V.cP wa.heap.size R.n) (hU:π w U Q) (hR40:R.n<=40):
 Calls prog 29 #[.pointer (some ⟨bw,0,none⟩),.agg #[.slice (some ⟨V.ba,V.oa,none⟩) R.n V.ca,.slice (some ⟨V.bn,V.on,none⟩) R.n V.cn],.int .i64 0,.agg #[.slice (some ⟨U.ba,U.oa,none⟩) Q.n U.ca,.slice (some ⟨U.bn,U.on,none⟩) Q.n U.cn],.int .i64 0] w
  (fun e w'=>hp_ W0 bw hs.length e w'/\a5_ bw vts wa w'):=by
 have l:=qc_ hR hQ;have T:=hR.num.pos;rw[<-l.n];rw[show V.oa=0 from hFr.oa,show V.on=0 from hFr.on,show V.ca=R.n from hFr.ca,show V.cn=R.n from hFr.cn];obtain⟨i0,ac,ag,ah,ai⟩:=info_parts z4_;obtain⟨W,A,t,v,C⟩:=bl_ w #[.slice (some ⟨V.ba,0,none⟩) R.n R.n,.slice (some ⟨V.bn,0,none⟩) R.n R.n] 41 #[.slice (some ⟨U.ba,U.oa,none⟩) R.n U.ca,.slice (some ⟨U.bn,U.on,none⟩) R.n U.cn] 41;have aj:w.heap.size+1<W.heap.size:=by rw[A];simp
 have E:=alv_ hT hFr T hR40;have z:=E.below t;have H:=z.raw;have B:=((alw_ hU (by rw[<-l.n];exact hR40)).below t).congr (A':=R.acc) (X':=fun i c=>(R.b7 i c:Int)) (fun i hi=>(l.acc i (by rw[l.n];exact hi)).symm) (fun i c hi hc=>by
  have:=l.b7 i c (by rw[l.n];exact hi) hc;rw[this])
 rw[<-l.n]at B;have m:=aaw_ _ _ _ _ _ _ _ _ _ _ _ _ _ _ _ R.acc (fun i c=>(R.b7 i c:Int)) W H B;have ao:=hB.size;have X:=η hB t;obtain⟨I,J,_,_⟩:=β v;obtain⟨x2,x3,_,_⟩:=β C;have O:Hid _:=z;have u:Hid _:=hF;have M:=α hFr.inj;try simp only[ρ.tl]at m
 clear E z H B l hR hQ hT hU hFr hF;go_enter func29,ntmps29;go_upto_region 1 with fail;rw[<-A];clear A;go_wp2_with fail;refine m.mono ?_;clear m;rintro e w1 ⟨rfl,p⟩;have am:=p.size;have D:=(p.block _ o_).trans v;obtain⟨I,J,_,_⟩:=β D;have m:=yl_ (V.tl R.n) R.acc (fun i c=>(R.b7 i c:Int)) wa.heap.size w1 (O.out.below p) u.out.a u.out.b (fun j hj _=>u.out.r j hj) (fun i j hij hj _ _=>M.out i j hij hj);simp only[ρ.tl]at m;have Y:=η X p;clear x2 x3 v C D p;go_wp2_with fail;refine m.mono ?_;clear m;rintro e q ⟨y,o,rfl,S,_,_,_,al,_⟩;have an:=y.size;have s:=η Y y;have x:=h.below s;obtain⟨y0,y1,y2,y3⟩:=ev_ x.cg;have ak:=κ x.cg;have ae:=(x.below (μ.alloc ι (.cells #[.pointer (some ⟨o.bh,0,none⟩)] 36))).own;have N:∀(g f:Nat) (d:World),d.ownsRow (bw+1) 36 1 (.slice (some ⟨g,0,none⟩) (hs.length+1) f) (hs.length+1) (ho_ hs++ [.pointer (some ⟨o.bh,0,none⟩)])->(q.alloc (.cells #[.pointer (some ⟨o.bh,0,none⟩)] 36)).grownBy d vts.ownBlock->(vts.ownBlock=some g\/g=(q.alloc (.cells #[.pointer (some ⟨o.bh,0,none⟩)] 36)).heap.size)->
  d.heap[bw]? =some (.cells #[vts,W0.cC,W0.cH] 31 (0,0))/\Hid (bj_ W0 (d.setCell ⟨bw,0,none⟩ (.slice (some ⟨g,0,none⟩) (hs.length+1) f)) bw (.slice (some ⟨g,0,none⟩) (hs.length+1) f) (hs++ [o]))/\Hid (a5_ bw vts wa (d.setCell ⟨bw,0,none⟩ (.slice (some ⟨g,0,none⟩) (hs.length+1) f))):=by
  intro g f d ho G Z;obtain⟨k1,k2⟩:=h.add s S o_ ho G Z;refine⟨k1,k2,fun k hk hb hv=> ?_⟩;have ad:k<q.heap.size:=by have:=s.size;omega
  have P:(d.setCell ⟨bw,0,none⟩ (.slice (some ⟨g,0,none⟩) (hs.length+1) f)).heap[k]? =d.heap[k]? :=by simp[World.setCell,Array.getElem?_modify,Ne.symm hb]
  rw[P,G.block k s_ (fun e=>hv e.symm),<-s.block k hk];exact((Below.refl q.heap.size q).alloc ι _).block k ad
 clear y I J;go_wp2_with (at_builtin;refine Υ underlying27 ac ag ah ai ae ?_;intro g f d af ab aa;obtain⟨f0,F,K⟩:=N g f d af ab aa;obtain⟨f1,f2,f3,f4⟩:=ev_ f0);go_ret;exact⟨⟨rfl,_,_,F.out,i_⟩,K.out⟩
theorem aly_ {M:γ}(hnx:∀i c,i<M.n->c<8->M.b7 i c<M.n):∀(k:Nat) (ps:List Nat) (p:Nat),Κ (h2_ M) (crS M) ps p->p<=8*ps.length->8*M.n - p<=k->∃qs,Κ (h2_ M) (crS M) qs (8*qs.length):=by
 intro k;induction k with
 |zero=>
  intro ps p h g f;have:=h.fq;exact⟨ps,by rw[show 8*ps.length=p by omega];exact h⟩
 |succ k ih=>
  intro ps p h g f;by_cases d:p=8*ps.length
  . exact⟨ps,by rw[<-d];exact h⟩
  . have a:p/8<ps.length:=o_;by_cases b:crS M (ps.getD (p/8) 0) (p%8)∈ps
    . exact ih ps (p+1) (h.old a b) o_ o_
    . have e:=h.inr _ (fj_ ps (p/8) a);have j:=hnx (ps.getD (p/8) 0) (p%8) e.1 o_;exact ih _ (p+1) (h.new a b ⟨by have:=me_ M (M.b7 (ps.getD (p/8) 0) (p%8));show cr M _<M.n;omega,zt_ M _⟩) s_ o_
theorem alz_ {M:γ}(hM:M.Ok):∃R,ch_ R M.b6/\R.n<=M.n:=by
 have c:=hM.lo;have a:h2_ M 0:=⟨o_,by have:=me_ M 0;omega⟩;obtain⟨b,h⟩:=aly_ hM.nx (8*M.n) [0] 0 (Κ.start a) i_ o_;exact⟨hm_ M b,zu_ h,h.fq⟩
theorem al0_ {M:γ}(h:M.Ok):(l6_ M).Ok:=⟨h.lo,h.hi,h.nx⟩
theorem z5_ {N:γ}{k:Nat}{e:Ending}(hN:N.Ok)(h:d7_ N.b6 40 k w e w'):Bl w w'/\∃(R:γ) (V:ρ),ch_ R N.b6/\R.n<=40/\e= .returned (.tuple #[.agg #[.slice (some ⟨V.ba,V.oa,none⟩) R.n V.ca,.slice (some ⟨V.bn,V.on,none⟩) R.n V.cn],.int .i64 0])/\π w' V R/\V.cP w.heap.size R.n/\h6_ w' V R.n:=by
 rcases h with ⟨b,h|⟨_,_,h⟩⟩
 . exact⟨b,h⟩
 . obtain⟨R,a,c⟩:=alz_ hN;have:=h R a;have:=hN.hi;omega
theorem z6_ (W0:Fw)(w:World)(bw:Nat)(vts:Value)(hs:List Hd)(hw:bj_ W0 w bw vts hs)(hn:hs.length<=4398046511104)(kind a b c d:Int)(s:ByteArray)(lo:Option Addr)(ll lc:Nat)(t:TL)(A:Nat->Bool)(X:Nat->Nat->Int)(h:fh_ w t A X)(hk:kind=5\/kind=6):
 Calls prog 21 #[.pointer (some ⟨bw,0,none⟩),.agg #[.int .i64 kind,.int .i64 a,.int .i64 b,.int .i64 c,.int .i64 d,.string s,.slice lo ll lc],.agg #[.slice (some ⟨t.ba,0,none⟩) t.na t.ca,.slice (some ⟨t.bn,0,none⟩) t.nn t.cn]] w
  (fun e w'=>hp_ W0 bw hs.length e w'/\a5_ bw vts w w'):=by
 have G:=h.na;have g2:=h.ca;have g4:=h.nn;have g5:=h.cn;obtain⟨W,hW,BW,b0,b1⟩:=bl_ w #[.int .i64 kind,.int .i64 a,.int .i64 b,.int .i64 c,.int .i64 d,.string s,.slice lo ll lc] 33 #[.slice (some ⟨t.ba,0,none⟩) t.na t.ca,.slice (some ⟨t.bn,0,none⟩) t.nn t.cn] 41;have aC:w.heap.size+1<W.heap.size:=by rw[hW];simp
 have E:=(h.below BW).raw;have g:=lv_ _ _ _ _ _ _ _ _ _ A X W E o_ o_ (fun i hi=>by have:=h.rl i o_;have:=h.rc i o_;omega);have aB:∀i,i<t.nn->t.rl i<=9223372036854775807:=fun i hi=>by have:=h.rl i o_;have:=h.rc i o_;omega
 go_enter func21,ntmps21;go_wp2_with fail;rw[<-hW];clear hW;refine Calls.mono g ?_;clear g;rintro e w1 ⟨aa,ga,ax,gn,ay,rb,rc,rfl,hC⟩;have aD:=aa.size;have az:=E.below aa;have c0:=(aa.block _ o_).trans b0;have c1:=(aa.block _ o_).trans b1;rw[iv_,iv_];have hM:=hC.raw ax ay o_ o_ aB;clear b0 b1 hC;generalize (if t.na=0 then none else some (⟨ga,0,none⟩:Addr))=ma at hM ⊢;generalize (if t.nn=0 then none else some (⟨gn,0,none⟩:Addr))=mn at hM ⊢;generalize (if t.na=0 then 0 else ax)=mca at hM ⊢;generalize (if t.nn=0 then 0 else ay)=mcn at hM ⊢;go_upto_region 2 with fail;obtain⟨P,aA,ab,aE,c2⟩:=ν w1 #[.slice ma t.na mca,.slice mn t.nn mcn] 41;have d0:=(ab.block _ o_).trans c0;have d1:=(ab.block _ o_).trans c1;have I:=az.below ab;have H:=hM.below ab;have ac:Bl w P:=(BW.trans (aa.mono o_)).trans (ab.mono o_);rw[<-aA];clear aA c0 c1 aa ab E az hM BW h;have al:=hw.below ac;obtain⟨x0,_,_,_,_,x5,_⟩:=bo_ d0;obtain⟨y0,y1,_,_⟩:=β d1;obtain⟨J,K,_,_⟩:=β c2;rcases hk with rfl|rfl
 . cases f:Ο t.lay X
   . have v:=(g6_ (r:=⟨ma,mn,t.na,mca,t.nn,mcn,fun i=>if t.rl i=0 then none else some ⟨rb i,0,none⟩,t.rl,fun i=>if t.rl i=0 then 0 else rc i⟩) (r':=t.lay) (X:=X) rfl rfl rfl).trans f;have g:=abj_ t.lay A X P I f;simp only[TL.lay]at g;clear f;go_wp2_with fail;refine g.mono ?_;clear g;rintro e w3 ⟨rfl,o⟩;have aq:=o.size;go_upto_region 13 with fail;obtain⟨S,z,q,au,C⟩:=ν w3 #[.slice none 0 0,.slice none 0 0] 41;rw[<-z];clear z;have j:=η o q;have l:=ag7_ _ A X S (H.below j) v;simp only at l;obtain⟨J,K,_,_⟩:=β ((j.block _ o_).trans c2);clear v x0 x5 y0 y1 H I d0 d1 o q;go_wp2_with fail;refine l.mono ?_;clear l;rintro e w4 ⟨rfl,p⟩;have ar:=p.size;go_upto_region 14 with fail;obtain⟨T,B,u,av,D⟩:=ν w4 #[.slice none 0 0,.slice none 0 0] 41;rw[<-B];clear B;have k:=η p u;have x:=η j k;obtain⟨f0,f1,_,_⟩:=β ((k.block _ o_).trans C);obtain⟨Y,G,_,_⟩:=β D;have y:=kf_ bw 6 T d_;clear J K k j p u C D;go_wp2_with fail;refine y.mono ?_;clear y;rintro e F ⟨rfl,Z⟩;have M:Hid (bj_ W0 F bw vts hs):=al.below (x.trans (Z.mono o_));have O:Hid (a5_ bw vts w F):=a5_.from ac (a5_.cS (x.trans (Z.mono o_)))
     clear Z x f0 f1 Y G;go_wp2_with fail;go_ret;exact⟨⟨rfl,_,_,M.out,o_⟩,O.out⟩
   . have v:=(g6_ (r:=⟨ma,mn,t.na,mca,t.nn,mcn,fun i=>if t.rl i=0 then none else some ⟨rb i,0,none⟩,t.rl,fun i=>if t.rl i=0 then 0 else rc i⟩) (r':=t.lay) (X:=X) rfl rfl rfl).trans f;obtain⟨V,eV,hV⟩:=ex_ I f;have g:=aok_ V _ P (fd_ f) hV;rw[<-eV]at g;simp only[aj_.val,TL.lay]at g;have am:Hid _:=f;clear f eV hV;go_wp2_with fail;refine g.mono ?_;clear g;intro e w3 ak;have f:=am.out;obtain⟨o,R,m,E,an,rfl,ah,ae,af⟩:=z5_ (N:=(by_ t.lay A X)) (fd_ f) ak;clear f ak;have aq:=o.size;go_upto_region 13 with fail;obtain⟨S,z,q,au,C⟩:=ν w3 #[.slice (some ⟨m.ba,m.oa,none⟩) R.n m.ca,.slice (some ⟨m.bn,m.on,none⟩) R.n m.cn] 41;rw[<-z];clear z;have j:=η o q;obtain⟨V',ad,ai⟩:=ex_ (H.below j) v;have l:=ag6_ V' _ S (fd_ v) ai;rw[<-ad]at l;simp only[aj_.val]at l;obtain⟨J,K,_,_⟩:=β ((j.block _ o_).trans c2);clear v ad ai x0 x5 y0 y1 H I d0 d1 o;go_wp2_with fail;refine l.mono ?_;clear l;rintro e w4 ⟨p,U,Q,hQ,rfl,hU⟩;have ar:=p.size;go_upto_region 14 with fail;obtain⟨T,B,u,av,D⟩:=ν w4 #[.slice (some ⟨U.ba,U.oa,none⟩) Q.n U.ca,.slice (some ⟨U.bn,U.on,none⟩) Q.n U.cn] 41;rw[<-B];clear B;have k:=η p u;have x:=η j k;have L:=η q k;obtain⟨f0,f1,_,_⟩:=β ((k.block _ o_).trans C);obtain⟨Y,G,_,_⟩:=β D;have ag:ch_ Q (by_ t.lay A X).b6:=hQ;have y:=n0_ W0 P T bw vts hs al x hn m U R Q _ E ag (ah.below L) (af.below L) ae (hU.below u) an;clear J K k j L p u q C D hQ ag E ah ae af hU;go_wp2_with fail;refine y.mono ?_;clear y;rintro e F ⟨⟨rfl,aw,ap,aj,ao⟩,hK⟩;have M:Hid _:=aj;have O:Hid (a5_ bw vts w F):=a5_.from ac hK
     clear hK;clear aj f0 f1 Y G;go_wp2_with fail;go_ret;exact⟨⟨rfl,aw,ap,M.out,ao⟩,O.out⟩
 . cases f:Ο t.lay X
   . have v:=(g6_ (r:=⟨ma,mn,t.na,mca,t.nn,mcn,fun i=>if t.rl i=0 then none else some ⟨rb i,0,none⟩,t.rl,fun i=>if t.rl i=0 then 0 else rc i⟩) (r':=t.lay) (X:=X) rfl rfl rfl).trans f;have g:=abm_ t.lay A X P I f;simp only[TL.lay]at g;clear f;go_wp2_with fail;refine g.mono ?_;clear g;rintro e w3 ⟨rfl,o⟩;have aq:=o.size;go_upto_region 17 with fail;obtain⟨S,z,q,au,C⟩:=ν w3 #[.slice none 0 0,.slice none 0 0] 41;rw[<-z];clear z;have j:=η o q;have l:=ag8_ _ A X S (H.below j) v;simp only at l;obtain⟨J,K,_,_⟩:=β ((j.block _ o_).trans c2);clear v x0 x5 y0 y1 H I d0 d1 o q;go_wp2_with fail;refine l.mono ?_;clear l;rintro e w4 ⟨rfl,p⟩;have ar:=p.size;go_upto_region 18 with fail;obtain⟨T,B,u,av,D⟩:=ν w4 #[.slice none 0 0,.slice none 0 0] 41;rw[<-B];clear B;have k:=η p u;have x:=η j k;obtain⟨f0,f1,_,_⟩:=β ((k.block _ o_).trans C);obtain⟨Y,G,_,_⟩:=β D;have y:=kf_ bw 6 T d_;clear J K k j p u C D;go_wp2_with fail;refine y.mono ?_;clear y;rintro e F ⟨rfl,Z⟩;have M:Hid (bj_ W0 F bw vts hs):=al.below (x.trans (Z.mono o_));have O:Hid (a5_ bw vts w F):=a5_.from ac (a5_.cS (x.trans (Z.mono o_)))
     clear Z x f0 f1 Y G;go_wp2_with fail;go_ret;exact⟨⟨rfl,_,_,M.out,o_⟩,O.out⟩
   . have v:=(g6_ (r:=⟨ma,mn,t.na,mca,t.nn,mcn,fun i=>if t.rl i=0 then none else some ⟨rb i,0,none⟩,t.rl,fun i=>if t.rl i=0 then 0 else rc i⟩) (r':=t.lay) (X:=X) rfl rfl rfl).trans f;obtain⟨V,eV,hV⟩:=ex_ I f;have g:=aon_ V _ P (fd_ f) hV;rw[<-eV]at g;simp only[aj_.val,TL.lay]at g;have am:Hid _:=f;clear f eV hV;go_wp2_with fail;refine g.mono ?_;clear g;intro e w3 ak;have f:=am.out;obtain⟨o,R,m,E,an,rfl,ah,ae,af⟩:=z5_ (N:=(l6_ (by_ t.lay A X))) (al0_ (fd_ f)) ak;clear f ak;have aq:=o.size;go_upto_region 17 with fail;obtain⟨S,z,q,au,C⟩:=ν w3 #[.slice (some ⟨m.ba,m.oa,none⟩) R.n m.ca,.slice (some ⟨m.bn,m.on,none⟩) R.n m.cn] 41;rw[<-z];clear z;have j:=η o q;obtain⟨V',ad,ai⟩:=ex_ (H.below j) v;have l:=ag9_ V' _ S (fd_ v) ai;rw[<-ad]at l;simp only[aj_.val]at l;obtain⟨J,K,_,_⟩:=β ((j.block _ o_).trans c2);clear v ad ai x0 x5 y0 y1 H I d0 d1 o;go_wp2_with fail;refine l.mono ?_;clear l;rintro e w4 ⟨p,U,Q,hQ,rfl,hU⟩;have ar:=p.size;go_upto_region 18 with fail;obtain⟨T,B,u,av,D⟩:=ν w4 #[.slice (some ⟨U.ba,U.oa,none⟩) Q.n U.ca,.slice (some ⟨U.bn,U.on,none⟩) Q.n U.cn] 41;rw[<-B];clear B;have k:=η p u;have x:=η j k;have L:=η q k;obtain⟨f0,f1,_,_⟩:=β ((k.block _ o_).trans C);obtain⟨Y,G,_,_⟩:=β D;have ag:ch_ Q (l6_ (by_ t.lay A X)).b6:=hQ;have y:=n0_ W0 P T bw vts hs al x hn m U R Q _ E ag (ah.below L) (af.below L) ae (hU.below u) an;clear J K k j L p u q C D hQ ag E ah ae af hU;go_wp2_with fail;refine y.mono ?_;clear y;rintro e F ⟨⟨rfl,aw,ap,aj,ao⟩,hK⟩;have M:Hid _:=aj;have O:Hid (a5_ bw vts w F):=a5_.from ac hK
     clear hK;clear aj f0 f1 Y G;go_wp2_with fail;go_ret;exact⟨⟨rfl,aw,ap,M.out,ao⟩,O.out⟩
theorem z7_ (W0:Fw){V:World}{vt:Value}{hs:List Hd}(kind a b c d:Int)(s:ByteArray)(lo:Option Addr)(ll lc:Nat){t:TL}(hV:bj_ W0 V bw vt hs)(h:fh_ V t A X)(hsz:s.size<=maxLen)(hk:kind=3\/kind=4):
 Calls prog 21 #[.pointer (some ⟨bw,0,none⟩),.agg #[.int .i64 kind,.int .i64 a,.int .i64 b,.int .i64 c,.int .i64 d,.string s,.slice lo ll lc],.agg #[.slice (some ⟨t.ba,0,none⟩) t.na t.ca,.slice (some ⟨t.bn,0,none⟩) t.nn t.cn]] V (fun e w'=>hp_ W0 bw hs.length e w'/\a5_ bw vt V w'):=
 (aid_ bw kind a b c d s lo ll lc t A X V h hsz hk).mono (fun e w' hp=>⟨⟨hp.1,_,_,hV.below hp.2,o_⟩,a5_.cS hp.2⟩)
theorem n1_ (W0:Fw)(w:World)(bw:Nat)(vts:Value)(hs:List Hd)(h:bj_ W0 w bw vts hs)(k:Int)(hk:3<=k/\k<=7)(a b c d:Int)(s:ByteArray)(lo:Option Addr)(ll lc:Nat)(hn:hs.length<=4398046511104)
 (ha:I64 a)
 (HA:∀(V:World) (vt:Value) (t:TL) (A:Nat->Bool) (X:Nat->Nat->Int),bj_ W0 V bw vt hs->fh_ V t A X->0<hs.length->Calls prog 21 #[.pointer (some ⟨bw,0,none⟩),.agg #[.int .i64 k,.int .i64 a,.int .i64 b,.int .i64 c,.int .i64 d,.string s,.slice lo ll lc],.agg #[.slice (some ⟨t.ba,0,none⟩) t.na t.ca,.slice (some ⟨t.bn,0,none⟩) t.nn t.cn]] V (fun e w'=>hp_ W0 bw hs.length e w'/\a5_ bw vt V w')):
 Calls prog 12 #[.pointer (some ⟨bw,0,none⟩),.agg #[.int .i64 k,.int .i64 a,.int .i64 b,.int .i64 c,.int .i64 d,.string s,.slice lo ll lc]] w (hp_ W0 bw hs.length):=by
 obtain⟨W,C,y,T,r⟩:=ν w #[.int .i64 k,.int .i64 a,.int .i64 b,.int .i64 c,.int .i64 d,.string s,.slice lo ll lc] 33;have g:=h.below y;obtain⟨x0,x1,x2,x3,x4,x5,x6⟩:=bo_ r;obtain⟨Y,Z,y2,y3⟩:=ev_ g.cg;obtain⟨al,Q,rfl,D⟩:=Β g.own;have q1:(k==1)=false:=by rw[bq_];omega
 have q2:(k==2)=false:=by rw[bq_];omega
 have q8:(k==8)=false:=by rw[bq_];omega
 have q9:(k==9)=false:=by rw[bq_];omega
 have ac:(k==10)=false:=by rw[bq_];omega
 go_enter func12,ntmps12;go_upto_region 1 with fail;rw[<-C];clear C;by_cases R:hs.length=0
 . rw[R]at Y;have P:Hid _:=g;go_wp2_with fail;go_ret;exact⟨rfl,_,_,P.out,o_⟩
 . obtain⟨v,rfl,F⟩:=D o_;obtain⟨j,B⟩:=δ (f2_ a hs.length);have G:j<hs.length:=by rw[<-B.out];exact jo_ _ _ o_
   have n:=jp_ a hs.length W.drew o_ o_ ha.1 ha.2;rw[tn_,B.out]at n;have z0:=(F j o_).trans (lf_ hs j G);have o:=g.dJ _ (getElem_mem G);obtain⟨u,z⟩:∃x,Hid (hs[j]=x):=⟨hs[j],by unfold Hid;rfl⟩;rw[z.out]at z0 o;have p:=HA W.drew _ u.t u.A u.X (g.below (μ.drew)) (o.tl.below (μ.drew)) o_;obtain⟨u0,u1,_,_⟩:=jn_ o.cg;have ab:((hs.length:Int)==0)=false:=by rw[bq_];omega
   have aa:(j:Int)<(hs.length:Int):=o_;have l1:=κ h.cg;have l2:=(h.own.lt v rfl).2;have E:=r;have U:v≠w.heap.size:=o_;clear HA g h F D o r Z y2 y3 y z;have q:∀(w':World),a5_ bw (.slice (some ⟨v,0,none⟩) hs.length Q) W.drew w'->w'.heap[w.heap.size]? =some (.cells #[.int .i64 k,.int .i64 a,.int .i64 b,.int .i64 c,.int .i64 d,.string s,.slice lo ll lc] 33 (0,0)):=fun w' hk=>(hk w.heap.size T o_ (fun e=>U (by simpa [Value.ownBlock] using e))).trans E
   clear E;go_upto_region 20 with fail;refine wp_region_noPanic ?_;refine wp_region_held_drew (S:=(fun w'=>w'.cell? ⟨w.heap.size,0,none⟩=some (.int .i64 k)/\w'.cell? ⟨w.heap.size,1,none⟩=some (.int .i64 a)/\w'.cell? ⟨w.heap.size,2,none⟩=some (.int .i64 b)/\w'.cell? ⟨w.heap.size,3,none⟩=some (.int .i64 c)/\w'.cell? ⟨w.heap.size,4,none⟩=some (.int .i64 d)/\w'.cell? ⟨w.heap.size,5,none⟩=some (.string s)/\w'.cell? ⟨w.heap.size,6,none⟩=some (.slice lo ll lc))) k_ ?_ (fun hHeld0=> ?_)
   . (try dsimp only);go_keep
   refine Ξ (i:=0) ?_;refine Ξ (i:=1) ?_;refine Ξ (i:=2) ?_;refine Ξ (i:=3) ?_;refine Ξ (i:=4) ?_;refine Ξ (i:=6) ?_;refine Ξ (i:=7) ?_;refine Ξ (i:=8) ?_;refine Ξ (i:=9) ?_;refine Ξ (i:=10) ?_;refine wpAnyH_ready (rs:=[5,11]) k_ i_ ?_;refine AllReadyH.cons g_ (fun K hK=> ?_) ?_
   . go_simp;refine hk_ hK (fun hHeld1=> ?_);clear hK K hHeld0;refine wr_ (i:=11) (fun K hK=> ?_);go_simp;refine hk_ hK (fun hHeld2=> ?_);clear hK K hHeld1;refine Ξ (i:=12) ?_;refine wr_ (i:=13) (fun K hK=> ?_);go_simp;refine n.mono ?_;rintro e w' ⟨rfl,m⟩;obtain rfl:W.drew=w':=m.symm;try dsimp only
     refine hk_ hK (fun hHeld3=> ?_);clear hK K hHeld2;refine Ξ (i:=14) ?_;refine wr_ (i:=15) (fun K hK=> ?_);go_simp;refine hk_ hK (fun hHeld4=> ?_);clear hK K hHeld3;refine Ξ (i:=16) ?_;refine Ξ (i:=17) ?_;refine wr_ (i:=18) (fun K hK=> ?_);go_simp;refine hk_ hK (fun hHeld5=> ?_);clear hK K hHeld4;refine wr_ (i:=19) (fun K hK=> ?_);go_simp;refine p.mono ?_;rintro e w' ⟨⟨rfl,f⟩,hKp⟩;obtain⟨H,I,J,L,M,N,O⟩:=bo_ (q w' hKp);have l:Hid _:=f;clear f hKp;try dsimp only
     refine hk_ hK (fun hHeld6=> ?_);clear hK K hHeld5;refine Ξ (i:=20) ?_;refine wpAnyH_done k_ ?_ _;refine NoPanic.normal ?_;go_wp2_with fail;go_ret;exact⟨rfl,l.out⟩
   refine AllReadyH.cons g_ (fun K hK=> ?_) ?_
   . go_simp;refine hk_ hK (fun hHeld7=> ?_);clear hK K hHeld0;refine Ξ (i:=12) ?_;refine wpAnyH_ready (rs:=[5,13]) k_ i_ ?_;refine AllReadyH.cons g_ (fun K hK=> ?_) ?_
     . go_simp;refine hk_ hK (fun hHeld8=> ?_);clear hK K hHeld7;refine wr_ (i:=13) (fun K hK=> ?_);go_simp;refine n.mono ?_;rintro e w' ⟨rfl,m⟩;obtain rfl:W.drew=w':=m.symm;try dsimp only
       refine hk_ hK (fun hHeld9=> ?_);clear hK K hHeld8;refine Ξ (i:=14) ?_;refine wr_ (i:=15) (fun K hK=> ?_);go_simp;refine hk_ hK (fun hHeld10=> ?_);clear hK K hHeld9;refine Ξ (i:=16) ?_;refine Ξ (i:=17) ?_;refine wr_ (i:=18) (fun K hK=> ?_);go_simp;refine hk_ hK (fun hHeld11=> ?_);clear hK K hHeld10;refine wr_ (i:=19) (fun K hK=> ?_);go_simp;refine p.mono ?_;rintro e w' ⟨⟨rfl,f⟩,hKp⟩;obtain⟨H,I,J,L,M,N,O⟩:=bo_ (q w' hKp);have l:Hid _:=f;clear f hKp;try dsimp only
       refine hk_ hK (fun hHeld12=> ?_);clear hK K hHeld11;refine Ξ (i:=20) ?_;refine wpAnyH_done k_ ?_ _;refine NoPanic.normal ?_;go_wp2_with fail;go_ret;exact⟨rfl,l.out⟩
     refine AllReadyH.cons g_ (fun K hK=> ?_) ?_
     . go_simp;refine n.mono ?_;rintro e w' ⟨rfl,m⟩;obtain rfl:W.drew=w':=m.symm;try dsimp only
       refine hk_ hK (fun hHeld13=> ?_);clear hK K hHeld7;refine wr_ (i:=5) (fun K hK=> ?_);go_simp;refine hk_ hK (fun hHeld14=> ?_);clear hK K hHeld13;refine Ξ (i:=14) ?_;refine wr_ (i:=15) (fun K hK=> ?_);go_simp;refine hk_ hK (fun hHeld15=> ?_);clear hK K hHeld14;refine Ξ (i:=16) ?_;refine Ξ (i:=17) ?_;refine wr_ (i:=18) (fun K hK=> ?_);go_simp;refine hk_ hK (fun hHeld16=> ?_);clear hK K hHeld15;refine wr_ (i:=19) (fun K hK=> ?_);go_simp;refine p.mono ?_;rintro e w' ⟨⟨rfl,f⟩,hKp⟩;obtain⟨H,I,J,L,M,N,O⟩:=bo_ (q w' hKp);have l:Hid _:=f;clear f hKp;try dsimp only
       refine hk_ hK (fun hHeld17=> ?_);clear hK K hHeld16;refine Ξ (i:=20) ?_;refine wpAnyH_done k_ ?_ _;refine NoPanic.normal ?_;go_wp2_with fail;go_ret;exact⟨rfl,l.out⟩
     exact AllReadyH.nil
   exact AllReadyH.nil
end Go.Proofs.YtpngikmcjkjdaaaGreatDoor
