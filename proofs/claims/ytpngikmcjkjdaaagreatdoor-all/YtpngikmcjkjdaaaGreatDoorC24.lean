import Derived.Deep.RegionWith
import Derived.Test.YtpngikmcjkjdaaaGreatDoorC10
import Derived.Test.YtpngikmcjkjdaaaGreatDoorC17
set_option linter.unusedVariables false
set_option linter.unusedSimpArgs false
set_option maxRecDepth 20000
set_option maxHeartbeats 80000000
namespace Go.Proofs.YtpngikmcjkjdaaaGreatDoor
open Go.RowKit Tryz List Nat
variable {b ga gn i na nn:Nat} {A:Nat->Bool} {rb rc rl:Nat->Nat} {X:Nat->Nat->Int} {t:TypeId} {w w':World}
theorem iv_ (b n c:Nat):b2_ b n c= .slice (if n=0 then none else some ⟨b,0,none⟩) n (if n=0 then 0 else c):=by
 unfold b2_;by_cases h:n=0
 . simp[h]
 . simp[h]
theorem ah7_ (rb rl rc:Nat->Nat)(i:Nat):bn_ rb rl rc i= .slice (if rl i=0 then none else some ⟨rb i,0,none⟩) (rl i) (if rl i=0 then 0 else rc i):=by
 unfold bn_;by_cases h:rl i=0
 . simp[h]
 . simp[h]
theorem p3_ {ca cn:Nat}(ao no:Option Addr)(ha:0<na->ao=some ⟨ga,0,none⟩/\χ w ga 4 na (fun i=> .bool (A i)))(hn:0<nn->no=some ⟨gn,0,none⟩/\χ w gn 24 nn (bn_ rb rl rc))
 (hr:∀j,j<nn->0<rl j->χ w (rb j) 3 (rl j) (fun c=> .int .i64 (X j c))) (b1:na<=9223372036854775807) (b2:nn<=9223372036854775807) (b3:∀i,i<nn->rl i<=9223372036854775807):
 az_ w ⟨ao,no,na,ca,nn,cn,fun i=>if rl i=0 then none else some ⟨rb i,0,none⟩,rl,fun i=>if rl i=0 then 0 else rc i⟩ A X where
 la:=b1
 ln:=b2
 lr:=b3
 acc i hi:=⟨ga,0,(ha (zero_lt_of_lt hi)).1,by rw[Nat.zero_add];exact(ha (zero_lt_of_lt hi)).2.cell hi⟩
 row i hi:=⟨gn,0,(hn (zero_lt_of_lt hi)).1,by rw[Nat.zero_add,(hn (zero_lt_of_lt hi)).2.cell hi,ah7_]⟩
 cT i c hi hc:=by
  have a:0<rl i:=zero_lt_of_lt hc;refine⟨rb i,0, ?_,by rw[Nat.zero_add];exact(hr i hi a).cell hc⟩;show(if rl i=0 then none else some (⟨rb i,0,none⟩:Addr))=_
  rw[if_neg o_]
structure Hd where
 (bh:Nat)
 (t:TL)
 (wa wca wn wcn:Nat)
 (wb wc:Nat->Nat)
 (A:Nat->Bool)
 (X:Nat->Nat->Int)
 (lo hi:Nat)
structure ef_ (w:World)(h:Hd):Prop where
 cg:w.heap[h.bh]? =some (.cells #[.slice (some ⟨h.t.ba,0,none⟩) h.t.na h.t.ca,.slice (some ⟨h.t.bn,0,none⟩) h.t.nn h.t.cn,.slice (some ⟨h.wa,0,none⟩) h.t.ca h.wca,.slice (some ⟨h.wn,0,none⟩) h.t.cn h.wcn] 54 (0,0))
 tl:fh_ w h.t h.A h.X
 dA:χ w h.wa 4 h.t.ca (fun i=> .bool (h.A i))
 du:χ w h.wn 24 h.t.cn (bn_ h.wb h.t.rc h.wc)
 dC:∀j,j<h.t.cn->0<h.t.rc j->χ w (h.wb j) 3 (h.t.rc j) (fun c=> .int .i64 (h.X j c))
 cQ:h.hi<=w.heap.size
 rh:h.lo<=h.bh/\h.bh<h.hi
 ra:h.lo<=h.t.ba/\h.t.ba<h.hi
 rn:h.lo<=h.t.bn/\h.t.bn<h.hi
 rr:∀j,j<h.t.cn->0<h.t.rc j->h.lo<=h.t.rb j/\h.t.rb j<h.hi
 sa:h.lo<=h.wa/\h.wa<h.hi
 sn:h.lo<=h.wn/\h.wn<h.hi
 sr:∀j,j<h.t.cn->0<h.t.rc j->h.lo<=h.wb j/\h.wb j<h.hi
 eX:h.t.ba≠h.wa
 ej:∀i j,i<j->j<h.t.cn->0<h.t.rc i->0<h.t.rc j->h.t.rb i≠h.t.rb j
 eY:∀i j,i<j->j<h.t.cn->0<h.t.rc i->0<h.t.rc j->h.wb i≠h.wb j
 eG:∀i j,i<h.t.cn->j<h.t.cn->0<h.t.rc i->0<h.t.rc j->h.t.rb i≠h.wb j
theorem ef_.cZ {h:Hd}(a:ef_ w h)(hb:∀k,h.lo<=k->k<h.hi->w'.heap[k]? =w.heap[k]?)(hs:w.heap.size<=w'.heap.size):ef_ w' h where
 cg:=by rw[hb _ a.rh.1 a.rh.2];exact a.cg
 tl:=⟨a.tl.na,a.tl.ca,a.tl.eh,a.tl.nn,a.tl.cn,a.tl.et,a.tl.rl,a.tl.rc,a.tl.acc.of_block (hb _ a.ra.1 a.ra.2),a.tl.b7.of_block (hb _ a.rn.1 a.rn.2),fun i hi hc=>(a.tl.row i hi hc).of_block (hb _ (a.rr i hi hc).1 (a.rr i hi hc).2)⟩
 dA:=a.dA.of_block (hb _ a.sa.1 a.sa.2)
 du:=a.du.of_block (hb _ a.sn.1 a.sn.2)
 dC j hj hc:=(a.dC j hj hc).of_block (hb _ (a.sr j hj hc).1 (a.sr j hj hc).2)
 cQ:=Nat.le_trans a.cQ hs
 rh:=a.rh
 ra:=a.ra
 rn:=a.rn
 rr:=a.rr
 sa:=a.sa
 sn:=a.sn
 sr:=a.sr
 eX:=a.eX
 ej:=a.ej
 eY:=a.eY
 eG:=a.eG
theorem ef_.below {h:Hd}(a:ef_ w h)(hb:Bl w w'):ef_ w' h:=a.cZ (fun k _ hk=>hb.block k (Nat.lt_of_lt_of_le hk a.cQ)) hb.size
theorem jn_ {x y z u:Value}(h:w.heap[b]? =some (.cells #[x,y,z,u] t (0,0))):w.cell? ⟨b,0,none⟩=some x/\w.cell? ⟨b,1,none⟩=some y/\w.cell? ⟨b,2,none⟩=some z/\w.cell? ⟨b,3,none⟩=some u:=by
 simp[World.cell?,h]
theorem yl_ (t:TL)(A:Nat->Bool)(X:Nat->Nat->Int)(N:Nat)(w:World)(h:fh_ w t A X)(ra:N<=t.ba)(rn:N<=t.bn)(rr:∀j,j<t.cn->0<t.rc j->N<=t.rb j)
 (ej:∀i j,i<j->j<t.cn->0<t.rc i->0<t.rc j->t.rb i≠t.rb j):
 Calls prog 14 #[.agg #[.slice (some ⟨t.ba,0,none⟩) t.na t.ca,.slice (some ⟨t.bn,0,none⟩) t.nn t.cn]] w
  fun e w'=>Bl w w'/\∃d:Hd,e= .returned (.pointer (some ⟨d.bh,0,none⟩))/\ef_ w' d/\d.t=t/\d.A=A/\d.X=X/\d.lo=N/\d.hi=w'.heap.size:=by
 have Z:=h.eh;have g6:=h.et;have Y:=h.ca;have g5:=h.cn;have hN:N<w.heap.size:=by have:=h.acc.lt;omega
 obtain⟨W,H,q,aa,y⟩:=ν w #[.slice (some ⟨t.ba,0,none⟩) t.na t.ca,.slice (some ⟨t.bn,0,none⟩) t.nn t.cn] 41;have s:=h.below q;go_enter func14,ntmps14;go_wp2_with fail;rw[<-H];clear H;refine(rv_ t A X W s).mono ?_;rintro e M ⟨l,g,B,rfl,hg,E⟩;have ab:=l.size;have G:=s.below l;have x:=(l.block _ o_).trans y;have v:Bl w M:=q.trans (l.mono o_);go_upto_region 2 with fail;obtain⟨b,I,m,ac,V⟩:=ν M #[.slice (some ⟨t.ba,0,none⟩) t.ca t.ca,.slice (some ⟨g,0,none⟩) t.cn B] 41;have z:=(m.block _ o_).trans x;have u:=G.below m;have F:az_ b ⟨some ⟨t.ba,0,none⟩,some ⟨g,0,none⟩,t.ca,t.ca,t.cn,B,fun i=>if t.rc i=0 then none else some ⟨t.rb i,0,none⟩,t.rc,fun i=>if t.rc i=0 then 0 else t.rc i⟩ A X:=
  p3_ _ _ (fun _=>⟨rfl,u.acc⟩) (fun _=>⟨rfl,E.below m⟩) u.row o_ o_ (fun i hi=>by have:=h.rc i hi;omega)
 have Q:=lv_ _ _ _ _ _ _ _ _ _ A X b.drew (F.below (μ.drew)) o_ o_ (fun i hi=>by have:=h.rc i hi;omega);have J:Bl w b:=v.trans (m.mono o_);rw[<-I];have T:Hid _:=h;have O:=α J;have U:Hid _:=rr;have S:Hid _:=ej;clear I l m s G E u F x y q v h rr ej J;obtain⟨x0,x1,_,_⟩:=β V;obtain⟨x2,x3,_,_⟩:=β z;go_region_with (go_at_call 26;refine Calls.mono Q ?_;rintro e c ⟨C,f,o,k,p,rb,rc,rfl,D⟩;have r:Bl b c:=((Below.refl b.heap.size b).drew).trans C;clear C;rw[show b2_ f t.ca o= .slice (some ⟨f,0,none⟩) t.ca o from if_neg o_,show b2_ k t.cn p= .slice (some ⟨k,0,none⟩) t.cn p from if_neg o_];obtain⟨u2,u3,_,_⟩:=β ((r.block _ o_).trans z);have R:Hid (j7_ b.heap.size c f k rb rc t.ca t.cn t.rc A X):=D;have P:=α r;clear D r)
 all_goals go_wp2_with fail
 all_goals go_ret
 all_goals
  have n:=T.out;have a:=R.out;have K:Bl w c:=O.out.trans (P.out.mono o_);have ad:=K.size;have L:Bl w (c.alloc (.cells #[.slice (some ⟨t.ba,0,none⟩) t.na t.ca,.slice (some ⟨t.bn,0,none⟩) t.nn t.cn,.slice (some ⟨f,0,none⟩) t.ca o,.slice (some ⟨k,0,none⟩) t.cn p] 54)):=K.alloc o_ _;refine⟨L,⟨c.heap.size,t,f,o,k,p,rb,rc,A,X,N,c.heap.size+1⟩,rfl, ?_,rfl,rfl,rfl,rfl,i_⟩;have l1:=n.acc.lt;have l2:=n.b7.lt;have l3:=(a.acc o_).2.lt;have l4:=(a.b7 o_).2.lt;have l5:=(a.acc o_).1;have l6:=(a.b7 o_).1;refine⟨ο rfl,n.below L,(a.acc o_).2.alloc _,(a.b7 o_).2.alloc _,fun j hj hc=>(a.row j hj hc).2.alloc _,i_,⟨s_,i_⟩,⟨ra,s_⟩,⟨rn,s_⟩,fun j hj hc=>⟨U.out j hj hc,by have:=(n.row j hj hc).lt;simp;omega⟩,⟨s_,s_⟩,⟨s_,s_⟩,
   fun j hj hc=>⟨by have:=(a.row j hj hc).1;simp;omega,by have:=(a.row j hj hc).2.lt;simp;omega⟩,s_,S.out,a.cX,fun i j hi hj hci hcj=> ?_⟩
  have l7:=(n.row i hi hci).lt;have l8:=(a.row j hj hcj).1;simp;omega
theorem ah8_ (d:Hd)(w:World)(h:ef_ w d):
 Calls prog 23 #[.pointer (some ⟨d.bh,0,none⟩)] w fun e w'=>e= .returned (.bool true)/\Bl w w':=by
 have F:=h.tl.eh;have H:=h.tl.et;have E:=h.tl.ca;have G:=h.tl.cn;obtain⟨u,v,x,y⟩:=jn_ h.cg;have f:=rv_ d.t d.A d.X w h.tl;go_enter func23,ntmps23;go_wp2_with fail;refine f.mono ?_;clear f;rintro e C ⟨j,g,m,rfl,I,p⟩;have n:=h.below j;have J:=j.size;clear u v x y;go_upto_region 2 with fail;obtain⟨a,s,c,-,l⟩:=ν C #[.slice (some ⟨d.t.ba,0,none⟩) d.t.ca d.t.ca,.slice (some ⟨g,0,none⟩) d.t.cn m] 41;have b:=n.below c;obtain⟨u,v,x,y⟩:=jn_ b.cg;obtain⟨L,M,_,_⟩:=β l;have k:∀i,i<d.t.cn->d.t.rc i<=9223372036854775807:=fun i hi=>by have:=h.tl.rc i hi;omega
 have q:az_ a ⟨some ⟨d.t.ba,0,none⟩,some ⟨g,0,none⟩,d.t.ca,d.t.ca,d.t.cn,m,fun i=>if d.t.rc i=0 then none else some ⟨d.t.rb i,0,none⟩,d.t.rc,fun i=>if d.t.rc i=0 then 0 else d.t.rc i⟩ d.A d.X:=
  p3_ _ _ (fun _=>⟨rfl,b.tl.acc⟩) (fun _=>⟨rfl,p.below c⟩) b.tl.row o_ o_ k
 have r:az_ a ⟨some ⟨d.wa,0,none⟩,some ⟨d.wn,0,none⟩,d.t.ca,d.wca,d.t.cn,d.wcn,fun i=>if d.t.rc i=0 then none else some ⟨d.wb i,0,none⟩,d.t.rc,fun i=>if d.t.rc i=0 then 0 else d.wc i⟩ d.A d.X:=
  p3_ _ _ (fun _=>⟨rfl,b.dA⟩) (fun _=>⟨rfl,b.du⟩) b.dC o_ o_ k
 have f:=aaw_ _ _ _ _ _ _ _ _ _ _ _ _ _ _ _ d.A d.X a.drew (q.below (μ.drew)) (r.below (μ.drew));rw[<-s];have z:Hid (Bl w a):=j.trans (c.mono o_);have K:=c.size;clear s j c p q r h n l k b;go_region_with (go_at_call 58;refine Calls.mono f ?_;rintro e D ⟨rfl,o⟩;have B:Hid (Bl a D):=((Below.refl a.heap.size a).drew).trans o;clear o)
 all_goals go_wp2_with fail
 all_goals go_ret
 all_goals exact⟨rfl,z.out.trans (B.out.mono o_)⟩
def f2_ (c:Int)(n:Nat):Nat:=if c<0 then((-(c+1))%n).toNat else(c%n).toNat
theorem jo_ (c:Int)(n:Nat)(h:1<=n):f2_ c n<n:=by
 unfold f2_;split
 . have:=Int.emod_lt_of_pos (-(c+1)) (b:=(n:Int)) o_;have:=Int.emod_nonneg (-(c+1)) (b:=(n:Int)) o_;omega
 . have:=Int.emod_lt_of_pos c (b:=(n:Int)) o_;have:=Int.emod_nonneg c (b:=(n:Int)) o_;omega
theorem ah9_ (c n:Int)(h:c<0): -((c+1).tmod n)=(-(c+1))%n:=by
 rw[<-Int.neg_tmod,Int.tmod_eq_emod_of_nonneg o_]
theorem jp_ (c:Int)(n:Int)(w:World)(h1:1<=n)(h2:n<=4398046511104)(hc1: -9223372036854775808<=c)(hc2:c<=9223372036854775807):
 Calls prog 16 #[.int .i64 c,.int .i64 n] w fun e w'=>e= .returned (.int .i64 (f2_ c n.toNat))/\w'=w:=by
 have d:((n.toNat:Nat):Int)=n:=o_;by_cases h:c<0
 . have a:((f2_ c n.toNat:Nat):Int)=(-(c+1))%n:=by
    unfold f2_;rw[if_pos h,d];have:=Int.emod_nonneg (-(c+1)) (b:=n) o_;omega
   rw[a];clear a d;go_enter func16,ntmps16;go_wp2
   go_ret;exact⟨hu_ (ah9_ c n h),rfl⟩
 . have a:((f2_ c n.toNat:Nat):Int)=c%n:=by
    unfold f2_;rw[if_neg h,d];have:=Int.emod_nonneg c (b:=n) o_;omega
   rw[a];clear a d;go_enter func16,ntmps16;go_wp2
   go_ret;exact⟨rfl,rfl⟩
theorem cf_ {b' t t' n:Nat}{c:Array Value}{f:Nat->Value}(h:w.heap[b]? =some (.cells c t (0,0)))(h':χ w b' t' n f)(ht:t≠t'):b≠b':=by
 obtain⟨d,a,_,_⟩:=h';intro e;subst e;rw[h]at a;simp only[Δ,Obj.cells.injEq]at a;exact ht a.2.1
theorem ef_.put {d:Hd}(a:ef_ w d){j:Nat}(hi:i<d.t.cn)(hc:0<d.t.rc i)(c:Int):
 ef_ ((w.setCell ⟨d.t.rb i,j,none⟩ (.int .i64 c)).setCell ⟨d.wb i,j,none⟩ (.int .i64 c)) {d with X:=fun x y=>if x=i then(if y=j then c else d.X i y)else d.X x y}:=by
 have b:=a.tl.row i hi hc;have f:=a.dC i hi hc;have g:=a.eG i i hi hi hc hc;have k:=cf_ a.cg b d_;have l:=cf_ a.cg f d_;refine⟨a3_ (a3_ a.cg k) l,⟨a.tl.na,a.tl.ca,a.tl.eh,a.tl.nn,a.tl.cn,a.tl.et,a.tl.rl,a.tl.rc, ?_, ?_,fun x hx hxc=> ?_⟩, ?_, ?_,fun x hx hxc=> ?_,by have:=a.cQ;simpa using this,a.rh,a.ra,a.rn,a.rr,a.sa,a.sn,a.sr,a.eX,a.ej,a.eY,a.eG⟩
 . exact(a.tl.acc.setOther (a.tl.acc.ne b d_) _).setOther (a.tl.acc.ne f d_) _
 . exact(a.tl.b7.setOther (a.tl.b7.ne b d_) _).setOther (a.tl.b7.ne f d_) _
 . by_cases e:x=i
   . subst e;refine((b.set j _).setOther g _).congr (fun y _=> ?_);simp only[if_true];by_cases e:y=j<;>simp[e]
   . simp only[if_neg e];refine((a.tl.row x hx hxc).setOther ?_ _).setOther (a.eG x i hx hi hxc hc) _;rcases Nat.lt_or_gt_of_ne e with h|h
     . exact a.ej x i h hi hxc hc
     . exact fun e'=>a.ej i x h hx hc hxc e'.symm
 . exact(a.dA.setOther (a.dA.ne b d_) _).setOther (a.dA.ne f d_) _
 . exact(a.du.setOther (a.du.ne b d_) _).setOther (a.du.ne f d_) _
 . by_cases e:x=i
   . subst e;refine((f.setOther (fun e'=>g e'.symm) _).set j _).congr (fun y _=> ?_);simp only[if_true];by_cases e:y=j<;>simp[e]
   . simp only[if_neg e];refine((a.dC x hx hxc).setOther (fun e'=>a.eG i x hi hx hc hxc e'.symm) _).setOther ?_ _;rcases Nat.lt_or_gt_of_ne e with h|h
     . exact a.eY x i h hi hxc hc
     . exact fun e'=>a.eY i x h hx hc hxc e'.symm
theorem ef_.flip {d:Hd}(a:ef_ w d)(v:Bool):
 ef_ ((w.setCell ⟨d.t.ba,i,none⟩ (.bool v)).setCell ⟨d.wa,i,none⟩ (.bool v)) {d with A:=fun x=>if x=i then v else d.A x}:=by
 have b:=a.tl.acc;have c:=a.dA;have f:=a.eX;have g:=cf_ a.cg b d_;have h:=cf_ a.cg c d_;refine⟨a3_ (a3_ a.cg g) h,⟨a.tl.na,a.tl.ca,a.tl.eh,a.tl.nn,a.tl.cn,a.tl.et,a.tl.rl,a.tl.rc, ?_, ?_,fun x hx hxc=> ?_⟩, ?_, ?_,fun x hx hxc=> ?_,by have:=a.cQ;simpa using this,a.rh,a.ra,a.rn,a.rr,a.sa,a.sn,a.sr,a.eX,a.ej,a.eY,a.eG⟩
 . refine((b.set i _).setOther f _).congr (fun y _=> ?_);by_cases e:y=i<;>simp[e]
 . exact(a.tl.b7.setOther (a.tl.b7.ne b d_) _).setOther (a.tl.b7.ne c d_) _
 . exact((a.tl.row x hx hxc).setOther ((a.tl.row x hx hxc).ne b d_) _).setOther ((a.tl.row x hx hxc).ne c d_) _
 . refine((c.setOther (fun e'=>f e'.symm) _).set i _).congr (fun y _=> ?_);by_cases e:y=i<;>simp[e]
 . exact(a.du.setOther (a.du.ne b d_) _).setOther (a.du.ne c d_) _
 . exact((a.dC x hx hxc).setOther ((a.dC x hx hxc).ne b d_) _).setOther ((a.dC x hx hxc).ne c d_) _
theorem ε.drew {S:Nat->Prop}(h:ε S w w'):ε S w w'.drew:=⟨h.os,h.tape,h.output,h.size,h.block⟩
theorem aia_ (d:Hd)(r k c:Int)(w:World)(h:ef_ w d)(hr1: -9223372036854775808<=r)(hr2:r<=9223372036854775807)(hk1: -9223372036854775808<=k)(hk2:k<=9223372036854775807):
 Calls prog 17 #[.pointer (some ⟨d.bh,0,none⟩),.int .i64 r,.int .i64 k,.int .i64 c] w
  fun e w'=>e= .returned (.tuple #[])/\∃A X,ef_ w' {d with A:=A,X:=X}/\ε (fun b=>d.lo<=b/\b<d.hi) w w':=by
 have g3:=h.tl.eh;have g6:=h.tl.et;have g2:=h.tl.ca;have g5:=h.tl.cn;have aj:=κ h.cg;obtain⟨F,G,H,I⟩:=jn_ h.cg;have HC:=rv_ d.t d.A d.X w h.tl;go_enter func17,ntmps17;go_wp2_with fail;refine HC.mono ?_;clear HC;rintro e B ⟨R,g,af,rfl,hg,hG⟩;have ak:=R.size;clear F G H I;go_upto_region 1 with fail;obtain⟨z,ah,S,al,n⟩:=ν B #[.slice (some ⟨d.t.ba,0,none⟩) d.t.ca d.t.ca,.slice (some ⟨g,0,none⟩) d.t.cn af] 41;have p:=(h.below R).below S;have ag:=hG.below S;rw[<-ah];have Q:Hid (ε (fun b=>d.lo<=b/\b<d.hi) w z):=by
  have:=R.trans (S.mono (show w.heap.size<=B.heap.size by omega));exact⟨this.os,this.tape,this.output,this.size,fun k hk _=>this.block k hk⟩
 have am:=h.cQ;clear ah R S hG;have P:=α p;obtain⟨U,V,_,_⟩:=β n;obtain⟨a,ac⟩:=δ (f2_ r d.t.cn);have q:a<d.t.cn:=by rw[<-ac.out];exact jo_ _ _ o_
 have u:=jp_ r d.t.cn z o_ o_ hr1 hr2;rw[tn_,ac.out]at u;have W:=ag.cell q;have ai:=h.tl.rc a q;clear h ag;by_cases O:d.t.rc a=0
 . have M:bn_ d.t.rb d.t.rc d.t.rc a= .slice none 0 0:=by unfold bn_;rw[if_pos O]
   rw[M]at W;clear M p O;go_upto_region 7 with (go_at_call 16;refine u.mono ?_;rintro e w' ⟨rfl,v⟩;obtain rfl:z=w':=v.symm);obtain⟨X,f⟩:∃X,Hid (ef_ z {d with X:=X}):=⟨d.X,P⟩;have T:=α Q;obtain⟨s,C⟩:=af_ z;rw[<-C]at f T n ⊢;clear u W P U V Q q ai C;obtain⟨U,V,_,_⟩:=β n;obtain⟨F,G,H,I⟩:=jn_ f.out.cg;simp only at F G H I;obtain⟨o,L⟩:=δ (f2_ k d.t.ca);have N:o<d.t.ca:=by rw[<-L.out];exact jo_ _ _ o_
   have u:=jp_ k d.t.ca s o_ o_ hk1 hk2;rw[tn_,L.out]at u;have l:χ s d.t.ba 4 d.t.ca (fun i=> .bool (d.A i)):=f.out.tl.acc;have m:χ s d.wa 4 d.t.ca (fun i=> .bool (d.A i)):=f.out.dA;have k1:=l.cell N;have k2:=m.cell N;have k3:=l.frozen o;have k4:=m.frozen o;have d1:¬d.t.ba=d.wa:=f.out.eX;have Z:¬d.wa=d.t.ba:=fun e=>d1 e.symm
   have d2:¬d.bh=d.t.ba:=cf_ f.out.cg l d_;have d3:¬d.bh=d.wa:=cf_ f.out.cg m d_;have d5:¬B.heap.size=d.t.ba:=cf_ n l d_;have d6:¬B.heap.size=d.wa:=cf_ n m d_;have J:d.lo<=d.t.ba/\d.t.ba<d.hi:=f.out.ra;have K:d.lo<=d.wa/\d.wa<d.hi:=f.out.sa;have aa:(0:Int)<(d.t.ca:Int):=o_;clear l m n;go_wp2_with (go_at_call 16;refine u.mono ?_;rintro e w' ⟨rfl,v⟩;obtain rfl:s=w':=v.symm);go_region
   go_wp2_with fail;go_region
   go_wp2_with fail;go_end0
   exact⟨rfl,_,_,((f.out.flip (i:=o) (!d.A o)).below (μ.drew)).below (μ.drew),(((T.out.set ⟨d.t.ba,o,none⟩ _ (.inl J)).set ⟨d.wa,o,none⟩ _ (.inl K)).drew).drew⟩
 . have M:bn_ d.t.rb d.t.rc d.t.rc a= .slice (some ⟨d.t.rb a,0,none⟩) (d.t.rc a) (d.t.rc a):=by unfold bn_;rw[if_neg O]
   rw[M]at W;have E:0<d.t.rc a:=o_;obtain⟨F,G,H,I⟩:=jn_ p.cg;have e2:=p.du.cell q;rw[show bn_ d.wb d.t.rc d.wc a= .slice (some ⟨d.wb a,0,none⟩) (d.t.rc a) (d.wc a)from by unfold bn_;rw[if_neg O]]at e2;obtain⟨D,ad⟩:=δ (f2_ k (d.t.rc a));have ab:D<d.t.rc a:=by rw[<-ad.out];exact jo_ _ _ o_
   have Y:=jp_ k (d.t.rc a) z o_ o_ hk1 hk2;rw[tn_,ad.out]at Y;have l:=p.tl.row a q E;have m:=p.dC a q E;have k1:=l.cell ab;have k2:=m.cell ab;have k3:=l.frozen D;have k4:=m.frozen D;have d1:=p.eG a a q q E E;have Z:¬d.wb a=d.t.rb a:=fun e=>d1 e.symm
   have d2:=cf_ p.cg l d_;have d3:=cf_ p.cg m d_;have d4:¬d.wn=d.t.rb a:=p.du.ne l d_;have d5:¬B.heap.size=d.t.rb a:=cf_ n l d_;have d6:¬B.heap.size=d.wb a:=cf_ n m d_;have J:=p.rr a q E;have K:=p.sr a q E;have aa:(0:Int)<(d.t.rc a:Int):=o_;clear M p l m O;go_upto_region 7 with (first|(go_at_call 16;refine u.mono ?_;rintro e w' ⟨rfl,v⟩;obtain rfl:z=w':=v.symm;clear u v)|(go_at_call 16;refine Y.mono ?_;rintro e w' ⟨rfl,v⟩;obtain rfl:z=w':=v.symm));obtain⟨s,C⟩:=af_ ((z.setCell ⟨d.t.rb a,D,none⟩ (.int .i64 c)).setCell ⟨d.wb a,D,none⟩ (.int .i64 c));obtain⟨X,HX⟩:∃X,Hid (X=fun x y=>if x=a then(if y=D then c else d.X a y)else d.X x y):=⟨_,rfl⟩;have f:Hid (ef_ s {d with X:=X}):=by rw[C,HX.out];exact P.out.put q E c (j:=D)
   have T:Hid (ε (fun b=>d.lo<=b/\b<d.hi) w s):=by rw[C];exact(Q.out.set _ _ (.inl J)).set ⟨d.wb a,D,none⟩ _ (.inl K)
   have ae:s.heap[B.heap.size]? =some (.cells #[.slice (some ⟨d.t.ba,0,none⟩) d.t.ca d.t.ca,.slice (some ⟨g,0,none⟩) d.t.cn af] 41 (0,0)):=by rw[C];exact a3_ (a3_ n d5) d6
   rw[<-C];clear Y W P U V Q q ai HX C F G H I e2 k1 k2 k3 k4 d1 Z d2 d3 d4 d5 d6 J K n ab aa;have n:=ae;clear ae;obtain⟨U,V,_,_⟩:=β n;obtain⟨F,G,H,I⟩:=jn_ f.out.cg;simp only at F G H I;obtain⟨o,L⟩:=δ (f2_ k d.t.ca);have N:o<d.t.ca:=by rw[<-L.out];exact jo_ _ _ o_
   have u:=jp_ k d.t.ca s o_ o_ hk1 hk2;rw[tn_,L.out]at u;have l:χ s d.t.ba 4 d.t.ca (fun i=> .bool (d.A i)):=f.out.tl.acc;have m:χ s d.wa 4 d.t.ca (fun i=> .bool (d.A i)):=f.out.dA;have k1:=l.cell N;have k2:=m.cell N;have k3:=l.frozen o;have k4:=m.frozen o;have d1:¬d.t.ba=d.wa:=f.out.eX;have Z:¬d.wa=d.t.ba:=fun e=>d1 e.symm
   have d2:¬d.bh=d.t.ba:=cf_ f.out.cg l d_;have d3:¬d.bh=d.wa:=cf_ f.out.cg m d_;have d5:¬B.heap.size=d.t.ba:=cf_ n l d_;have d6:¬B.heap.size=d.wa:=cf_ n m d_;have J:d.lo<=d.t.ba/\d.t.ba<d.hi:=f.out.ra;have K:d.lo<=d.wa/\d.wa<d.hi:=f.out.sa;have aa:(0:Int)<(d.t.ca:Int):=o_;clear l m n;go_wp2_with (go_at_call 16;refine u.mono ?_;rintro e w' ⟨rfl,v⟩;obtain rfl:s=w':=v.symm);go_region
   go_wp2_with fail;go_region
   go_wp2_with fail;go_end0
   exact⟨rfl,_,_,((f.out.flip (i:=o) (!d.A o)).below (μ.drew)).below (μ.drew),(((T.out.set ⟨d.t.ba,o,none⟩ _ (.inl J)).set ⟨d.wa,o,none⟩ _ (.inl K)).drew).drew⟩
def TL.lay (t:TL):aj_:=⟨some ⟨t.ba,0,none⟩,some ⟨t.bn,0,none⟩,t.na,t.ca,t.nn,t.cn,fun i=>if t.rc i=0 then none else some ⟨t.rb i,0,none⟩,t.rl,fun i=>if t.rc i=0 then 0 else t.rc i⟩
theorem fh_.raw {t:TL}(h:fh_ w t A X):az_ w t.lay A X where
 la:=by have:=h.na;have:=h.ca;show t.na<=_;omega
 ln:=by have:=h.nn;have:=h.cn;show t.nn<=_;omega
 lr i hi:=by
  have a:i<t.nn:=hi;have:=h.nn;have:=h.rl i o_;have:=h.rc i o_;show t.rl i<=_;omega
 acc i hi:=⟨t.ba,0,rfl,by rw[Nat.zero_add];exact h.acc.cell (Nat.lt_of_lt_of_le hi h.na)⟩
 row i hi:=by
  have a:i<t.nn:=hi;have b:=h.nn;refine⟨t.bn,0,rfl, ?_⟩;rw[Nat.zero_add,h.b7.cell o_];unfold tlv TL.lay;by_cases e:t.rc i=0
  . have:=h.rl i o_;simp only[if_pos e];rw[show t.rl i=0 by omega]
  . simp only[if_neg e]
 cT i c hi hc:=by
  have a:i<t.nn:=hi;have b:=h.nn;have d:c<t.rl i:=hc;have f:=h.rl i o_;refine⟨t.rb i,0, ?_,by rw[Nat.zero_add];exact(h.row i o_ o_).cell o_⟩;show(if t.rc i=0 then none else some (⟨t.rb i,0,none⟩:Addr))=_
  rw[if_neg o_]
theorem g6_ {r r':aj_}(h1:r.na=r'.na)(h2:r.nn=r'.nn)(h3:r.rl=r'.rl):Ο r X=Ο r' X:=by
 have:∀k,df_ r X k=df_ r' X k:=by
  intro k;induction k with
  |zero=>rfl
  |succ k ih=>simp only[df_,ih,h2,h3]
 simp only[Ο,h1,h2,this]
theorem aib_ {r r':aj_}(h:r.nn=r'.nn):by_ r A X=by_ r' A X:=by simp only[by_,h]
theorem j7_.raw {N:Nat}(h:j7_ N w ga gn rb rc na nn rl A X)(ca cn:Nat)(b1:na<=9223372036854775807)(b2:nn<=9223372036854775807)(b3:∀i,i<nn->rl i<=9223372036854775807):
 az_ w ⟨if na=0 then none else some ⟨ga,0,none⟩,if nn=0 then none else some ⟨gn,0,none⟩,na,if na=0 then 0 else ca,nn,if nn=0 then 0 else cn,fun i=>if rl i=0 then none else some ⟨rb i,0,none⟩,rl,fun i=>if rl i=0 then 0 else rc i⟩ A X:=
 p3_ _ _ (fun h0=>⟨if_neg o_,(h.acc h0).2⟩) (fun h0=>⟨if_neg o_,(h.b7 h0).2⟩) (fun j hj hl=>(h.row j hj hl).2) b1 b2 b3
theorem bo_ {x0 x1 x2 x3 x4 x5 x6:Value}(h:w.heap[b]? =some (.cells #[x0,x1,x2,x3,x4,x5,x6] t (0,0))):w.cell? ⟨b,0,none⟩=some x0/\w.cell? ⟨b,1,none⟩=some x1/\w.cell? ⟨b,2,none⟩=some x2/\w.cell? ⟨b,3,none⟩=some x3/\w.cell? ⟨b,4,none⟩=some x4/\w.cell? ⟨b,5,none⟩=some x5/\w.cell? ⟨b,6,none⟩=some x6:=by
 simp[World.cell?,h]
theorem aic_ {r r':aj_}{s:ByteArray}(h1:r.na=r'.na)(h2:r.nn=r'.nn)(h3:r.rl=r'.rl):dq_ r A X s=dq_ r' A X s:=by
 simp only[dq_,g6_ h1 h2 h3,by_,h2]
theorem kr_.shape {M:γ}{e:Ending}(h:kr_ M w e w'):∃(s:ByteArray) (b:Bool),e= .returned (.tuple #[.string s,.bool b,.int .i64 0]):=by
 rcases h.2 with ⟨s,rfl,_⟩|⟨rfl,_⟩
 . exact⟨s,true,rfl⟩
 . exact⟨_,false,rfl⟩
theorem aid_ (bw:Nat)(kind a b c d:Int)(s:ByteArray)(lo:Option Addr)(ll lc:Nat)(t:TL)(A:Nat->Bool)(X:Nat->Nat->Int)(w:World)(h:fh_ w t A X)(hs:s.size<=maxLen)(hk:kind=3\/kind=4):
 Calls prog 21 #[.pointer (some ⟨bw,0,none⟩),.agg #[.int .i64 kind,.int .i64 a,.int .i64 b,.int .i64 c,.int .i64 d,.string s,.slice lo ll lc],.agg #[.slice (some ⟨t.ba,0,none⟩) t.na t.ca,.slice (some ⟨t.bn,0,none⟩) t.nn t.cn]] w
  fun e w'=>e= .returned (.bool true)/\Bl w w':=by
 have g1:=h.na;have g2:=h.ca;have g4:=h.nn;have g5:=h.cn;obtain⟨W,F,C,P,Q⟩:=bl_ w #[.int .i64 kind,.int .i64 a,.int .i64 b,.int .i64 c,.int .i64 d,.string s,.slice lo ll lc] 33 #[.slice (some ⟨t.ba,0,none⟩) t.na t.ca,.slice (some ⟨t.bn,0,none⟩) t.nn t.cn] 41;have af:w.heap.size+1<W.heap.size:=by rw[F];simp
 have E:=(h.below C).raw;have g:=lv_ _ _ _ _ _ _ _ _ _ A X W E o_ o_ (fun i hi=>by have:=h.rl i o_;have:=h.rc i o_;omega);have ae:∀i,i<t.nn->t.rl i<=9223372036854775807:=fun i hi=>by have:=h.rl i o_;have:=h.rc i o_;omega
 go_enter func21,ntmps21;go_wp2_with fail;rw[<-F];clear F;refine Calls.mono g ?_;clear g;rintro e w1 ⟨m,ga,T,gn,U,J,K,rfl,hC⟩;have ag:=m.size;have aa:=E.below m;have R:=(m.block _ o_).trans P;have S:=(m.block _ o_).trans Q;rw[iv_,iv_];have o:=hC.raw T U o_ o_ ae;clear P Q hC;generalize (if t.na=0 then none else some (⟨ga,0,none⟩:Addr))=ma at o ⊢;generalize (if t.nn=0 then none else some (⟨gn,0,none⟩:Addr))=mn at o ⊢;generalize (if t.na=0 then 0 else T)=mca at o ⊢;generalize (if t.nn=0 then 0 else U)=mcn at o ⊢;go_upto_region 2 with fail;obtain⟨z,ac,n,ah,l⟩:=ν w1 #[.slice ma t.na mca,.slice mn t.nn mcn] 41;have d0:=(n.block _ o_).trans R;have d1:=(n.block _ o_).trans S;have u:=aa.below n;have q:=o.below n;have D:Bl w z:=(C.trans (m.mono o_)).trans (n.mono o_);rw[<-ac];clear ac R S m n E aa o C h;obtain⟨x0,_,_,_,_,x5,_⟩:=bo_ d0;obtain⟨y0,y1,_,_⟩:=β d1;obtain⟨L,N,_,_⟩:=β l;rcases hk with rfl|rfl
 . obtain⟨p,H⟩:∃p,dq_ t.lay A X s=p:=⟨_,rfl⟩;have g:=abo_ t.lay A X s z u hs;rw[H]at g;simp only[TL.lay]at g;go_wp2_with fail;refine g.mono ?_;rintro e y ⟨rfl,f⟩;have ad:=f.size;have j:=abp_ _ A X s y (q.below f) hs;rw[aic_ (r:=⟨ma,mn,t.na,mca,t.nn,mcn,fun i=>if t.rl i=0 then none else some ⟨J i,0,none⟩,t.rl,fun i=>if t.rl i=0 then 0 else K i⟩) (r':=t.lay) rfl rfl rfl,H]at j;simp only at j;obtain⟨x0,_,_,_,_,x5,_⟩:=bo_ ((f.block _ o_).trans d0);obtain⟨L,N,_,_⟩:=β ((f.block _ o_).trans l);have v:=η D f;clear g f u q d0 d1 l H;obtain⟨pb,pe⟩:=p;simp only at j ⊢;go_wp2_with fail;refine j.mono ?_;rintro e w4 ⟨rfl,k⟩;have x:=η v k;have q2:(pe==pe)=true:=i_;clear j k;go_wp2_with fail;go_ret;exact⟨rfl,x⟩
 . cases hok:Ο t.lay X
   . have g:=aca_ t.lay A X z u hok;simp only[TL.lay]at g;go_wp2_with fail;refine g.mono ?_;rintro e y ⟨rfl,f⟩;have ad:=f.size;have j:=ab4_ _ A X y (q.below f) ((g6_ (r:=⟨ma,mn,t.na,mca,t.nn,mcn,fun i=>if t.rl i=0 then none else some ⟨J i,0,none⟩,t.rl,fun i=>if t.rl i=0 then 0 else K i⟩) (r':=t.lay) rfl rfl rfl).trans hok);simp only at j;obtain⟨L,N,_,_⟩:=β ((f.block _ o_).trans l);have v:=η D f;clear g f u q d0 d1 l hok;go_wp2_with fail;refine j.mono ?_;rintro e w4 ⟨rfl,k⟩;have x:=η v k;clear j k;go_wp2_with fail;go_ret;exact⟨rfl,x⟩
   . obtain⟨V,Y,hV⟩:=ex_ u hok;have G:=(g6_ (r:=⟨ma,mn,t.na,mca,t.nn,mcn,fun i=>if t.rl i=0 then none else some ⟨J i,0,none⟩,t.rl,fun i=>if t.rl i=0 then 0 else K i⟩) (r':=t.lay) (X:=X) rfl rfl rfl).trans hok;have g:=abw_ V _ z (fd_ hok) hV;rw[<-Y]at g;simp only[aj_.val,TL.lay]at g;go_wp2_with fail;refine g.mono ?_;intro e y B;have f:=B.1;obtain⟨s1,v1,rfl⟩:=B.shape;have ad:=f.size;obtain⟨V',Z,ab⟩:=ex_ (q.below f) G;have j:=ab3_ V' _ y (fd_ G) ab;rw[<-Z]at j;simp only[aj_.val]at j;obtain⟨L,N,_,_⟩:=β ((f.block _ o_).trans l);have v:=η D f;have O:Hid _:=B;clear g f u q d0 d1 l hok G Y hV Z ab B;go_wp2_with fail;refine j.mono ?_;intro e w4 I;have k:=I.1;have he:=(ab8_ (M:=by_ t.lay A X) O.out I).1;subst he;have x:=η v k;have q2:(v1==v1)=true:=i_;clear j k I O;go_wp2_with fail;go_ret;exact⟨rfl,x⟩
end Go.Proofs.YtpngikmcjkjdaaaGreatDoor
