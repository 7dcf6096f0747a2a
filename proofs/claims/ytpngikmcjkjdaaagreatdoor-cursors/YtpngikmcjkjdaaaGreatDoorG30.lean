import Derived.Test.YtpngikmcjkjdaaaGreatDoorG0
import Derived.Deep.RegionWith
import Derived.Test.YtpngikmcjkjdaaaGreatDoorG11
import Derived.Test.YtpngikmcjkjdaaaGreatDoorG23
set_option linter.unusedVariables false
set_option linter.unusedSimpArgs false
set_option maxRecDepth 20000
set_option maxHeartbeats 80000000
namespace Go.Proofs.YtpngikmcjkjdaaaGreatDoor
open Go.RowKit Tryz
theorem vl_ (b n c:Nat):lstv b n c= .slice (if n=0 then none else some ⟨b,0,none⟩) n (if n=0 then 0 else c):=by
 unfold lstv;by_cases h:n=0
 . simp[h]
 . simp[h]
theorem aeg_ (rb rl rc:Nat->Nat)(i:Nat):rowv rb rl rc i= .slice (if rl i=0 then none else some ⟨rb i,0,none⟩) (rl i) (if rl i=0 then 0 else rc i):=by
 unfold rowv;by_cases h:rl i=0
 . simp[h]
 . simp[h]
theorem oz_ {w:World}{ga gn na ca nn cn:Nat}{rb rl rc:Nat->Nat}{A:Nat->Bool}{X:Nat->Nat->Int}(ao no:Option Addr)(ha:0<na->ao=some ⟨ga,0,none⟩/\ar_ w ga 4 na (fun i=> .bool (A i)))(hn:0<nn->no=some ⟨gn,0,none⟩/\ar_ w gn 24 nn (rowv rb rl rc))
 (hr:∀j,j<nn->0<rl j->ar_ w (rb j) 3 (rl j) (fun c=> .int .i64 (X j c))) (b1:na<=9223372036854775807) (b2:nn<=9223372036854775807) (b3:∀i,i<nn->rl i<=9223372036854775807):
 cz_ w ⟨ao,no,na,ca,nn,cn,fun i=>if rl i=0 then none else some ⟨rb i,0,none⟩,rl,fun i=>if rl i=0 then 0 else rc i⟩ A X where
 la:=b1
 ln:=b2
 lr:=b3
 acc i hi:=⟨ga,0,(ha (Nat.zero_lt_of_lt hi)).1,by rw[Nat.zero_add];exact(ha (Nat.zero_lt_of_lt hi)).2.cell hi⟩
 row i hi:=⟨gn,0,(hn (Nat.zero_lt_of_lt hi)).1,by rw[Nat.zero_add,(hn (Nat.zero_lt_of_lt hi)).2.cell hi,aeg_]⟩
 cel i c hi hc:=by
  have h0:0<rl i:=Nat.zero_lt_of_lt hc;refine⟨rb i,0, ?_,by rw[Nat.zero_add];exact(hr i hi h0).cell hc⟩;show(if rl i=0 then none else some (⟨rb i,0,none⟩:Addr))=_
  rw[if_neg o_]
structure Hd where
 (bh:Nat)
 (t:TL)
 (wa wca wn wcn:Nat)
 (wb wc:Nat->Nat)
 (A:Nat->Bool)
 (X:Nat->Nat->Int)
 (lo hi:Nat)
structure HdAt (w:World)(h:Hd):Prop where
 blk:w.heap[h.bh]? =some (.cells #[.slice (some ⟨h.t.ba,0,none⟩) h.t.na h.t.ca,.slice (some ⟨h.t.bn,0,none⟩) h.t.nn h.t.cn,.slice (some ⟨h.wa,0,none⟩) h.t.ca h.wca,.slice (some ⟨h.wn,0,none⟩) h.t.cn h.wcn] 54 (0,0))
 tl:TLAt w h.t h.A h.X
 wacc:ar_ w h.wa 4 h.t.ca (fun i=> .bool (h.A i))
 wnxt:ar_ w h.wn 24 h.t.cn (rowv h.wb h.t.rc h.wc)
 wrow:∀j,j<h.t.cn->0<h.t.rc j->ar_ w (h.wb j) 3 (h.t.rc j) (fun c=> .int .i64 (h.X j c))
 siz:h.hi<=w.heap.size
 rh:h.lo<=h.bh/\h.bh<h.hi
 ra:h.lo<=h.t.ba/\h.t.ba<h.hi
 rn:h.lo<=h.t.bn/\h.t.bn<h.hi
 rr:∀j,j<h.t.cn->0<h.t.rc j->h.lo<=h.t.rb j/\h.t.rb j<h.hi
 sa:h.lo<=h.wa/\h.wa<h.hi
 sn:h.lo<=h.wn/\h.wn<h.hi
 sr:∀j,j<h.t.cn->0<h.t.rc j->h.lo<=h.wb j/\h.wb j<h.hi
 daw:h.t.ba≠h.wa
 drr:∀i j,i<j->j<h.t.cn->0<h.t.rc i->0<h.t.rc j->h.t.rb i≠h.t.rb j
 dww:∀i j,i<j->j<h.t.cn->0<h.t.rc i->0<h.t.rc j->h.wb i≠h.wb j
 drw:∀i j,i<h.t.cn->j<h.t.cn->0<h.t.rc i->0<h.t.rc j->h.t.rb i≠h.wb j
theorem HdAt.keep {w w':World}{h:Hd}(a:HdAt w h)(hb:∀k,h.lo<=k->k<h.hi->w'.heap[k]? =w.heap[k]?)(hs:w.heap.size<=w'.heap.size):HdAt w' h where
 blk:=by rw[hb _ a.rh.1 a.rh.2];exact a.blk
 tl:=⟨a.tl.na,a.tl.ca,a.tl.ca1,a.tl.nn,a.tl.cn,a.tl.cn1,a.tl.rl,a.tl.rc,a.tl.acc.of_block (hb _ a.ra.1 a.ra.2),a.tl.nxt.of_block (hb _ a.rn.1 a.rn.2),fun i hi hc=>(a.tl.row i hi hc).of_block (hb _ (a.rr i hi hc).1 (a.rr i hi hc).2)⟩
 wacc:=a.wacc.of_block (hb _ a.sa.1 a.sa.2)
 wnxt:=a.wnxt.of_block (hb _ a.sn.1 a.sn.2)
 wrow j hj hc:=(a.wrow j hj hc).of_block (hb _ (a.sr j hj hc).1 (a.sr j hj hc).2)
 siz:=Nat.le_trans a.siz hs
 rh:=a.rh
 ra:=a.ra
 rn:=a.rn
 rr:=a.rr
 sa:=a.sa
 sn:=a.sn
 sr:=a.sr
 daw:=a.daw
 drr:=a.drr
 dww:=a.dww
 drw:=a.drw
theorem HdAt.below {w w':World}{h:Hd}(a:HdAt w h)(hb:Below w.heap.size w w'):HdAt w' h:=a.keep (fun k _ hk=>hb.block k (Nat.lt_of_lt_of_le hk a.siz)) hb.size
theorem f5_ {w:World}{b:Nat}{x y z u:Value}{t:TypeId}(h:w.heap[b]? =some (.cells #[x,y,z,u] t (0,0))):w.cell? ⟨b,0,none⟩=some x/\w.cell? ⟨b,1,none⟩=some y/\w.cell? ⟨b,2,none⟩=some z/\w.cell? ⟨b,3,none⟩=some u:=by
 simp[World.cell?,h]
theorem vm_ (t:TL)(A:Nat->Bool)(X:Nat->Nat->Int)(N:Nat)(w:World)(h:TLAt w t A X)(ra:N<=t.ba)(rn:N<=t.bn)(rr:∀j,j<t.cn->0<t.rc j->N<=t.rb j)
 (drr:∀i j,i<j->j<t.cn->0<t.rc i->0<t.rc j->t.rb i≠t.rb j):
 Calls prog 14 #[.agg #[.slice (some ⟨t.ba,0,none⟩) t.na t.ca,.slice (some ⟨t.bn,0,none⟩) t.nn t.cn]] w
  fun e w'=>Below w.heap.size w w'/\∃d:Hd,e= .returned (.pointer (some ⟨d.bh,0,none⟩))/\HdAt w' d/\d.t=t/\d.A=A/\d.X=X/\d.lo=N/\d.hi=w'.heap.size:=by
 have g3:=h.ca1;have g6:=h.cn1;have g2:=h.ca;have g5:=h.cn;have hN:N<w.heap.size:=by have:=h.acc.lt;omega
 obtain⟨W,hW,BW,hWs,b0⟩:=nw__ w #[.slice (some ⟨t.ba,0,none⟩) t.na t.ca,.slice (some ⟨t.bn,0,none⟩) t.nn t.cn] 41;have hT0:=h.below BW;go_enter func14,ntmps14;go_wp2_with fail;rw[<-hW];clear hW;refine(ns_ t A X W hT0).mono ?_;rintro e w1 ⟨hB1,g,cap,rfl,hg,hG⟩;have hs1:=hB1.size;have hT1:=hT0.below hB1;have a0:=(hB1.block _ o_).trans b0;have BW1:Below w.heap.size w w1:=BW.trans (hB1.mono o_);go_upto_region 2 with fail;obtain⟨W2,hW2,hB2,hs2,c0⟩:=nw__ w1 #[.slice (some ⟨t.ba,0,none⟩) t.ca t.ca,.slice (some ⟨g,0,none⟩) t.cn cap] 41;have c1:=(hB2.block _ o_).trans a0;have hT2:=hT1.below hB2;have hR:cz_ W2 ⟨some ⟨t.ba,0,none⟩,some ⟨g,0,none⟩,t.ca,t.ca,t.cn,cap,fun i=>if t.rc i=0 then none else some ⟨t.rb i,0,none⟩,t.rc,fun i=>if t.rc i=0 then 0 else t.rc i⟩ A X:=
  oz_ _ _ (fun _=>⟨rfl,hT2.acc⟩) (fun _=>⟨rfl,hG.below hB2⟩) hT2.row o_ o_ (fun i hi=>by have:=h.rc i hi;omega)
 have HC:=qf_ _ _ _ _ _ _ _ _ _ A X W2.drew (hR.below (br__.drew)) o_ o_ (fun i hi=>by have:=h.rc i hi;omega);have hb12:Below w.heap.size w W2:=BW1.trans (hB2.mono o_);rw[<-hW2];have HH:Hid _:=h;have HB:=hi__ hb12;have HRR:Hid _:=rr;have HDD:Hid _:=drr;clear hW2 hB1 hB2 hT0 hT1 hG hT2 hR a0 b0 BW BW1 h rr drr hb12;obtain⟨x0,x1,_,_⟩:=aa_ c0;obtain⟨x2,x3,_,_⟩:=aa_ c1;go_region_with (go_at_call 26;refine Calls.mono HC ?_;rintro e w3 ⟨hB3',ga,ca',gn,cn',rb,rc,rfl,hC⟩;have hB3:Below W2.heap.size W2 w3:=((Below.refl W2.heap.size W2).drew).trans hB3';clear hB3';rw[show lstv ga t.ca ca'= .slice (some ⟨ga,0,none⟩) t.ca ca' from if_neg o_,show lstv gn t.cn cn'= .slice (some ⟨gn,0,none⟩) t.cn cn' from if_neg o_];obtain⟨u2,u3,_,_⟩:=aa_ ((hB3.block _ o_).trans c1);have HCC:Hid (hv_ W2.heap.size w3 ga gn rb rc t.ca t.cn t.rc A X):=hC;have HB3:=hi__ hB3;have hs3:=hB3.size;clear hC hB3)
 all_goals go_wp2_with fail
 all_goals go_ret
 all_goals
  have hh:=HH.out;have cc:=HCC.out;have hb3:Below w.heap.size w w3:=HB.out.trans (HB3.out.mono o_);have hsz:=hb3.size;have hb4:Below w.heap.size w (w3.alloc (.cells #[.slice (some ⟨t.ba,0,none⟩) t.na t.ca,.slice (some ⟨t.bn,0,none⟩) t.nn t.cn,.slice (some ⟨ga,0,none⟩) t.ca ca',.slice (some ⟨gn,0,none⟩) t.cn cn'] 54)):=hb3.alloc o_ _;refine⟨hb4,⟨w3.heap.size,t,ga,ca',gn,cn',rb,rc,A,X,N,w3.heap.size+1⟩,rfl, ?_,rfl,rfl,rfl,rfl,i_⟩;have l1:=hh.acc.lt;have l2:=hh.nxt.lt;have l3:=(cc.acc o_).2.lt;have l4:=(cc.nxt o_).2.lt;have l5:=(cc.acc o_).1;have l6:=(cc.nxt o_).1;refine⟨ag_ rfl,hh.below hb4,(cc.acc o_).2.alloc _,(cc.nxt o_).2.alloc _,fun j hj hc=>(cc.row j hj hc).2.alloc _,i_,⟨s_,i_⟩,⟨ra,s_⟩,⟨rn,s_⟩,fun j hj hc=>⟨HRR.out j hj hc,by have:=(hh.row j hj hc).lt;simp;omega⟩,⟨s_,s_⟩,⟨s_,s_⟩,
   fun j hj hc=>⟨by have:=(cc.row j hj hc).1;simp;omega,by have:=(cc.row j hj hc).2.lt;simp;omega⟩,s_,HDD.out,cc.dis,fun i j hi hj hci hcj=> ?_⟩
  have l7:=(hh.row i hi hci).lt;have l8:=(cc.row j hj hcj).1;simp;omega
theorem ab4_ (d:Hd)(w:World)(h:HdAt w d):
 Calls prog 23 #[.pointer (some ⟨d.bh,0,none⟩)] w fun e w'=>e= .returned (.bool true)/\Below w.heap.size w w':=by
 have g3:=h.tl.ca1;have g6:=h.tl.cn1;have g2:=h.tl.ca;have g5:=h.tl.cn;have hlt:=ac_ h.blk;obtain⟨x0,x1,x2,x3⟩:=f5_ h.blk;have HC:=ns_ d.t d.A d.X w h.tl;go_enter func23,ntmps23;go_wp2_with fail;refine HC.mono ?_;clear HC;rintro e w1 ⟨hB1,g,cap,rfl,hg,hG⟩;have h1:=h.below hB1;have hs1:=hB1.size;clear x0 x1 x2 x3;go_upto_region 2 with fail;obtain⟨W2,hW2,hB2,-,c0⟩:=nw__ w1 #[.slice (some ⟨d.t.ba,0,none⟩) d.t.ca d.t.ca,.slice (some ⟨g,0,none⟩) d.t.cn cap] 41;have h2:=h1.below hB2;obtain⟨x0,x1,x2,x3⟩:=f5_ h2.blk;obtain⟨y0,y1,_,_⟩:=aa_ c0;have bd:∀i,i<d.t.cn->d.t.rc i<=9223372036854775807:=fun i hi=>by have:=h.tl.rc i hi;omega
 have hR:cz_ W2 ⟨some ⟨d.t.ba,0,none⟩,some ⟨g,0,none⟩,d.t.ca,d.t.ca,d.t.cn,cap,fun i=>if d.t.rc i=0 then none else some ⟨d.t.rb i,0,none⟩,d.t.rc,fun i=>if d.t.rc i=0 then 0 else d.t.rc i⟩ d.A d.X:=
  oz_ _ _ (fun _=>⟨rfl,h2.tl.acc⟩) (fun _=>⟨rfl,hG.below hB2⟩) h2.tl.row o_ o_ bd
 have hR':cz_ W2 ⟨some ⟨d.wa,0,none⟩,some ⟨d.wn,0,none⟩,d.t.ca,d.wca,d.t.cn,d.wcn,fun i=>if d.t.rc i=0 then none else some ⟨d.wb i,0,none⟩,d.t.rc,fun i=>if d.t.rc i=0 then 0 else d.wc i⟩ d.A d.X:=
  oz_ _ _ (fun _=>⟨rfl,h2.wacc⟩) (fun _=>⟨rfl,h2.wnxt⟩) h2.wrow o_ o_ bd
 have HC:=rl_ _ _ _ _ _ _ _ _ _ _ _ _ _ _ _ d.A d.X W2.drew (hR.below (br__.drew)) (hR'.below (br__.drew));rw[<-hW2];have HB:Hid (Below w.heap.size w W2):=hB1.trans (hB2.mono o_);have hs2:=hB2.size;clear hW2 hB1 hB2 hG hR hR' h h1 c0 bd h2;go_region_with (go_at_call 58;refine Calls.mono HC ?_;rintro e w3 ⟨rfl,hB3'⟩;have HB3:Hid (Below W2.heap.size W2 w3):=((Below.refl W2.heap.size W2).drew).trans hB3';clear hB3')
 all_goals go_wp2_with fail
 all_goals go_ret
 all_goals exact⟨rfl,HB.out.trans (HB3.out.mono o_)⟩
def ex_ (c:Int)(n:Nat):Nat:=if c<0 then((-(c+1))%n).toNat else(c%n).toNat
theorem f6_ (c:Int)(n:Nat)(h:1<=n):ex_ c n<n:=by
 unfold ex_;split
 . have:=Int.emod_lt_of_pos (-(c+1)) (b:=(n:Int)) o_;have:=Int.emod_nonneg (-(c+1)) (b:=(n:Int)) o_;omega
 . have:=Int.emod_lt_of_pos c (b:=(n:Int)) o_;have:=Int.emod_nonneg c (b:=(n:Int)) o_;omega
theorem ze_ (c n:Int)(h:c<0): -((c+1).tmod n)=(-(c+1))%n:=by
 rw[<-Int.neg_tmod,Int.tmod_eq_emod_of_nonneg o_]
theorem gq_ (c:Int)(n:Int)(w:World)(h1:1<=n)(h2:n<=4398046511104)(hc1: -9223372036854775808<=c)(hc2:c<=9223372036854775807):
 Calls prog 16 #[.int .i64 c,.int .i64 n] w fun e w'=>e= .returned (.int .i64 (ex_ c n.toNat))/\w'=w:=by
 have hn:((n.toNat:Nat):Int)=n:=o_;by_cases h:c<0
 . have he:((ex_ c n.toNat:Nat):Int)=(-(c+1))%n:=by
    unfold ex_;rw[if_pos h,hn];have:=Int.emod_nonneg (-(c+1)) (b:=n) o_;omega
   rw[he];clear he hn;go_enter func16,ntmps16;go_wp2
   go_ret;exact⟨ej_ (ze_ c n h),rfl⟩
 . have he:((ex_ c n.toNat:Nat):Int)=c%n:=by
    unfold ex_;rw[if_neg h,hn];have:=Int.emod_nonneg c (b:=n) o_;omega
   rw[he];clear he hn;go_enter func16,ntmps16;go_wp2
   go_ret;exact⟨rfl,rfl⟩
theorem bo_ {w:World}{b b' t t' n:Nat}{c:Array Value}{f:Nat->Value}(h:w.heap[b]? =some (.cells c t (0,0)))(h':ar_ w b' t' n f)(ht:t≠t'):b≠b':=by
 obtain⟨c',hb',_,_⟩:=h';intro e;subst e;rw[h]at hb';simp only[Option.some.injEq,Obj.cells.injEq]at hb';exact ht hb'.2.1
theorem HdAt.put {w:World}{d:Hd}(a:HdAt w d){i j:Nat}(hi:i<d.t.cn)(hc:0<d.t.rc i)(c:Int):
 HdAt ((w.setCell ⟨d.t.rb i,j,none⟩ (.int .i64 c)).setCell ⟨d.wb i,j,none⟩ (.int .i64 c)) {d with X:=fun x y=>if x=i then(if y=j then c else d.X i y)else d.X x y}:=by
 have r1:=a.tl.row i hi hc;have r2:=a.wrow i hi hc;have hrw:=a.drw i i hi hi hc hc;have e1:=bo_ a.blk r1 d_;have e2:=bo_ a.blk r2 d_;refine⟨aj_ (aj_ a.blk e1) e2,⟨a.tl.na,a.tl.ca,a.tl.ca1,a.tl.nn,a.tl.cn,a.tl.cn1,a.tl.rl,a.tl.rc, ?_, ?_,fun x hx hxc=> ?_⟩, ?_, ?_,fun x hx hxc=> ?_,by have:=a.siz;simpa using this,a.rh,a.ra,a.rn,a.rr,a.sa,a.sn,a.sr,a.daw,a.drr,a.dww,a.drw⟩
 . exact(a.tl.acc.setOther (a.tl.acc.ne r1 d_) _).setOther (a.tl.acc.ne r2 d_) _
 . exact(a.tl.nxt.setOther (a.tl.nxt.ne r1 d_) _).setOther (a.tl.nxt.ne r2 d_) _
 . by_cases e:x=i
   . subst e;refine((r1.set j _).setOther hrw _).congr (fun y _=> ?_);simp only[if_true];by_cases e:y=j<;>simp[e]
   . simp only[if_neg e];refine((a.tl.row x hx hxc).setOther ?_ _).setOther (a.drw x i hx hi hxc hc) _;rcases Nat.lt_or_gt_of_ne e with h|h
     . exact a.drr x i h hi hxc hc
     . exact fun e'=>a.drr i x h hx hc hxc e'.symm
 . exact(a.wacc.setOther (a.wacc.ne r1 d_) _).setOther (a.wacc.ne r2 d_) _
 . exact(a.wnxt.setOther (a.wnxt.ne r1 d_) _).setOther (a.wnxt.ne r2 d_) _
 . by_cases e:x=i
   . subst e;refine((r2.setOther (fun e'=>hrw e'.symm) _).set j _).congr (fun y _=> ?_);simp only[if_true];by_cases e:y=j<;>simp[e]
   . simp only[if_neg e];refine((a.wrow x hx hxc).setOther (fun e'=>a.drw i x hi hx hc hxc e'.symm) _).setOther ?_ _;rcases Nat.lt_or_gt_of_ne e with h|h
     . exact a.dww x i h hi hxc hc
     . exact fun e'=>a.dww i x h hx hc hxc e'.symm
theorem HdAt.flip {w:World}{d:Hd}(a:HdAt w d){i:Nat}(v:Bool):
 HdAt ((w.setCell ⟨d.t.ba,i,none⟩ (.bool v)).setCell ⟨d.wa,i,none⟩ (.bool v)) {d with A:=fun x=>if x=i then v else d.A x}:=by
 have r1:=a.tl.acc;have r2:=a.wacc;have hrw:=a.daw;have e1:=bo_ a.blk r1 d_;have e2:=bo_ a.blk r2 d_;refine⟨aj_ (aj_ a.blk e1) e2,⟨a.tl.na,a.tl.ca,a.tl.ca1,a.tl.nn,a.tl.cn,a.tl.cn1,a.tl.rl,a.tl.rc, ?_, ?_,fun x hx hxc=> ?_⟩, ?_, ?_,fun x hx hxc=> ?_,by have:=a.siz;simpa using this,a.rh,a.ra,a.rn,a.rr,a.sa,a.sn,a.sr,a.daw,a.drr,a.dww,a.drw⟩
 . refine((r1.set i _).setOther hrw _).congr (fun y _=> ?_);by_cases e:y=i<;>simp[e]
 . exact(a.tl.nxt.setOther (a.tl.nxt.ne r1 d_) _).setOther (a.tl.nxt.ne r2 d_) _
 . exact((a.tl.row x hx hxc).setOther ((a.tl.row x hx hxc).ne r1 d_) _).setOther ((a.tl.row x hx hxc).ne r2 d_) _
 . refine((r2.setOther (fun e'=>hrw e'.symm) _).set i _).congr (fun y _=> ?_);by_cases e:y=i<;>simp[e]
 . exact(a.wnxt.setOther (a.wnxt.ne r1 d_) _).setOther (a.wnxt.ne r2 d_) _
 . exact((a.wrow x hx hxc).setOther ((a.wrow x hx hxc).ne r1 d_) _).setOther ((a.wrow x hx hxc).ne r2 d_) _
theorem ab_.drew {S:Nat->Prop}{w w':World}(h:ab_ S w w'):ab_ S w w'.drew:=⟨h.os,h.tape,h.output,h.size,h.block⟩
theorem ab5_ (d:Hd)(r k c:Int)(w:World)(h:HdAt w d)(hr1: -9223372036854775808<=r)(hr2:r<=9223372036854775807)(hk1: -9223372036854775808<=k)(hk2:k<=9223372036854775807):
 Calls prog 17 #[.pointer (some ⟨d.bh,0,none⟩),.int .i64 r,.int .i64 k,.int .i64 c] w
  fun e w'=>e= .returned (.tuple #[])/\∃A X,HdAt w' {d with A:=A,X:=X}/\ab_ (fun b=>d.lo<=b/\b<d.hi) w w':=by
 have g3:=h.tl.ca1;have g6:=h.tl.cn1;have g2:=h.tl.ca;have g5:=h.tl.cn;have hlt:=ac_ h.blk;obtain⟨x0,x1,x2,x3⟩:=f5_ h.blk;have HC:=ns_ d.t d.A d.X w h.tl;go_enter func17,ntmps17;go_wp2_with fail;refine HC.mono ?_;clear HC;rintro e w1 ⟨hB1,g,cap,rfl,hg,hG⟩;have hs1:=hB1.size;clear x0 x1 x2 x3;go_upto_region 1 with fail;obtain⟨W2,hW2,hB2,hs2,c0⟩:=nw__ w1 #[.slice (some ⟨d.t.ba,0,none⟩) d.t.ca d.t.ca,.slice (some ⟨g,0,none⟩) d.t.cn cap] 41;have h2:=(h.below hB1).below hB2;have hG2:=hG.below hB2;rw[<-hW2];have HT:Hid (ab_ (fun b=>d.lo<=b/\b<d.hi) w W2):=by
  have:=hB1.trans (hB2.mono (show w.heap.size<=w1.heap.size by omega));exact⟨this.os,this.tape,this.output,this.size,fun k hk _=>this.block k hk⟩
 have hsz:=h.siz;clear hW2 hB1 hB2 hG;have H2:Hid (HdAt W2 d):=h2;obtain⟨y0,y1,_,_⟩:=aa_ c0;obtain⟨pi,HPI⟩:=hx__ (ex_ r d.t.cn);have hpi:pi<d.t.cn:=by rw[<-HPI.out];exact f6_ _ _ o_
 have HP1:=gq_ r d.t.cn W2 o_ o_ hr1 hr2;rw[Int.toNat_natCast,HPI.out]at HP1;have z0:=hG2.cell hpi;have hrc:=h.tl.rc pi hpi;clear h hG2;by_cases hr0:d.t.rc pi=0
 . have e1:rowv d.t.rb d.t.rc d.t.rc pi= .slice none 0 0:=by unfold rowv;rw[if_pos hr0]
   rw[e1]at z0;clear e1 h2 hr0;go_upto_region 7 with (go_at_call 16;refine HP1.mono ?_;rintro e w' ⟨rfl,hw'⟩;obtain rfl:W2=w':=hw'.symm);obtain⟨X,HD⟩:∃X,Hid (HdAt W2 {d with X:=X}):=⟨d.X,H2⟩;have hT:Hid (ab_ (fun b=>d.lo<=b/\b<d.hi) w W2):=HT;obtain⟨wc,HWC⟩:=ew__ W2;rw[<-HWC]at HD hT c0 ⊢;clear HP1 z0 H2 y0 y1 HT hpi hrc HWC;obtain⟨y0,y1,_,_⟩:=aa_ c0;obtain⟨x0,x1,x2,x3⟩:=f5_ HD.out.blk;simp only at x0 x1 x2 x3;obtain⟨pa,HPA⟩:=hx__ (ex_ k d.t.ca);have hpa:pa<d.t.ca:=by rw[<-HPA.out];exact f6_ _ _ o_
   have HP1:=gq_ k d.t.ca wc o_ o_ hk1 hk2;rw[Int.toNat_natCast,HPA.out]at HP1;have r1:ar_ wc d.t.ba 4 d.t.ca (fun i=> .bool (d.A i)):=HD.out.tl.acc;have r2:ar_ wc d.wa 4 d.t.ca (fun i=> .bool (d.A i)):=HD.out.wacc;have k1:=r1.cell hpa;have k2:=r2.cell hpa;have k3:=r1.frozen pa;have k4:=r2.frozen pa;have d1:¬d.t.ba=d.wa:=HD.out.daw;have d1':¬d.wa=d.t.ba:=fun e=>d1 e.symm
   have d2:¬d.bh=d.t.ba:=bo_ HD.out.blk r1 d_;have d3:¬d.bh=d.wa:=bo_ HD.out.blk r2 d_;have d5:¬w1.heap.size=d.t.ba:=bo_ c0 r1 d_;have d6:¬w1.heap.size=d.wa:=bo_ c0 r2 d_;have v1:d.lo<=d.t.ba/\d.t.ba<d.hi:=HD.out.ra;have v2:d.lo<=d.wa/\d.wa<d.hi:=HD.out.sa;have hgt:(0:Int)<(d.t.ca:Int):=o_;clear r1 r2 c0;go_wp2_with (go_at_call 16;refine HP1.mono ?_;rintro e w' ⟨rfl,hw'⟩;obtain rfl:wc=w':=hw'.symm);go_region
   go_wp2_with fail;go_region
   go_wp2_with fail;go_end0
   exact⟨rfl,_,_,((HD.out.flip (i:=pa) (!d.A pa)).below (br__.drew)).below (br__.drew),(((hT.out.set ⟨d.t.ba,pa,none⟩ _ (.inl v1)).set ⟨d.wa,pa,none⟩ _ (.inl v2)).drew).drew⟩
 . have e1:rowv d.t.rb d.t.rc d.t.rc pi= .slice (some ⟨d.t.rb pi,0,none⟩) (d.t.rc pi) (d.t.rc pi):=by unfold rowv;rw[if_neg hr0]
   rw[e1]at z0;have hrp:0<d.t.rc pi:=o_;obtain⟨x0,x1,x2,x3⟩:=f5_ h2.blk;have e2:=h2.wnxt.cell hpi;rw[show rowv d.wb d.t.rc d.wc pi= .slice (some ⟨d.wb pi,0,none⟩) (d.t.rc pi) (d.wc pi)from by unfold rowv;rw[if_neg hr0]]at e2;obtain⟨pj,HPJ⟩:=hx__ (ex_ k (d.t.rc pi));have hpj:pj<d.t.rc pi:=by rw[<-HPJ.out];exact f6_ _ _ o_
   have HP2:=gq_ k (d.t.rc pi) W2 o_ o_ hk1 hk2;rw[Int.toNat_natCast,HPJ.out]at HP2;have r1:=h2.tl.row pi hpi hrp;have r2:=h2.wrow pi hpi hrp;have k1:=r1.cell hpj;have k2:=r2.cell hpj;have k3:=r1.frozen pj;have k4:=r2.frozen pj;have d1:=h2.drw pi pi hpi hpi hrp hrp;have d1':¬d.wb pi=d.t.rb pi:=fun e=>d1 e.symm
   have d2:=bo_ h2.blk r1 d_;have d3:=bo_ h2.blk r2 d_;have d4:¬d.wn=d.t.rb pi:=h2.wnxt.ne r1 d_;have d5:¬w1.heap.size=d.t.rb pi:=bo_ c0 r1 d_;have d6:¬w1.heap.size=d.wb pi:=bo_ c0 r2 d_;have v1:=h2.rr pi hpi hrp;have v2:=h2.sr pi hpi hrp;have hgt:(0:Int)<(d.t.rc pi:Int):=o_;clear e1 h2 r1 r2 hr0;go_upto_region 7 with (first|(go_at_call 16;refine HP1.mono ?_;rintro e w' ⟨rfl,hw'⟩;obtain rfl:W2=w':=hw'.symm;clear HP1 hw')|(go_at_call 16;refine HP2.mono ?_;rintro e w' ⟨rfl,hw'⟩;obtain rfl:W2=w':=hw'.symm));obtain⟨wc,HWC⟩:=ew__ ((W2.setCell ⟨d.t.rb pi,pj,none⟩ (.int .i64 c)).setCell ⟨d.wb pi,pj,none⟩ (.int .i64 c));obtain⟨X,HX⟩:∃X,Hid (X=fun x y=>if x=pi then(if y=pj then c else d.X pi y)else d.X x y):=⟨_,rfl⟩;have HD:Hid (HdAt wc {d with X:=X}):=by rw[HWC,HX.out];exact H2.out.put hpi hrp c (j:=pj)
   have hT:Hid (ab_ (fun b=>d.lo<=b/\b<d.hi) w wc):=by rw[HWC];exact(HT.out.set _ _ (.inl v1)).set ⟨d.wb pi,pj,none⟩ _ (.inl v2)
   have c0':wc.heap[w1.heap.size]? =some (.cells #[.slice (some ⟨d.t.ba,0,none⟩) d.t.ca d.t.ca,.slice (some ⟨g,0,none⟩) d.t.cn cap] 41 (0,0)):=by rw[HWC];exact aj_ (aj_ c0 d5) d6
   rw[<-HWC];clear HP2 z0 H2 y0 y1 HT hpi hrc HX HWC x0 x1 x2 x3 e2 k1 k2 k3 k4 d1 d1' d2 d3 d4 d5 d6 v1 v2 c0 hpj hgt;have c0:=c0';clear c0';obtain⟨y0,y1,_,_⟩:=aa_ c0;obtain⟨x0,x1,x2,x3⟩:=f5_ HD.out.blk;simp only at x0 x1 x2 x3;obtain⟨pa,HPA⟩:=hx__ (ex_ k d.t.ca);have hpa:pa<d.t.ca:=by rw[<-HPA.out];exact f6_ _ _ o_
   have HP1:=gq_ k d.t.ca wc o_ o_ hk1 hk2;rw[Int.toNat_natCast,HPA.out]at HP1;have r1:ar_ wc d.t.ba 4 d.t.ca (fun i=> .bool (d.A i)):=HD.out.tl.acc;have r2:ar_ wc d.wa 4 d.t.ca (fun i=> .bool (d.A i)):=HD.out.wacc;have k1:=r1.cell hpa;have k2:=r2.cell hpa;have k3:=r1.frozen pa;have k4:=r2.frozen pa;have d1:¬d.t.ba=d.wa:=HD.out.daw;have d1':¬d.wa=d.t.ba:=fun e=>d1 e.symm
   have d2:¬d.bh=d.t.ba:=bo_ HD.out.blk r1 d_;have d3:¬d.bh=d.wa:=bo_ HD.out.blk r2 d_;have d5:¬w1.heap.size=d.t.ba:=bo_ c0 r1 d_;have d6:¬w1.heap.size=d.wa:=bo_ c0 r2 d_;have v1:d.lo<=d.t.ba/\d.t.ba<d.hi:=HD.out.ra;have v2:d.lo<=d.wa/\d.wa<d.hi:=HD.out.sa;have hgt:(0:Int)<(d.t.ca:Int):=o_;clear r1 r2 c0;go_wp2_with (go_at_call 16;refine HP1.mono ?_;rintro e w' ⟨rfl,hw'⟩;obtain rfl:wc=w':=hw'.symm);go_region
   go_wp2_with fail;go_region
   go_wp2_with fail;go_end0
   exact⟨rfl,_,_,((HD.out.flip (i:=pa) (!d.A pa)).below (br__.drew)).below (br__.drew),(((hT.out.set ⟨d.t.ba,pa,none⟩ _ (.inl v1)).set ⟨d.wa,pa,none⟩ _ (.inl v2)).drew).drew⟩
def TL.lay (t:TL):RLay:=⟨some ⟨t.ba,0,none⟩,some ⟨t.bn,0,none⟩,t.na,t.ca,t.nn,t.cn,fun i=>if t.rc i=0 then none else some ⟨t.rb i,0,none⟩,t.rl,fun i=>if t.rc i=0 then 0 else t.rc i⟩
theorem TLAt.raw {w:World}{t:TL}{A:Nat->Bool}{X:Nat->Nat->Int}(h:TLAt w t A X):cz_ w t.lay A X where
 la:=by have:=h.na;have:=h.ca;show t.na<=_;omega
 ln:=by have:=h.nn;have:=h.cn;show t.nn<=_;omega
 lr i hi:=by
  have h1:i<t.nn:=hi;have:=h.nn;have:=h.rl i o_;have:=h.rc i o_;show t.rl i<=_;omega
 acc i hi:=⟨t.ba,0,rfl,by rw[Nat.zero_add];exact h.acc.cell (Nat.lt_of_lt_of_le hi h.na)⟩
 row i hi:=by
  have h1:i<t.nn:=hi;have h2:=h.nn;refine⟨t.bn,0,rfl, ?_⟩;rw[Nat.zero_add,h.nxt.cell o_];unfold tlv TL.lay;by_cases e:t.rc i=0
  . have:=h.rl i o_;simp only[if_pos e];rw[show t.rl i=0 by omega]
  . simp only[if_neg e]
 cel i c hi hc:=by
  have h1:i<t.nn:=hi;have h2:=h.nn;have h3:c<t.rl i:=hc;have h4:=h.rl i o_;refine⟨t.rb i,0, ?_,by rw[Nat.zero_add];exact(h.row i o_ o_).cell o_⟩;show(if t.rc i=0 then none else some (⟨t.rb i,0,none⟩:Addr))=_
  rw[if_neg o_]
theorem jz_ {r r':RLay}{X:Nat->Nat->Int}(h1:r.na=r'.na)(h2:r.nn=r'.nn)(h3:r.rl=r'.rl):c0_ r X=c0_ r' X:=by
 have:∀k,cf_ r X k=cf_ r' X k:=by
  intro k;induction k with
  |zero=>rfl
  |succ k ih=>simp only[cf_,ih,h2,h3]
 simp only[c0_,h1,h2,this]
theorem s6_ {r r':RLay}{A:Nat->Bool}{X:Nat->Nat->Int}(h:r.nn=r'.nn):db_ r A X=db_ r' A X:=by simp only[db_,h]
theorem hv_.raw {N:Nat}{w:World}{ga gn:Nat}{rb rc:Nat->Nat}{na nn:Nat}{rl:Nat->Nat}{A:Nat->Bool}{X:Nat->Nat->Int}(h:hv_ N w ga gn rb rc na nn rl A X)(ca cn:Nat)(b1:na<=9223372036854775807)(b2:nn<=9223372036854775807)(b3:∀i,i<nn->rl i<=9223372036854775807):
 cz_ w ⟨if na=0 then none else some ⟨ga,0,none⟩,if nn=0 then none else some ⟨gn,0,none⟩,na,if na=0 then 0 else ca,nn,if nn=0 then 0 else cn,fun i=>if rl i=0 then none else some ⟨rb i,0,none⟩,rl,fun i=>if rl i=0 then 0 else rc i⟩ A X:=
 oz_ _ _ (fun h0=>⟨if_neg o_,(h.acc h0).2⟩) (fun h0=>⟨if_neg o_,(h.nxt h0).2⟩) (fun j hj hl=>(h.row j hj hl).2) b1 b2 b3
theorem bn_ {w:World}{b:Nat}{x0 x1 x2 x3 x4 x5 x6:Value}{t:TypeId}(h:w.heap[b]? =some (.cells #[x0,x1,x2,x3,x4,x5,x6] t (0,0))):w.cell? ⟨b,0,none⟩=some x0/\w.cell? ⟨b,1,none⟩=some x1/\w.cell? ⟨b,2,none⟩=some x2/\w.cell? ⟨b,3,none⟩=some x3/\w.cell? ⟨b,4,none⟩=some x4/\w.cell? ⟨b,5,none⟩=some x5/\w.cell? ⟨b,6,none⟩=some x6:=by
 simp[World.cell?,h]
end Go.Proofs.YtpngikmcjkjdaaaGreatDoor
