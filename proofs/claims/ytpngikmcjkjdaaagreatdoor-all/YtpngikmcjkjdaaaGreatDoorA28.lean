import Derived.Deep.RegionWith
import Derived.Test.YtpngikmcjkjdaaaGreatDoorA16
import Derived.Test.YtpngikmcjkjdaaaGreatDoorA17
set_option linter.unusedVariables false
set_option linter.unusedSimpArgs false
set_option maxRecDepth 20000
set_option maxHeartbeats 80000000
namespace Go.Proofs.YtpngikmcjkjdaaaGreatDoor
open Go.RowKit Tryz List Nat
variable {s:ByteArray} {e:Ending} {bp i:Nat} {w w1 w2 w3:World}
theorem τ.touched {t t1:Sp}{vn:Value}{L:List Nd}(h:τ w bp s t vn L)(hp:υ w1 bp s t1.a vn t1.bk (t1.sp:Int))(ht:ε (fun k=>k=bp) w w1):τ w1 bp s t1 vn L:=
 ⟨hp,ht.own h.own (fun g hg e=>by have:=(h.own.lt g hg).1;omega)⟩
theorem Χ (ht:ε (fun k=>k=bp) w w1)(hbp:bp<w.heap.size):Below bp w w1:=ht.below (Below.refl bp w) o_ (fun k e=>by have e':k=bp:=e;omega)
def cb_ (bp:Nat)(s:ByteArray)(L:List Nd)(bound:Nat)(r:ψ ζ)(w:World)(e:Ending)(w':World):Prop:=
 match r with
 | .no t'=>(∃v:Int,e= .returned (.tuple #[.int .i64 v,.bool false]))/\(∃vn' L',τ w' bp s t' vn' L')/\Below bp w w'
 | .ok p t'=>∃(i:Nat) (vn':Value) (M:List Nd),e= .returned (.tuple #[.int .i64 (i:Int),.bool true])/\τ w' bp s t' vn' (L++M)/\b3_ (L++M) i p/\M.length+4*(s.size - t'.a)<=bound/\Below bp w w'
def ph_ (k:Nat):Prop:=∀(bp:Nat) (s:ByteArray) (t:Sp) (vn:Value) (L:List Nd) (w:World) (d:Int),d=6 - (k:Int)->s.size<=40->t.a<=s.size->L.length+4*(s.size - t.a)<=900->τ w bp s t vn L->
 Calls prog 188 #[.pointer (some ⟨bp,0,none⟩),.int .i64 d] w (cb_ bp s L (4*(s.size - t.a)- 2) (bh_ s k t) w)
def rt_ (k:Nat):Prop:=∀(bp:Nat) (s:ByteArray) (t:Sp) (vn:Value) (L:List Nd) (w:World) (d:Int),d=6 - (k:Int)->s.size<=40->t.a<=s.size->L.length+4*(s.size - t.a)<=897->τ w bp s t vn L->
 Calls prog 141 #[.pointer (some ⟨bp,0,none⟩),.int .i64 d] w (cb_ bp s L (4*(s.size - t.a)+1) (ec_ s (bh_ s k) t) w)
theorem afl_ (L:List Nd)(f:Nat->Bool):b3_ (L++ [⟨1,1,f,0,0,false,0,0⟩]) L.length (.one f):= .one (d:=⟨1,1,f,0,0,false,0,0⟩) i_ rfl rfl rfl
theorem cb_.single {t t':Sp}{L:List Nd}{f:Nat->Bool}(hb:Below bp w w1)(ha:kt_ bp s t' L ⟨1,1,f,0,0,false,0,0⟩ w1 e w2)(h1:t.a<t'.a)(h2:t'.a<=s.size):
 ∃vn':Value,e= .returned (.int .i64 ((L.length:Nat):Int))/\cb_ bp s L (4*(s.size - t.a)- 2) (.ok (.one f) t') w (.returned (.tuple #[.int .i64 ((L.length:Nat):Int),.bool true])) w2:=by
 obtain⟨rfl,vn',c,b⟩:=ha;exact⟨vn',rfl,L.length,vn',[⟨1,1,f,0,0,false,0,0⟩],rfl,c,afl_ L f,s_,hb.trans b⟩
theorem afm_:ph_ 0:=by
 intro g s t p L w d hd S an hM M;obtain rfl:d=6:=o_;clear hd;have ac:Below g w w:=μ;simp only[bh_];cases h1:ς s t.a 91
 rotate_left 1
 . have l1:=dl_ h1;cases hr:f8_ s t.go with
   |no t2=>
    have P:c0_ s t= .no t2:=by unfold c0_;rw[if_pos h1,hr]
    rw[P];clear P;go_enter func188,ntmps188;have O:=c1_ S h1 M.par;go_wp2_with fail;refine O.mono ?_;clear O;rintro e K ⟨rfl,Q,F⟩;have E:τ K g s t.go p L:=M.touched Q F;have U:Below g w K:=ac.trans (Χ F M.lt);clear Q F;have J:=oo_ g s t.go p K S z_ E.par;rw[hr]at J;clear hr;go_wp2_with fail;refine J.mono ?_;clear J;rintro e G ⟨⟨⟨f,rfl⟩,R⟩,H⟩;have I:τ G g s t2 p L:=E.touched R H;have V:Below g w G:=U.trans (Χ H E.lt);unfold Ε;go_wp2_with fail;go_ret2;exact⟨⟨_,rfl⟩,⟨_,_,I.below ξ⟩,V.alloc (Nat.le_of_lt I.lt) _⟩
   |ok N t2=>
    have am:=of_ hr;have P:c0_ s t= .ok (.one N) t2:=by unfold c0_;rw[if_pos h1,hr]
    rw[P];clear P;go_enter func188,ntmps188;have O:=c1_ S h1 M.par;go_wp2_with fail;refine O.mono ?_;clear O;rintro e K ⟨rfl,Q,F⟩;have E:τ K g s t.go p L:=M.touched Q F;have U:Below g w K:=ac.trans (Χ F M.lt);clear Q F;have J:=oo_ g s t.go p K S z_ E.par;rw[hr]at J;clear hr;go_wp2_with fail;refine J.mono ?_;clear J;rintro e G ⟨⟨rfl,R⟩,H⟩;have I:τ G g s t2 p L:=E.touched R H;have V:Below g w G:=U.trans (Χ H E.lt);clear R H;unfold Ε;obtain⟨h,b,-,-,-⟩:=ν G (Ε N) 128;have i:Bl G h.drew:=by rw[b];exact ξ.drew
    have j:=aw_ b;obtain⟨r,u,v,y,z,A,B,C⟩:=bz_ (co_ j);have k:=ez_ g s t2 p L N h.drew (I.below i) o_;have D:Below g w h.drew:=V.trans (i.mono (Nat.le_of_lt I.lt));unfold Ε at k b;have W:G.heap.size<h.heap.size:=κ j;have X:g<G.heap.size:=I.lt;clear j i;go_wp2_with fail;rw[<-b];clear b;go_region_with (go_at_call 192;refine k.mono ?_;intro e Z n;obtain⟨Y,rfl,m⟩:=cb_.single (t:=t) D n (by simp only[go_a]at*;omega) (by simp only[go_a]at*;omega);have q:Hid _:=m;clear m n);go_wp2_with fail;go_ret2;exact q.out
 cases h2:ς s t.a 46
 rotate_left 1
 . have l2:=dl_ h2;have P:c0_ s t= .ok (.one (fun _=>true)) t.go:=by unfold c0_;rw[if_neg (by rw[h1];exact Bool.false_ne_true),if_pos h2]
   rw[P];clear P;go_enter func188,ntmps188;have O:=a9_ S h1 M.par;go_wp2_with fail;refine O.mono ?_;clear O;rintro e K ⟨rfl,Q,F⟩;have E:τ K g s t p L:=M.touched Q F;have U:Below g w K:=ac.trans (Χ F M.lt);clear Q F;have J:=c1_ S h2 E.par;go_wp2_with fail;refine J.mono ?_;clear J;rintro e G ⟨rfl,R,H⟩;have I:τ G g s t.go p L:=E.touched R H;have V:Below g w G:=U.trans (Χ H E.lt);clear R H;obtain⟨W6,ag,B6,-,k6⟩:=ν G (Ε (fun _=>false)) 128;obtain⟨r,u,v,y,z,A,B,C⟩:=bz_ (f:=fun _=>false) (co_ k6);have HO:=qx_ (fun _=>false) W6;simp only[Bool.not_false]at HO;have ai:=I.below B6;have aj:Below g w W6:=V.trans (B6.mono (Nat.le_of_lt I.lt));simp only[show Ε (fun _=>false)= #[.bool false,.bool false,.bool false,.bool false,.bool false,.bool false,.bool false,.bool false]from rfl]at ag HO;clear k6;go_upto_region 13 with fail;rw[<-ag];clear ag;go_wp2_with fail;refine HO.mono ?_;clear HO;rintro e w7 ⟨rfl,af⟩;have ah:=ai.below af;have ak:Below g w w7:=aj.trans (af.mono (Nat.le_of_lt ai.lt));clear r u v y z A B C af;obtain⟨h,b,-,-,-⟩:=ν w7 (Ε (fun _=>true)) 128;have i:Bl w7 h.drew:=by rw[b];exact ξ.drew
   have j:=aw_ b;obtain⟨r,u,v,y,z,A,B,C⟩:=bz_ (co_ j);have k:=ez_ g s t.go p L (fun _=>true) h.drew (ah.below i) o_;have D:Below g w h.drew:=ak.trans (i.mono (Nat.le_of_lt ah.lt));unfold Ε at k b;have W:w7.heap.size<h.heap.size:=κ j;have X:g<w7.heap.size:=ah.lt;clear j i;simp only[show Ε (fun _=>true)= #[.bool true,.bool true,.bool true,.bool true,.bool true,.bool true,.bool true,.bool true]from rfl];go_wp2_with fail;rw[<-b];clear b;go_region_with (go_at_call 192;refine k.mono ?_;intro e Z n;obtain⟨Y,rfl,m⟩:=cb_.single (t:=t) D n (by simp only[go_a]at*;omega) (by simp only[go_a]at*;omega);have q:Hid _:=m;clear m n);go_wp2_with fail;go_ret2;exact q.out
 cases h3:c7_ s t.a
 . skip;have P:c0_ s t= .no t:=by unfold c0_;rw[if_neg (by rw[h1];exact Bool.false_ne_true),if_neg (by rw[h2];exact Bool.false_ne_true),if_neg (by rw[h3];exact Bool.false_ne_true)]
   rw[P];clear P;go_enter func188,ntmps188;have O:=a9_ S h1 M.par;go_wp2_with fail;refine O.mono ?_;clear O;rintro e K ⟨rfl,Q,F⟩;have E:τ K g s t p L:=M.touched Q F;have U:Below g w K:=ac.trans (Χ F M.lt);clear Q F;have J:=a9_ S h2 E.par;go_wp2_with fail;refine J.mono ?_;clear J;rintro e G ⟨rfl,R,H⟩;have I:τ G g s t p L:=E.touched R H;have V:Below g w G:=U.trans (Χ H E.lt);clear R H;have ab:=on_ S h3 I.par;go_wp2_with fail;refine ab.mono ?_;clear ab;rintro e l ⟨rfl,ad,aa⟩;have o:τ l g s t p L:=I.touched ad aa;have T:Below g w l:=V.trans (Χ aa I.lt);clear ad aa;go_wp2_with fail;go_ret2;exact⟨⟨_,rfl⟩,⟨_,_,o⟩,T⟩
 . have l3:=in_ h3;have n3:=(jz_ h3).1;obtain⟨c,ae⟩:=δ (θ s t.a - 97);rw[ae.out]at n3;have P:c0_ s t= .ok (.one (fun x=>decide (x=c))) t.go:=by unfold c0_;rw[if_neg (by rw[h1];exact Bool.false_ne_true),if_neg (by rw[h2];exact Bool.false_ne_true),if_pos h3,ae.out]
   rw[P];clear P;go_enter func188,ntmps188;have O:=a9_ S h1 M.par;go_wp2_with fail;refine O.mono ?_;clear O;rintro e K ⟨rfl,Q,F⟩;have E:τ K g s t p L:=M.touched Q F;have U:Below g w K:=ac.trans (Χ F M.lt);clear Q F;have J:=a9_ S h2 E.par;go_wp2_with fail;refine J.mono ?_;clear J;rintro e G ⟨rfl,R,H⟩;have I:τ G g s t p L:=E.touched R H;have V:Below g w G:=U.trans (Χ H E.lt);clear R H;have ab:=om_ S h3 I.par;rw[ae.out]at ab;go_wp2_with fail;refine ab.mono ?_;clear ab;rintro e l ⟨rfl,ad,aa⟩;have o:τ l g s t.go p L:=I.touched ad aa;have T:Below g w l:=V.trans (Χ aa I.lt);clear ad aa;have al:c=0\/c=1\/c=2\/c=3\/c=4\/c=5\/c=6\/c=7:=o_;clear ae n3;rcases al with rfl|rfl|rfl|rfl|rfl|rfl|rfl|rfl
   . obtain⟨h,b⟩:=af_ (l.alloc (.cells (Ε (fun x=>decide (x=0))) 128));have i:Bl l h.drew:=by rw[b];exact ξ.drew
     have j:=aw_ b;obtain⟨r,u,v,y,z,A,B,C⟩:=bz_ (co_ j);have k:=ez_ g s t.go p L (fun x=>decide (x=0)) h.drew (o.below i) o_;have D:Below g w h.drew:=T.trans (i.mono (Nat.le_of_lt o.lt));unfold Ε at k b;have W:l.heap.size<h.heap.size:=κ j;have X:g<l.heap.size:=o.lt;clear j i;simp at r u v y z A B C;simp at k b;go_wp2_with fail;rw[<-b];clear b;go_region_with (go_at_call 192;refine k.mono ?_;intro e Z n;obtain⟨Y,rfl,m⟩:=cb_.single (t:=t) D n (by simp only[go_a]at*;omega) (by simp only[go_a]at*;omega);have q:Hid _:=m;clear m n);go_wp2_with fail;go_ret2;exact q.out
   . obtain⟨h,b⟩:=af_ (l.alloc (.cells (Ε (fun x=>decide (x=1))) 128));have i:Bl l h.drew:=by rw[b];exact ξ.drew
     have j:=aw_ b;obtain⟨r,u,v,y,z,A,B,C⟩:=bz_ (co_ j);have k:=ez_ g s t.go p L (fun x=>decide (x=1)) h.drew (o.below i) o_;have D:Below g w h.drew:=T.trans (i.mono (Nat.le_of_lt o.lt));unfold Ε at k b;have W:l.heap.size<h.heap.size:=κ j;have X:g<l.heap.size:=o.lt;clear j i;simp at r u v y z A B C;simp at k b;go_wp2_with fail;rw[<-b];clear b;go_region_with (go_at_call 192;refine k.mono ?_;intro e Z n;obtain⟨Y,rfl,m⟩:=cb_.single (t:=t) D n (by simp only[go_a]at*;omega) (by simp only[go_a]at*;omega);have q:Hid _:=m;clear m n);go_wp2_with fail;go_ret2;exact q.out
   . obtain⟨h,b⟩:=af_ (l.alloc (.cells (Ε (fun x=>decide (x=2))) 128));have i:Bl l h.drew:=by rw[b];exact ξ.drew
     have j:=aw_ b;obtain⟨r,u,v,y,z,A,B,C⟩:=bz_ (co_ j);have k:=ez_ g s t.go p L (fun x=>decide (x=2)) h.drew (o.below i) o_;have D:Below g w h.drew:=T.trans (i.mono (Nat.le_of_lt o.lt));unfold Ε at k b;have W:l.heap.size<h.heap.size:=κ j;have X:g<l.heap.size:=o.lt;clear j i;simp at r u v y z A B C;simp at k b;go_wp2_with fail;rw[<-b];clear b;go_region_with (go_at_call 192;refine k.mono ?_;intro e Z n;obtain⟨Y,rfl,m⟩:=cb_.single (t:=t) D n (by simp only[go_a]at*;omega) (by simp only[go_a]at*;omega);have q:Hid _:=m;clear m n);go_wp2_with fail;go_ret2;exact q.out
   . obtain⟨h,b⟩:=af_ (l.alloc (.cells (Ε (fun x=>decide (x=3))) 128));have i:Bl l h.drew:=by rw[b];exact ξ.drew
     have j:=aw_ b;obtain⟨r,u,v,y,z,A,B,C⟩:=bz_ (co_ j);have k:=ez_ g s t.go p L (fun x=>decide (x=3)) h.drew (o.below i) o_;have D:Below g w h.drew:=T.trans (i.mono (Nat.le_of_lt o.lt));unfold Ε at k b;have W:l.heap.size<h.heap.size:=κ j;have X:g<l.heap.size:=o.lt;clear j i;simp at r u v y z A B C;simp at k b;go_wp2_with fail;rw[<-b];clear b;go_region_with (go_at_call 192;refine k.mono ?_;intro e Z n;obtain⟨Y,rfl,m⟩:=cb_.single (t:=t) D n (by simp only[go_a]at*;omega) (by simp only[go_a]at*;omega);have q:Hid _:=m;clear m n);go_wp2_with fail;go_ret2;exact q.out
   . obtain⟨h,b⟩:=af_ (l.alloc (.cells (Ε (fun x=>decide (x=4))) 128));have i:Bl l h.drew:=by rw[b];exact ξ.drew
     have j:=aw_ b;obtain⟨r,u,v,y,z,A,B,C⟩:=bz_ (co_ j);have k:=ez_ g s t.go p L (fun x=>decide (x=4)) h.drew (o.below i) o_;have D:Below g w h.drew:=T.trans (i.mono (Nat.le_of_lt o.lt));unfold Ε at k b;have W:l.heap.size<h.heap.size:=κ j;have X:g<l.heap.size:=o.lt;clear j i;simp at r u v y z A B C;simp at k b;go_wp2_with fail;rw[<-b];clear b;go_region_with (go_at_call 192;refine k.mono ?_;intro e Z n;obtain⟨Y,rfl,m⟩:=cb_.single (t:=t) D n (by simp only[go_a]at*;omega) (by simp only[go_a]at*;omega);have q:Hid _:=m;clear m n);go_wp2_with fail;go_ret2;exact q.out
   . obtain⟨h,b⟩:=af_ (l.alloc (.cells (Ε (fun x=>decide (x=5))) 128));have i:Bl l h.drew:=by rw[b];exact ξ.drew
     have j:=aw_ b;obtain⟨r,u,v,y,z,A,B,C⟩:=bz_ (co_ j);have k:=ez_ g s t.go p L (fun x=>decide (x=5)) h.drew (o.below i) o_;have D:Below g w h.drew:=T.trans (i.mono (Nat.le_of_lt o.lt));unfold Ε at k b;have W:l.heap.size<h.heap.size:=κ j;have X:g<l.heap.size:=o.lt;clear j i;simp at r u v y z A B C;simp at k b;go_wp2_with fail;rw[<-b];clear b;go_region_with (go_at_call 192;refine k.mono ?_;intro e Z n;obtain⟨Y,rfl,m⟩:=cb_.single (t:=t) D n (by simp only[go_a]at*;omega) (by simp only[go_a]at*;omega);have q:Hid _:=m;clear m n);go_wp2_with fail;go_ret2;exact q.out
   . obtain⟨h,b⟩:=af_ (l.alloc (.cells (Ε (fun x=>decide (x=6))) 128));have i:Bl l h.drew:=by rw[b];exact ξ.drew
     have j:=aw_ b;obtain⟨r,u,v,y,z,A,B,C⟩:=bz_ (co_ j);have k:=ez_ g s t.go p L (fun x=>decide (x=6)) h.drew (o.below i) o_;have D:Below g w h.drew:=T.trans (i.mono (Nat.le_of_lt o.lt));unfold Ε at k b;have W:l.heap.size<h.heap.size:=κ j;have X:g<l.heap.size:=o.lt;clear j i;simp at r u v y z A B C;simp at k b;go_wp2_with fail;rw[<-b];clear b;go_region_with (go_at_call 192;refine k.mono ?_;intro e Z n;obtain⟨Y,rfl,m⟩:=cb_.single (t:=t) D n (by simp only[go_a]at*;omega) (by simp only[go_a]at*;omega);have q:Hid _:=m;clear m n);go_wp2_with fail;go_ret2;exact q.out
   . obtain⟨h,b⟩:=af_ (l.alloc (.cells (Ε (fun x=>decide (x=7))) 128));have i:Bl l h.drew:=by rw[b];exact ξ.drew
     have j:=aw_ b;obtain⟨r,u,v,y,z,A,B,C⟩:=bz_ (co_ j);have k:=ez_ g s t.go p L (fun x=>decide (x=7)) h.drew (o.below i) o_;have D:Below g w h.drew:=T.trans (i.mono (Nat.le_of_lt o.lt));unfold Ε at k b;have W:l.heap.size<h.heap.size:=κ j;have X:g<l.heap.size:=o.lt;clear j i;simp at r u v y z A B C;simp at k b;go_wp2_with fail;rw[<-b];clear b;go_region_with (go_at_call 192;refine k.mono ?_;intro e Z n;obtain⟨Y,rfl,m⟩:=cb_.single (t:=t) D n (by simp only[go_a]at*;omega) (by simp only[go_a]at*;omega);have q:Hid _:=m;clear m n);go_wp2_with fail;go_ret2;exact q.out
theorem afn_ (k:Nat)(hk:k<6)(HP:rt_ k):ph_ (k+1):=by
 intro b s t o L w d hd D aI hM E;have aj:Below b w w:=μ;have aH:d<6:=o_;have aG:0<=d:=o_;have HD:=α hd;clear hd;simp only[bh_];cases h0:ς s t.a 40
 . simp only[ft_,if_false];cases h1:ς s t.a 91
   rotate_left 1
   . have l1:=dl_ h1;cases hr:f8_ s t.go with
     |no t2=>
      have hR:c0_ s t= .no t2:=by unfold c0_;rw[if_pos h1,hr]
      rw[hR];clear hR;go_enter func188,ntmps188;have F:=a9_ D h0 E.par;go_wp2_with fail;refine F.mono ?_;clear F;rintro e B ⟨rfl,G,q⟩;have C:τ B b s t o L:=E.touched G q;have ab:Below b w B:=aj.trans (Χ q E.lt);clear G q;have z:=c1_ D h1 C.par;go_wp2_with fail;refine z.mono ?_;clear z;rintro e H ⟨rfl,ac,V⟩;have u:τ H b s t.go o L:=C.touched ac V;have Y:Below b w H:=ab.trans (Χ V C.lt);clear ac V;have aa:=oo_ b s t.go o H D z_ u.par;rw[hr]at aa;clear hr;go_wp2_with fail;refine aa.mono ?_;clear aa;rintro e W ⟨⟨⟨f,rfl⟩,ad⟩,X⟩;have Z:τ W b s t2 o L:=u.touched ad X;have af:Below b w W:=Y.trans (Χ X u.lt);unfold Ε;go_wp2_with fail;go_ret2;exact⟨⟨_,rfl⟩,⟨_,_,Z.below ξ⟩,af.alloc (Nat.le_of_lt Z.lt) _⟩
     |ok N t2=>
      have aA:=of_ hr;have hR:c0_ s t= .ok (.one N) t2:=by unfold c0_;rw[if_pos h1,hr]
      rw[hR];clear hR;go_enter func188,ntmps188;have F:=a9_ D h0 E.par;go_wp2_with fail;refine F.mono ?_;clear F;rintro e B ⟨rfl,G,q⟩;have C:τ B b s t o L:=E.touched G q;have ab:Below b w B:=aj.trans (Χ q E.lt);clear G q;have z:=c1_ D h1 C.par;go_wp2_with fail;refine z.mono ?_;clear z;rintro e H ⟨rfl,ac,V⟩;have u:τ H b s t.go o L:=C.touched ac V;have Y:Below b w H:=ab.trans (Χ V C.lt);clear ac V;have aa:=oo_ b s t.go o H D z_ u.par;rw[hr]at aa;clear hr;go_wp2_with fail;refine aa.mono ?_;clear aa;rintro e W ⟨⟨rfl,ad⟩,X⟩;have Z:τ W b s t2 o L:=u.touched ad X;have af:Below b w W:=Y.trans (Χ X u.lt);clear ad X;unfold Ε;obtain⟨h,g,-,-,-⟩:=ν W (Ε N) 128;have i:Bl W h.drew:=by rw[g];exact ξ.drew
      have l:=aw_ g;obtain⟨J,K,O,P,Q,R,S,T⟩:=bz_ (co_ l);have m:=ez_ b s t2 o L N h.drew (Z.below i) o_;have U:Below b w h.drew:=af.trans (i.mono (Nat.le_of_lt Z.lt));unfold Ε at m g;have ag:W.heap.size<h.heap.size:=κ l;have ah:b<W.heap.size:=Z.lt;clear l i;go_wp2_with fail;rw[<-g];clear g;go_region_with (go_at_call 192;refine m.mono ?_;intro e w9 y;obtain⟨ai,rfl,r⟩:=cb_.single (t:=t) U y (by simp only[go_a]at*;omega) (by simp only[go_a]at*;omega);have I:Hid _:=r;clear r y);go_wp2_with fail;go_ret2;exact I.out
   cases h2:ς s t.a 46
   rotate_left 1
   . have l2:=dl_ h2;have hR:c0_ s t= .ok (.one (fun _=>true)) t.go:=by unfold c0_;rw[if_neg (by rw[h1];exact Bool.false_ne_true),if_pos h2]
     rw[hR];clear hR;go_enter func188,ntmps188;have F:=a9_ D h0 E.par;go_wp2_with fail;refine F.mono ?_;clear F;rintro e B ⟨rfl,G,q⟩;have C:τ B b s t o L:=E.touched G q;have ab:Below b w B:=aj.trans (Χ q E.lt);clear G q;have z:=a9_ D h1 C.par;go_wp2_with fail;refine z.mono ?_;clear z;rintro e H ⟨rfl,ac,V⟩;have u:τ H b s t o L:=C.touched ac V;have Y:Below b w H:=ab.trans (Χ V C.lt);clear ac V;have aa:=c1_ D h2 u.par;go_wp2_with fail;refine aa.mono ?_;clear aa;rintro e W ⟨rfl,ad,X⟩;have Z:τ W b s t.go o L:=u.touched ad X;have af:Below b w W:=Y.trans (Χ X u.lt);clear ad X;obtain⟨W6,av,B6,-,k6⟩:=ν W (Ε (fun _=>false)) 128;obtain⟨J,K,O,P,Q,R,S,T⟩:=bz_ (f:=fun _=>false) (co_ k6);have HO:=qx_ (fun _=>false) W6;simp only[Bool.not_false]at HO;have aB:=Z.below B6;have aC:Below b w W6:=af.trans (B6.mono (Nat.le_of_lt Z.lt));simp only[show Ε (fun _=>false)= #[.bool false,.bool false,.bool false,.bool false,.bool false,.bool false,.bool false,.bool false]from rfl]at av HO;clear k6;go_upto_region 13 with fail;rw[<-av];clear av;go_wp2_with fail;refine HO.mono ?_;clear HO;rintro e w7 ⟨rfl,au⟩;have ay:=aB.below au;have aD:Below b w w7:=aC.trans (au.mono (Nat.le_of_lt aB.lt));clear J K O P Q R S T au;obtain⟨h,g,-,-,-⟩:=ν w7 (Ε (fun _=>true)) 128;have i:Bl w7 h.drew:=by rw[g];exact ξ.drew
     have l:=aw_ g;obtain⟨J,K,O,P,Q,R,S,T⟩:=bz_ (co_ l);have m:=ez_ b s t.go o L (fun _=>true) h.drew (ay.below i) o_;have U:Below b w h.drew:=aD.trans (i.mono (Nat.le_of_lt ay.lt));unfold Ε at m g;have ag:w7.heap.size<h.heap.size:=κ l;have ah:b<w7.heap.size:=ay.lt;clear l i;simp only[show Ε (fun _=>true)= #[.bool true,.bool true,.bool true,.bool true,.bool true,.bool true,.bool true,.bool true]from rfl];go_wp2_with fail;rw[<-g];clear g;go_region_with (go_at_call 192;refine m.mono ?_;intro e w9 y;obtain⟨ai,rfl,r⟩:=cb_.single (t:=t) U y (by simp only[go_a]at*;omega) (by simp only[go_a]at*;omega);have I:Hid _:=r;clear r y);go_wp2_with fail;go_ret2;exact I.out
   cases h3:c7_ s t.a
   . skip;have hR:c0_ s t= .no t:=by unfold c0_;rw[if_neg (by rw[h1];exact Bool.false_ne_true),if_neg (by rw[h2];exact Bool.false_ne_true),if_neg (by rw[h3];exact Bool.false_ne_true)]
     rw[hR];clear hR;go_enter func188,ntmps188;have F:=a9_ D h0 E.par;go_wp2_with fail;refine F.mono ?_;clear F;rintro e B ⟨rfl,G,q⟩;have C:τ B b s t o L:=E.touched G q;have ab:Below b w B:=aj.trans (Χ q E.lt);clear G q;have z:=a9_ D h1 C.par;go_wp2_with fail;refine z.mono ?_;clear z;rintro e H ⟨rfl,ac,V⟩;have u:τ H b s t o L:=C.touched ac V;have Y:Below b w H:=ab.trans (Χ V C.lt);clear ac V;have aa:=a9_ D h2 u.par;go_wp2_with fail;refine aa.mono ?_;clear aa;rintro e W ⟨rfl,ad,X⟩;have Z:τ W b s t o L:=u.touched ad X;have af:Below b w W:=Y.trans (Χ X u.lt);clear ad X;have am:=on_ D h3 Z.par;go_wp2_with fail;refine am.mono ?_;clear am;rintro e n ⟨rfl,ao,ak⟩;have A:τ n b s t o L:=Z.touched ao ak;have ae:Below b w n:=af.trans (Χ ak Z.lt);clear ao ak;go_wp2_with fail;go_ret2;exact⟨⟨_,rfl⟩,⟨_,_,A⟩,ae⟩
   . have l3:=in_ h3;have n3:=(jz_ h3).1;obtain⟨c,ar⟩:=δ (θ s t.a - 97);rw[ar.out]at n3;have hR:c0_ s t= .ok (.one (fun x=>decide (x=c))) t.go:=by unfold c0_;rw[if_neg (by rw[h1];exact Bool.false_ne_true),if_neg (by rw[h2];exact Bool.false_ne_true),if_pos h3,ar.out]
     rw[hR];clear hR;go_enter func188,ntmps188;have F:=a9_ D h0 E.par;go_wp2_with fail;refine F.mono ?_;clear F;rintro e B ⟨rfl,G,q⟩;have C:τ B b s t o L:=E.touched G q;have ab:Below b w B:=aj.trans (Χ q E.lt);clear G q;have z:=a9_ D h1 C.par;go_wp2_with fail;refine z.mono ?_;clear z;rintro e H ⟨rfl,ac,V⟩;have u:τ H b s t o L:=C.touched ac V;have Y:Below b w H:=ab.trans (Χ V C.lt);clear ac V;have aa:=a9_ D h2 u.par;go_wp2_with fail;refine aa.mono ?_;clear aa;rintro e W ⟨rfl,ad,X⟩;have Z:τ W b s t o L:=u.touched ad X;have af:Below b w W:=Y.trans (Χ X u.lt);clear ad X;have am:=om_ D h3 Z.par;rw[ar.out]at am;go_wp2_with fail;refine am.mono ?_;clear am;rintro e n ⟨rfl,ao,ak⟩;have A:τ n b s t.go o L:=Z.touched ao ak;have ae:Below b w n:=af.trans (Χ ak Z.lt);clear ao ak;have aE:c=0\/c=1\/c=2\/c=3\/c=4\/c=5\/c=6\/c=7:=o_;clear ar n3;rcases aE with rfl|rfl|rfl|rfl|rfl|rfl|rfl|rfl
     . obtain⟨h,g⟩:=af_ (n.alloc (.cells (Ε (fun x=>decide (x=0))) 128));have i:Bl n h.drew:=by rw[g];exact ξ.drew
       have l:=aw_ g;obtain⟨J,K,O,P,Q,R,S,T⟩:=bz_ (co_ l);have m:=ez_ b s t.go o L (fun x=>decide (x=0)) h.drew (A.below i) o_;have U:Below b w h.drew:=ae.trans (i.mono (Nat.le_of_lt A.lt));unfold Ε at m g;have ag:n.heap.size<h.heap.size:=κ l;have ah:b<n.heap.size:=A.lt;clear l i;simp at J K O P Q R S T;simp at m g;go_wp2_with fail;rw[<-g];clear g;go_region_with (go_at_call 192;refine m.mono ?_;intro e w9 y;obtain⟨ai,rfl,r⟩:=cb_.single (t:=t) U y (by simp only[go_a]at*;omega) (by simp only[go_a]at*;omega);have I:Hid _:=r;clear r y);go_wp2_with fail;go_ret2;exact I.out
     . obtain⟨h,g⟩:=af_ (n.alloc (.cells (Ε (fun x=>decide (x=1))) 128));have i:Bl n h.drew:=by rw[g];exact ξ.drew
       have l:=aw_ g;obtain⟨J,K,O,P,Q,R,S,T⟩:=bz_ (co_ l);have m:=ez_ b s t.go o L (fun x=>decide (x=1)) h.drew (A.below i) o_;have U:Below b w h.drew:=ae.trans (i.mono (Nat.le_of_lt A.lt));unfold Ε at m g;have ag:n.heap.size<h.heap.size:=κ l;have ah:b<n.heap.size:=A.lt;clear l i;simp at J K O P Q R S T;simp at m g;go_wp2_with fail;rw[<-g];clear g;go_region_with (go_at_call 192;refine m.mono ?_;intro e w9 y;obtain⟨ai,rfl,r⟩:=cb_.single (t:=t) U y (by simp only[go_a]at*;omega) (by simp only[go_a]at*;omega);have I:Hid _:=r;clear r y);go_wp2_with fail;go_ret2;exact I.out
     . obtain⟨h,g⟩:=af_ (n.alloc (.cells (Ε (fun x=>decide (x=2))) 128));have i:Bl n h.drew:=by rw[g];exact ξ.drew
       have l:=aw_ g;obtain⟨J,K,O,P,Q,R,S,T⟩:=bz_ (co_ l);have m:=ez_ b s t.go o L (fun x=>decide (x=2)) h.drew (A.below i) o_;have U:Below b w h.drew:=ae.trans (i.mono (Nat.le_of_lt A.lt));unfold Ε at m g;have ag:n.heap.size<h.heap.size:=κ l;have ah:b<n.heap.size:=A.lt;clear l i;simp at J K O P Q R S T;simp at m g;go_wp2_with fail;rw[<-g];clear g;go_region_with (go_at_call 192;refine m.mono ?_;intro e w9 y;obtain⟨ai,rfl,r⟩:=cb_.single (t:=t) U y (by simp only[go_a]at*;omega) (by simp only[go_a]at*;omega);have I:Hid _:=r;clear r y);go_wp2_with fail;go_ret2;exact I.out
     . obtain⟨h,g⟩:=af_ (n.alloc (.cells (Ε (fun x=>decide (x=3))) 128));have i:Bl n h.drew:=by rw[g];exact ξ.drew
       have l:=aw_ g;obtain⟨J,K,O,P,Q,R,S,T⟩:=bz_ (co_ l);have m:=ez_ b s t.go o L (fun x=>decide (x=3)) h.drew (A.below i) o_;have U:Below b w h.drew:=ae.trans (i.mono (Nat.le_of_lt A.lt));unfold Ε at m g;have ag:n.heap.size<h.heap.size:=κ l;have ah:b<n.heap.size:=A.lt;clear l i;simp at J K O P Q R S T;simp at m g;go_wp2_with fail;rw[<-g];clear g;go_region_with (go_at_call 192;refine m.mono ?_;intro e w9 y;obtain⟨ai,rfl,r⟩:=cb_.single (t:=t) U y (by simp only[go_a]at*;omega) (by simp only[go_a]at*;omega);have I:Hid _:=r;clear r y);go_wp2_with fail;go_ret2;exact I.out
     . obtain⟨h,g⟩:=af_ (n.alloc (.cells (Ε (fun x=>decide (x=4))) 128));have i:Bl n h.drew:=by rw[g];exact ξ.drew
       have l:=aw_ g;obtain⟨J,K,O,P,Q,R,S,T⟩:=bz_ (co_ l);have m:=ez_ b s t.go o L (fun x=>decide (x=4)) h.drew (A.below i) o_;have U:Below b w h.drew:=ae.trans (i.mono (Nat.le_of_lt A.lt));unfold Ε at m g;have ag:n.heap.size<h.heap.size:=κ l;have ah:b<n.heap.size:=A.lt;clear l i;simp at J K O P Q R S T;simp at m g;go_wp2_with fail;rw[<-g];clear g;go_region_with (go_at_call 192;refine m.mono ?_;intro e w9 y;obtain⟨ai,rfl,r⟩:=cb_.single (t:=t) U y (by simp only[go_a]at*;omega) (by simp only[go_a]at*;omega);have I:Hid _:=r;clear r y);go_wp2_with fail;go_ret2;exact I.out
     . obtain⟨h,g⟩:=af_ (n.alloc (.cells (Ε (fun x=>decide (x=5))) 128));have i:Bl n h.drew:=by rw[g];exact ξ.drew
       have l:=aw_ g;obtain⟨J,K,O,P,Q,R,S,T⟩:=bz_ (co_ l);have m:=ez_ b s t.go o L (fun x=>decide (x=5)) h.drew (A.below i) o_;have U:Below b w h.drew:=ae.trans (i.mono (Nat.le_of_lt A.lt));unfold Ε at m g;have ag:n.heap.size<h.heap.size:=κ l;have ah:b<n.heap.size:=A.lt;clear l i;simp at J K O P Q R S T;simp at m g;go_wp2_with fail;rw[<-g];clear g;go_region_with (go_at_call 192;refine m.mono ?_;intro e w9 y;obtain⟨ai,rfl,r⟩:=cb_.single (t:=t) U y (by simp only[go_a]at*;omega) (by simp only[go_a]at*;omega);have I:Hid _:=r;clear r y);go_wp2_with fail;go_ret2;exact I.out
     . obtain⟨h,g⟩:=af_ (n.alloc (.cells (Ε (fun x=>decide (x=6))) 128));have i:Bl n h.drew:=by rw[g];exact ξ.drew
       have l:=aw_ g;obtain⟨J,K,O,P,Q,R,S,T⟩:=bz_ (co_ l);have m:=ez_ b s t.go o L (fun x=>decide (x=6)) h.drew (A.below i) o_;have U:Below b w h.drew:=ae.trans (i.mono (Nat.le_of_lt A.lt));unfold Ε at m g;have ag:n.heap.size<h.heap.size:=κ l;have ah:b<n.heap.size:=A.lt;clear l i;simp at J K O P Q R S T;simp at m g;go_wp2_with fail;rw[<-g];clear g;go_region_with (go_at_call 192;refine m.mono ?_;intro e w9 y;obtain⟨ai,rfl,r⟩:=cb_.single (t:=t) U y (by simp only[go_a]at*;omega) (by simp only[go_a]at*;omega);have I:Hid _:=r;clear r y);go_wp2_with fail;go_ret2;exact I.out
     . obtain⟨h,g⟩:=af_ (n.alloc (.cells (Ε (fun x=>decide (x=7))) 128));have i:Bl n h.drew:=by rw[g];exact ξ.drew
       have l:=aw_ g;obtain⟨J,K,O,P,Q,R,S,T⟩:=bz_ (co_ l);have m:=ez_ b s t.go o L (fun x=>decide (x=7)) h.drew (A.below i) o_;have U:Below b w h.drew:=ae.trans (i.mono (Nat.le_of_lt A.lt));unfold Ε at m g;have ag:n.heap.size<h.heap.size:=κ l;have ah:b<n.heap.size:=A.lt;clear l i;simp at J K O P Q R S T;simp at m g;go_wp2_with fail;rw[<-g];clear g;go_region_with (go_at_call 192;refine m.mono ?_;intro e w9 y;obtain⟨ai,rfl,r⟩:=cb_.single (t:=t) U y (by simp only[go_a]at*;omega) (by simp only[go_a]at*;omega);have I:Hid _:=r;clear r y);go_wp2_with fail;go_ret2;exact I.out
 . have l0:=dl_ h0;simp only[if_true];cases hr:ec_ s (bh_ s k) t.go with
   |no t2=>
    go_enter func188,ntmps188;have F:=c1_ D h0 E.par;go_wp2_with fail;refine F.mono ?_;clear F;rintro e B ⟨rfl,G,q⟩;have C:τ B b s t.go o L:=E.touched G q;have ab:Below b w B:=aj.trans (Χ q E.lt);clear G q;have z:=HP b s t.go o L B (d+1) (by have:=HD.out;omega) D z_ z_ C;rw[hr]at z;clear hr;go_wp2_with fail;refine z.mono ?_;clear z;rintro e H ⟨⟨v,rfl⟩,⟨aq,L2,u⟩,Y⟩;go_wp2_with fail;go_ret2;exact⟨⟨_,rfl⟩,⟨_,_,u⟩,ab.trans Y⟩
   |ok p t2=>
    have aA:=qu_ (ib_ k) z_ hr;simp only[go_a]at aA;cases h9:ς s t2.a 41
    . simp only[h9,ft_,if_false];go_enter func188,ntmps188;have F:=c1_ D h0 E.par;go_wp2_with fail;refine F.mono ?_;clear F;rintro e B ⟨rfl,G,q⟩;have C:τ B b s t.go o L:=E.touched G q;have ab:Below b w B:=aj.trans (Χ q E.lt);clear G q;have z:=HP b s t.go o L B (d+1) (by have:=HD.out;omega) D z_ z_ C;rw[hr]at z;clear hr;go_wp2_with fail;refine z.mono ?_;clear z;rintro e H ⟨j,aq,M,rfl,u,hN,aF,Y⟩;have ax:Below b w H:=ab.trans Y;clear Y;have an:=a9_ D h9 u.par;go_wp2_with fail;refine an.mono ?_;clear an;rintro e w9 ⟨rfl,ap,al⟩;have az:τ w9 b s t2 aq (L++M):=u.touched ap al;have aw:Below b w w9:=ax.trans (Χ al u.lt);clear ap al;go_wp2_with fail;go_ret2;exact⟨⟨_,rfl⟩,⟨_,_,az⟩,aw⟩
    . simp only[h9,if_true];have l9:=dl_ h9;go_enter func188,ntmps188;have F:=c1_ D h0 E.par;go_wp2_with fail;refine F.mono ?_;clear F;rintro e B ⟨rfl,G,q⟩;have C:τ B b s t.go o L:=E.touched G q;have ab:Below b w B:=aj.trans (Χ q E.lt);clear G q;have z:=HP b s t.go o L B (d+1) (by have:=HD.out;omega) D z_ z_ C;rw[hr]at z;clear hr;go_wp2_with fail;refine z.mono ?_;clear z;rintro e H ⟨j,aq,M,rfl,u,hN,aF,Y⟩;have ax:Below b w H:=ab.trans Y;clear Y;have an:=c1_ D h9 u.par;go_wp2_with fail;refine an.mono ?_;clear an;rintro e w9 ⟨rfl,ap,al⟩;have az:τ w9 b s t2.go aq (L++M):=u.touched ap al;have aw:Below b w w9:=ax.trans (Χ al u.lt);clear ap al;go_wp2_with fail;go_ret2;exact⟨j,aq,M,rfl,az,hN,by simp only[go_a]at*;omega,aw⟩
def w5_ (k:Nat):Prop:=∀(bp:Nat) (s:ByteArray) (t:Sp) (vn:Value) (L:List Nd) (w:World) (d:Int),d=6 - (k:Int)->s.size<=40->t.a<=s.size->L.length+4*(s.size - t.a)<=900->τ w bp s t vn L->
 Calls prog 184 #[.pointer (some ⟨bp,0,none⟩),.int .i64 d] w (cb_ bp s L (4*(s.size - t.a)- 1) (fy_ s (bh_ s k) t) w)
theorem lz_ {k a b x:Nat}(hk:k<=6)(hs:s.size<=40)(hb:b<=s.size)(h:x<=(b - a)*10^k):x<=40000000:=by
 have c:10^k<=10^6:=Nat.pow_le_pow_right o_ hk;have d:(b - a)*10^k<=40*10^6:=Nat.mul_le_mul o_ c;omega
theorem cb_.rep {t t1 t':Sp}{L M:List Nd}{lo co:Nat}{en:Bool}{p:ζ}{d1:Nd}(hb:Below bp w w1)(hN:b3_ (L++M) i p)(hd:(L++M)[i]? =some d1)(hsz:d1.size=p.size)(hlen:M.length+4*(s.size - t1.a)<=4*(s.size - t.a)- 2)(ha:kt_ bp s t' (L++M) ⟨4,d1.size*co,fun _=>false,lo,co,en,i,0⟩ w1 e w2)(h0:t.a<s.size)(h1:t1.a<t'.a)(h2:t'.a<=s.size):
 ∃j:Nat,e= .returned (.int .i64 (j:Int))/\cb_ bp s L (4*(s.size - t.a)- 1) (.ok (.rep p lo co en) t') w (.returned (.tuple #[.int .i64 (j:Int),.bool true])) w2:=by
 obtain⟨rfl,f,c,b⟩:=ha;refine⟨(L++M).length,rfl,(L++M).length,f,M++ [⟨4,d1.size*co,fun _=>false,lo,co,en,i,0⟩],rfl,by rw[<-ac_];exact c, ?_,s_,hb.trans b⟩;rw[<-ac_];exact .rep (d:=⟨4,d1.size*co,fun _=>false,lo,co,en,i,0⟩) i_ rfl (by rw[hsz]) rfl rfl rfl rfl (hN.app _)
theorem w6_ (k:Nat)(hk:k<=6)(HAT:ph_ k):w5_ k:=by
 intro b s t vn L w d hd f ar hM aq;have B:=HAT b s t vn L w d hd f ar hM aq;clear hd HAT;unfold fy_;cases hr:bh_ s k t with
 |no t1=>
  rw[hr]at B;simp only;clear hr;go_enter func184,ntmps184;go_wp2_with fail;refine B.mono ?_;clear B;rintro e w1 ⟨⟨v,rfl⟩,⟨c,L1,g⟩,H⟩;go_wp2_with fail;go_ret2;exact⟨⟨_,rfl⟩,⟨_,_,g⟩,H⟩
 |ok p t1=>
  rw[hr]at B;have N:=ib_ k _ _ _ hr;clear hr;simp only;cases h1:ς s t1.a 42
  rotate_left 1
  . have l1:=dl_ h1;simp only[ft_,if_false,if_true];go_enter func184,ntmps184;go_wp2_with fail;refine B.mono ?_;clear B;rintro e w1 ⟨i,c,M,rfl,g,h,W,H⟩;obtain⟨d1,y,l⟩:=h.node;have V:d1.size<=1000000000:=by rw[l];have:=lz_ hk f N.2.1 N.2.2;omega
    have S:=α h;have G:=α y;have T:=α l;have X:(L++M).length<=1000:=by rw[Μ];omega
    clear h y l;have u:=c1_ f h1 g.par;go_wp2_with fail;refine u.mono ?_;clear u;rintro e r ⟨rfl,A,m⟩;have n:τ r b s t1.go c (L++M):=g.touched A m;have O:Below b w r:=H.trans (Χ m g.lt);clear A m;have q:=ol_ b s t1.go c (L++M) i 0 1 true d1 r n X G.out V o_;simp only[show((0:Nat):Int)=0 from rfl,show((1:Nat):Int)=1 from rfl,show((2:Nat):Int)=2 from rfl]at q;go_wp2_with fail;refine q.mono ?_;clear q;intro e C aj;obtain⟨j,rfl,Z⟩:=cb_.rep (t:=t) O S.out G.out T.out W aj o_ z_ z_;have HF:Hid _:=Z;clear Z aj;go_wp2_with fail;go_ret2;exact HF.out
  cases h2:ς s t1.a 43
  rotate_left 1
  . have l1:=dl_ h2;simp only[ft_,if_false,if_true];go_enter func184,ntmps184;go_wp2_with fail;refine B.mono ?_;clear B;rintro e w1 ⟨i,c,M,rfl,g,h,W,H⟩;obtain⟨d1,y,l⟩:=h.node;have V:d1.size<=1000000000:=by rw[l];have:=lz_ hk f N.2.1 N.2.2;omega
    have S:=α h;have G:=α y;have T:=α l;have X:(L++M).length<=1000:=by rw[Μ];omega
    clear h y l;have u:=a9_ f h1 g.par;go_wp2_with fail;refine u.mono ?_;clear u;rintro e r ⟨rfl,A,m⟩;have n:τ r b s t1 c (L++M):=g.touched A m;have O:Below b w r:=H.trans (Χ m g.lt);clear A m;have q:=c1_ f h2 n.par;go_wp2_with fail;refine q.mono ?_;clear q;rintro e C ⟨rfl,F,o⟩;have z:τ C b s t1.go c (L++M):=n.touched F o;have U:Below b w C:=O.trans (Χ o n.lt);clear F o;have D:=ol_ b s t1.go c (L++M) i 1 2 true d1 C z X G.out V o_;simp only[show((0:Nat):Int)=0 from rfl,show((1:Nat):Int)=1 from rfl,show((2:Nat):Int)=2 from rfl]at D;go_wp2_with fail;refine D.mono ?_;clear D;intro e J ak;obtain⟨j,rfl,Z⟩:=cb_.rep (t:=t) U S.out G.out T.out W ak o_ z_ z_;have HF:Hid _:=Z;clear Z ak;go_wp2_with fail;go_ret2;exact HF.out
  cases h3:ς s t1.a 63
  rotate_left 1
  . have l1:=dl_ h3;simp only[ft_,if_false,if_true];go_enter func184,ntmps184;go_wp2_with fail;refine B.mono ?_;clear B;rintro e w1 ⟨i,c,M,rfl,g,h,W,H⟩;obtain⟨d1,y,l⟩:=h.node;have V:d1.size<=1000000000:=by rw[l];have:=lz_ hk f N.2.1 N.2.2;omega
    have S:=α h;have G:=α y;have T:=α l;have X:(L++M).length<=1000:=by rw[Μ];omega
    clear h y l;have u:=a9_ f h1 g.par;go_wp2_with fail;refine u.mono ?_;clear u;rintro e r ⟨rfl,A,m⟩;have n:τ r b s t1 c (L++M):=g.touched A m;have O:Below b w r:=H.trans (Χ m g.lt);clear A m;have q:=a9_ f h2 n.par;go_wp2_with fail;refine q.mono ?_;clear q;rintro e C ⟨rfl,F,o⟩;have z:τ C b s t1 c (L++M):=n.touched F o;have U:Below b w C:=O.trans (Χ o n.lt);clear F o;have D:=c1_ f h3 z.par;go_wp2_with fail;refine D.mono ?_;clear D;rintro e J ⟨rfl,P,E⟩;have I:τ J b s t1.go c (L++M):=z.touched P E;have ac:Below b w J:=U.trans (Χ E z.lt);clear P E;have K:=ol_ b s t1.go c (L++M) i 0 1 false d1 J I X G.out V o_;simp only[show((0:Nat):Int)=0 from rfl,show((1:Nat):Int)=1 from rfl,show((2:Nat):Int)=2 from rfl]at K;go_wp2_with fail;refine K.mono ?_;clear K;intro e R al;obtain⟨j,rfl,Z⟩:=cb_.rep (t:=t) ac S.out G.out T.out W al o_ z_ z_;have HF:Hid _:=Z;clear Z al;go_wp2_with fail;go_ret2;exact HF.out
  cases h4:ς s t1.a 123
  . simp only[ft_,if_false];go_enter func184,ntmps184;go_wp2_with fail;refine B.mono ?_;clear B;rintro e w1 ⟨i,c,M,rfl,g,h,W,H⟩;obtain⟨d1,y,l⟩:=h.node;have V:d1.size<=1000000000:=by rw[l];have:=lz_ hk f N.2.1 N.2.2;omega
    have S:=α h;have G:=α y;have T:=α l;have X:(L++M).length<=1000:=by rw[Μ];omega
    clear h y l;have u:=a9_ f h1 g.par;go_wp2_with fail;refine u.mono ?_;clear u;rintro e r ⟨rfl,A,m⟩;have n:τ r b s t1 c (L++M):=g.touched A m;have O:Below b w r:=H.trans (Χ m g.lt);clear A m;have q:=a9_ f h2 n.par;go_wp2_with fail;refine q.mono ?_;clear q;rintro e C ⟨rfl,F,o⟩;have z:τ C b s t1 c (L++M):=n.touched F o;have U:Below b w C:=O.trans (Χ o n.lt);clear F o;have D:=a9_ f h3 z.par;go_wp2_with fail;refine D.mono ?_;clear D;rintro e J ⟨rfl,P,E⟩;have I:τ J b s t1 c (L++M):=z.touched P E;have ac:Below b w J:=U.trans (Χ E z.lt);clear P E;have K:=a9_ f h4 I.par;go_wp2_with fail;refine K.mono ?_;clear K;rintro e R ⟨rfl,aa,Q⟩;have Y:τ R b s t1 c (L++M):=I.touched aa Q;have ad:Below b w R:=ac.trans (Χ Q I.lt);clear aa Q;go_wp2_with fail;go_ret2;exact⟨i,c,M,rfl,Y,S.out,o_,ad⟩
  have l4:=dl_ h4;simp only[ft_,if_false,if_true];cases hc:cq_ s t1.go with
  |no t2=>
   simp only;go_enter func184,ntmps184;go_wp2_with fail;refine B.mono ?_;clear B;rintro e w1 ⟨i,c,M,rfl,g,h,W,H⟩;obtain⟨d1,y,l⟩:=h.node;have V:d1.size<=1000000000:=by rw[l];have:=lz_ hk f N.2.1 N.2.2;omega
   have S:=α h;have G:=α y;have T:=α l;have X:(L++M).length<=1000:=by rw[Μ];omega
   clear h y l;have u:=a9_ f h1 g.par;go_wp2_with fail;refine u.mono ?_;clear u;rintro e r ⟨rfl,A,m⟩;have n:τ r b s t1 c (L++M):=g.touched A m;have O:Below b w r:=H.trans (Χ m g.lt);clear A m;have q:=a9_ f h2 n.par;go_wp2_with fail;refine q.mono ?_;clear q;rintro e C ⟨rfl,F,o⟩;have z:τ C b s t1 c (L++M):=n.touched F o;have U:Below b w C:=O.trans (Χ o n.lt);clear F o;have D:=a9_ f h3 z.par;go_wp2_with fail;refine D.mono ?_;clear D;rintro e J ⟨rfl,P,E⟩;have I:τ J b s t1 c (L++M):=z.touched P E;have ac:Below b w J:=U.trans (Χ E z.lt);clear P E;have K:=c1_ f h4 I.par;go_wp2_with fail;refine K.mono ?_;clear K;rintro e R ⟨rfl,aa,Q⟩;have Y:τ R b s t1.go c (L++M):=I.touched aa Q;have ad:Below b w R:=ac.trans (Χ Q I.lt);clear aa Q;have ab:=uq_ b s t1.go c R f z_ Y.par;rw[hc]at ab;clear hc;go_wp2_with fail;refine ab.mono ?_;clear ab;rintro e w6 ⟨⟨⟨x1,x2,x3,rfl⟩,ag⟩,ht6⟩;have ae:τ w6 b s t2 c (L++M):=Y.touched ag ht6;have ah:Below b w w6:=ad.trans (Χ ht6 Y.lt);go_wp2_with fail;go_ret2;exact⟨⟨_,rfl⟩,⟨_,_,ae.below ξ⟩,ah.alloc (Nat.le_of_lt ae.lt) _⟩
  |ok x t2=>
   obtain⟨lo,co,en⟩:=x;have ap:=qs_ hc;simp only[go_a]at ap;simp only;go_enter func184,ntmps184;go_wp2_with fail;refine B.mono ?_;clear B;rintro e w1 ⟨i,c,M,rfl,g,h,W,H⟩;obtain⟨d1,y,l⟩:=h.node;have V:d1.size<=1000000000:=by rw[l];have:=lz_ hk f N.2.1 N.2.2;omega
   have S:=α h;have G:=α y;have T:=α l;have X:(L++M).length<=1000:=by rw[Μ];omega
   clear h y l;have u:=a9_ f h1 g.par;go_wp2_with fail;refine u.mono ?_;clear u;rintro e r ⟨rfl,A,m⟩;have n:τ r b s t1 c (L++M):=g.touched A m;have O:Below b w r:=H.trans (Χ m g.lt);clear A m;have q:=a9_ f h2 n.par;go_wp2_with fail;refine q.mono ?_;clear q;rintro e C ⟨rfl,F,o⟩;have z:τ C b s t1 c (L++M):=n.touched F o;have U:Below b w C:=O.trans (Χ o n.lt);clear F o;have D:=a9_ f h3 z.par;go_wp2_with fail;refine D.mono ?_;clear D;rintro e J ⟨rfl,P,E⟩;have I:τ J b s t1 c (L++M):=z.touched P E;have ac:Below b w J:=U.trans (Χ E z.lt);clear P E;have K:=c1_ f h4 I.par;go_wp2_with fail;refine K.mono ?_;clear K;rintro e R ⟨rfl,aa,Q⟩;have Y:τ R b s t1.go c (L++M):=I.touched aa Q;have ad:Below b w R:=ac.trans (Χ Q I.lt);clear aa Q;have ab:=uq_ b s t1.go c R f z_ Y.par;rw[hc]at ab;clear hc;go_wp2_with fail;refine ab.mono ?_;clear ab;rintro e w6 ⟨⟨rfl,ag⟩,ht6⟩;have ae:τ w6 b s t2 c (L++M):=Y.touched ag ht6;have ah:Below b w w6:=ad.trans (Χ ht6 Y.lt);clear ag ht6;obtain⟨W8,af,-,-,-⟩:=ν w6 #[.int .i64 (lo:Int),.int .i64 (co:Int),.bool en] 130;have B8:Bl w6 W8.drew:=by rw[af];exact ξ.drew
   have k8:=aw_ af;obtain⟨c0,c1,c2,_,_,_⟩:=ay_ k8;have an:=ol_ b s t2 c (L++M) i lo co en d1 W8.drew (ae.below B8) X G.out V o_;have ao:Below b w W8.drew:=ah.trans (B8.mono (Nat.le_of_lt ae.lt));clear k8 B8;go_wp2_with fail;rw[<-af];clear af;go_region_with (go_at_call 189;refine an.mono ?_;intro e w9 am;obtain⟨j,rfl,ai⟩:=cb_.rep (t:=t) ao S.out G.out T.out W am o_ o_ o_;have HF:Hid _:=ai;clear ai am);go_wp2_with fail;go_ret2;exact HF.out
def w7_ (k:Nat):Prop:=∀(bp:Nat) (s:ByteArray) (t:Sp) (vn:Value) (L:List Nd) (w:World) (d:Int),d=6 - (k:Int)->s.size<=40->t.a<=s.size->L.length+4*(s.size - t.a)<=898->τ w bp s t vn L->
 Calls prog 168 #[.pointer (some ⟨bp,0,none⟩),.int .i64 d] w (cb_ bp s L (4*(s.size - t.a)+1) (cr_ s (bh_ s k) (s.size+1) .none t) w)
structure jg_ (R:ψ ζ)(k:Nat)(w:World)(bp:Nat)(s:ByteArray)(L:List Nd)(t:Sp)(wr:World)(wh:Nat)(t1:Sp)(vn1:Value)(M:List Nd)(p:ζ):Prop where
 par:τ wr bp s t1 vn1 (L++M)
 nod:b3_ (L++M) wh p
 rel:∃n,s.size - t1.a<n/\cr_ s (bh_ s k) n p t1=R
 le:t1.a<=s.size
 len:M.length+4*(s.size - t1.a)<=4*(s.size - t.a)+1
 blw:Below bp w wr
 sz:p.size<=t1.a*10000000
section
variable {R:ψ ζ} {k:Nat} {w:World} {bp:Nat} {s:ByteArray} {L:List Nd} {t:Sp} {wr:World} {wh:Nat} {t1:Sp} {vn1:Value} {M:List Nd} {p:ζ}
theorem jg_.stop (h:jg_ R k w bp s L t wr wh t1 vn1 M p)(he:ea_ s t1.a=true):R= .ok p t1:=by
 obtain⟨n,c,b⟩:=h.rel;obtain⟨n,rfl⟩:∃m,n=m+1:=⟨n - 1,o_⟩;simp only[cr_,he,if_true]at b;exact b.symm
theorem jg_.fail (h:jg_ R k w bp s L t wr wh t1 vn1 M p)(he:ea_ s t1.a=false){t2:Sp}(hi:fy_ s (bh_ s k) t1= .no t2):R= .no t2:=by
 obtain⟨n,c,b⟩:=h.rel;obtain⟨n,rfl⟩:∃m,n=m+1:=⟨n - 1,o_⟩;simp only[cr_,he,ft_,if_false,hi]at b;exact b.symm
theorem w8_ {q:ζ}{t2:Sp}(hk:k<=6)(hi:fy_ s (bh_ s k) t1= .ok q t2):t1.a<t2.a/\t2.a<=s.size/\q.size<=(t2.a - t1.a)*10000000:=by
 obtain⟨b,c,d⟩:=og_ (ib_ k) _ _ _ hi;refine⟨b,c,Nat.le_trans d (mul_le_mul_left _ ?_)⟩;have:10^k<=10^6:=Nat.pow_le_pow_right o_ hk;omega
theorem jg_.next (h:jg_ R k w bp s L t wr wh t1 vn1 M p)(hk:k<=6)(he:ea_ s t1.a=false){q:ζ}{t2:Sp}(hi:fy_ s (bh_ s k) t1= .ok q t2){M':List Nd}{d1 d2:Nd}(hb:Below bp w w2)
 (hN':b3_ (L++M++M') i q) (hlen:M'.length+4*(s.size - t2.a)<=4*(s.size - t1.a)- 1) (hd1:d1.size=p.size) (hd2:d2.size=q.size) (ha:kt_ bp s t2 (L++M++M') ⟨2,d1.size+d2.size,fun _=>false,0,0,false,wh,i⟩ w2 e w3):
 ∃(j:Nat) (vn3:Value) (M2:List Nd),e= .returned (.int .i64 (j:Int))/\jg_ R k w bp s L t w3 j t2 vn3 M2 (.chain p q):=by
 obtain⟨rfl,vn3,o,l⟩:=ha;obtain⟨n,x,f⟩:=h.rel;obtain⟨n,rfl⟩:∃m,n=m+1:=⟨n - 1,o_⟩;simp only[cr_,he,ft_,if_false,hi]at f;obtain⟨r,g,u⟩:=w8_ hk hi;have y:=h.sz;have v:=h.len;refine⟨(L++M++M').length,vn3,M++M'++ [⟨2,d1.size+d2.size,fun _=>false,0,0,false,wh,i⟩],rfl,⟨?_, ?_,⟨n,o_,f⟩,g,by simp only[Μ,ls_];omega,hb.trans l, ?_⟩⟩
 . rw[<-ac_,<-ac_];exact o
 . rw[<-ac_,<-ac_];exact .chain (d:=⟨2,d1.size+d2.size,fun _=>false,0,0,false,wh,i⟩) i_ rfl (by simp only[hd1,hd2]) rfl rfl ((h.nod.app M').app _) (hN'.app _)
 . simp only[ζ.size];have:=mx_ (a:=0) (b:=t1.a) (c:=t2.a) o_ o_ 10000000;simp only[Nat.sub_zero]at this;omega
end
theorem w9_ (k:Nat)(hk:k<=6)(HIT:w5_ k):w7_ k:=by
 intro f s t vn L w d N V ag hM S;have G:=fun t1 g L1 E=>HIT f s t1 g L1 E d N V
 clear N HIT;obtain⟨R,y⟩:=δ (cr_ s (bh_ s k) (s.size+1) .none t);rw[y.out];have c:=oh_ f s t vn L ⟨0,0,fun _=>false,0,0,false,0,0⟩ w S o_;unfold Α at c;simp only[show((0:Nat):Int)=0 from rfl]at c;go_enter func168,ntmps168;go_wp2_with fail;refine c.mono ?_;clear c;rintro e E ⟨rfl,g,T,K⟩;have I:jg_ R k w f s L t E L.length t g [⟨0,0,fun _=>false,0,0,false,0,0⟩] .none:=
  ⟨T,.none (d:=⟨0,0,fun _=>false,0,0,false,0,0⟩) i_ rfl rfl,⟨s.size+1,o_,y.out⟩,ag,s_,K,by simp[ζ.size]⟩
 clear T K y S;go_wp2_with fail;go_loopw [6,7,8] (fun wh' _ _ wr=>∃(r:Nat) (t1:Sp) (g:Value) (M:List Nd) (p:ζ),wh'= .int .i64 (r:Int)/\jg_ R k w f s L t wr r t1 g M p) (fun _ _ _ wr=>100 - atOf wr f)
 case atStart=>exact⟨_,_,_,_,_,rfl,I⟩
 case round=>
  clear I g;obtain⟨r,t1,g,M,p,rfl,b⟩:=hrel;have X:=α b.par.par.atOf;have Q:=b.le;have ae:=b.len;have l:=abm_ f s t1.a g t1.bk (t1.sp:Int) wr V b.par.par;cases he:ea_ s t1.a
  . rw[he]at l;cases hi:fy_ s (bh_ s k) t1 with
    |no t2=>
     have B:=b.fail he hi;subst B;go_wp2_with fail;refine l.mono ?_;clear l;rintro e j ⟨rfl,m,h⟩;have n:τ j f s t1 g (L++M):=b.par.touched m h;have o:Below f w j:=b.blw.trans (Χ h b.par.lt);clear m h;have c:=G t1 g (L++M) j Q (by rw[Μ];omega) n;rw[hi]at c;clear hi b;go_wp2_with fail;refine c.mono ?_;clear c;rintro e F ⟨⟨v,rfl⟩,⟨W,L3,x⟩,u⟩;go_wp2_with fail;go_ret2;exact⟨⟨_,rfl⟩,⟨_,_,x⟩,o.trans u⟩
    |ok q t2=>
     obtain⟨g1,g2,g3⟩:=w8_ hk hi;have Y:=α hi;have z:=α b;go_wp2_with fail;refine l.mono ?_;clear l;rintro e j ⟨rfl,m,h⟩;have n:τ j f s t1 g (L++M):=b.par.touched m h;have o:Below f w j:=b.blw.trans (Χ h b.par.lt);clear m h;have c:=G t1 g (L++M) j Q (by rw[Μ];omega) n;rw[hi]at c;clear hi b;go_wp2_with fail;refine c.mono ?_;clear c;rintro e F ⟨i,W,H,rfl,x,A,af,u⟩;have ad:Below f w F:=o.trans u;obtain⟨d1,O,C⟩:=(z.out.nod.app H).node;obtain⟨d2,P,D⟩:=A.node;have ai:=z.out.sz;have c:=um_ f s t2 W (L++M++H) 2 r i d1 d2 F x (by simp only[Μ];omega) O P (by rw[C];omega) (by rw[D];omega);simp only[show((2:Nat):Int)=2 from rfl]at c;have ab:=α C;have ac:=α D;have aa:=α A;clear O P C D u A n x;go_wp2_with fail;refine c.mono ?_;clear c;intro e w4 U;obtain⟨j4,aj,M4,rfl,J⟩:=z.out.next hk he Y.out ad aa.out af ab.out ac.out U;have ah:=J.par.par.atOf;clear U;go_wp2_with fail;go_roundw
     case rel=>exact⟨_,_,_,_,_,rfl,J⟩
     case measure=>
      have:=X.out;omega
  . rw[he]at l;have B:=b.stop he;subst B;go_wp2_with fail;refine l.mono ?_;clear l;rintro e j ⟨rfl,m,h⟩;have n:τ j f s t1 g (L++M):=b.par.touched m h;have o:Below f w j:=b.blw.trans (Χ h b.par.lt);clear m h;have Z:=α b.nod;clear b;go_wp2_with fail;go_ret2;exact⟨r,g,M,rfl,n,Z.out,ae,o⟩
structure jh_ (R:ψ ζ)(k:Nat)(w:World)(bp:Nat)(s:ByteArray)(L:List Nd)(t:Sp)(wr:World)(wh:Nat)(t1:Sp)(vn1:Value)(M:List Nd)(p:ζ):Prop where
 par:τ wr bp s t1 vn1 (L++M)
 nod:b3_ (L++M) wh p
 rel:∃n,s.size - t1.a<n/\gw_ s (bh_ s k) n p t1=R
 le:t1.a<=s.size
 len:M.length+4*(s.size - t1.a)<=4*(s.size - t.a)+1
 blw:Below bp w wr
 sz:p.size<=t1.a*10000000
structure xa_ (R:ψ ζ)(w:World)(bp:Nat)(s:ByteArray)(wr:World):Prop where
 no:∃t1 vn1 L1,R= .no t1/\τ wr bp s t1 vn1 L1
 blw:Below bp w wr
def xb_ (R:ψ ζ)(k:Nat)(w:World)(bp:Nat)(s:ByteArray)(L:List Nd)(t:Sp)(wr:World)(v:Int)(g:Bool):Prop:=
 (g=true/\∃(wh:Nat) (t1:Sp) (vn1:Value) (M:List Nd) (p:ζ),v=(wh:Int)/\jh_ R k w bp s L t wr wh t1 vn1 M p)\/(g=false/\xa_ R w bp s wr)
section
variable {R:ψ ζ} {k:Nat} {w:World} {bp:Nat} {s:ByteArray} {L:List Nd} {t:Sp} {wr:World} {wh:Nat} {t1:Sp} {vn1:Value} {M:List Nd} {p:ζ}
theorem jh_.stop (h:jh_ R k w bp s L t wr wh t1 vn1 M p)(he:ς s t1.a 124=false):R= .ok p t1:=by
 obtain⟨n,c,b⟩:=h.rel;obtain⟨n,rfl⟩:∃m,n=m+1:=⟨n - 1,o_⟩;simp only[gw_,he,ft_,if_false]at b;exact b.symm
theorem jh_.fail (h:jh_ R k w bp s L t wr wh t1 vn1 M p)(he:ς s t1.a 124=true){t2:Sp}(hi:cr_ s (bh_ s k) (s.size+1) .none t1.go= .no t2):R= .no t2:=by
 obtain⟨n,c,b⟩:=h.rel;obtain⟨n,rfl⟩:∃m,n=m+1:=⟨n - 1,o_⟩;simp only[gw_,he,if_true,hi]at b;exact b.symm
theorem ru_ {q:ζ}{t2:Sp}(hk:k<=6)(hz:t1.a<=s.size)(hi:cr_ s (bh_ s k) (s.size+1) .none t1= .ok q t2):t1.a<=t2.a/\t2.a<=s.size/\q.size<=(t2.a - t1.a)*10000000:=by
 obtain⟨b,c,d⟩:=ks_ (ib_ k) hz hi;refine⟨b,c,Nat.le_trans d ?_⟩;simp only[ζ.size,Nat.zero_add];refine mul_le_mul_left _ ?_;have:10^k<=10^6:=Nat.pow_le_pow_right o_ hk;omega
theorem jh_.next (h:jh_ R k w bp s L t wr wh t1 vn1 M p)(hk:k<=6)(he:ς s t1.a 124=true){q:ζ}{t2:Sp}(hi:cr_ s (bh_ s k) (s.size+1) .none t1.go= .ok q t2){M':List Nd}{d1 d2:Nd}(hb:Below bp w w2)
 (hN':b3_ (L++M++M') i q) (hlen:M'.length+4*(s.size - t2.a)<=4*(s.size - t1.go.a)+1) (hd1:d1.size=p.size) (hd2:d2.size=q.size) (ha:kt_ bp s t2 (L++M++M') ⟨3,d1.size+d2.size,fun _=>false,0,0,false,wh,i⟩ w2 e w3):
 ∃(j:Nat) (vn3:Value) (M2:List Nd),e= .returned (.int .i64 (j:Int))/\jh_ R k w bp s L t w3 j t2 vn3 M2 (.alt p q):=by
 obtain⟨rfl,vn3,u,r⟩:=ha;obtain⟨n,z,f⟩:=h.rel;obtain⟨n,rfl⟩:∃m,n=m+1:=⟨n - 1,o_⟩;simp only[gw_,he,if_true,hi]at f;have y:=dl_ he;obtain⟨g,l,o⟩:=ru_ hk z_ hi;simp only[go_a]at g o hlen;have A:=h.sz;have x:=h.len;refine⟨(L++M++M').length,vn3,M++M'++ [⟨3,d1.size+d2.size,fun _=>false,0,0,false,wh,i⟩],rfl,⟨?_, ?_,⟨n,o_,f⟩,l,by simp only[Μ,ls_];omega,hb.trans r, ?_⟩⟩
 . rw[<-ac_,<-ac_];exact u
 . rw[<-ac_,<-ac_];exact .alt (d:=⟨3,d1.size+d2.size,fun _=>false,0,0,false,wh,i⟩) i_ rfl (by simp only[hd1,hd2]) rfl rfl ((h.nod.app M').app _) (hN'.app _)
 . simp only[ζ.size];have:=mx_ (a:=0) (b:=t1.a) (c:=t2.a) o_ o_ 10000000;simp only[Nat.sub_zero]at this;have v:(t2.a - (t1.a+1))*10000000<=(t2.a - t1.a)*10000000:=mul_le_mul_right _ o_;omega
end
def rv_ (g:Value)(w:World)(bp:Nat):Nat:=match g with
 | .bool true=>100 - atOf w bp
 |_=>0
theorem xc_ (k:Nat)(hk:k<=6)(HSQ:w7_ k):rt_ k:=by
 intro c s t vn L w d hd Q ah hM ae;have H:=fun t1 h B o=>HSQ c s t1 h B o d hd Q
 clear hd HSQ;obtain⟨R,A⟩:=δ (ec_ s (bh_ s k) t);rw[A.out];have f:=H t vn L w ah o_ ae;have W:Hid (∀e o,cb_ c s L (4*(s.size - t.a)+1) (cr_ s (bh_ s k) (s.size+1) .none t) w e o->∃(v:Int) (g:Bool),e= .returned (.tuple #[.int .i64 v,.bool g])/\xb_ R k w c s L t o v g):=by
  intro e o E;cases hi:cr_ s (bh_ s k) (s.size+1) .none t with
  |no t1=>
   rw[hi]at E;obtain⟨⟨v,rfl⟩,⟨h,B,z⟩,x⟩:=E;refine⟨v,false,rfl,.inr ⟨rfl,⟨t1,h,B, ?_,z⟩,x⟩⟩;rw[<-A.out];unfold ec_;rw[hi]
  |ok q t1=>
   rw[hi]at E;obtain⟨i,h,M,rfl,z,hN,P,x⟩:=E;obtain⟨K,Z,N⟩:=ru_ hk ah hi;refine⟨_,true,rfl,.inl ⟨rfl,i,t1,h,M,q,rfl,z,hN,⟨s.size+1,o_, ?_⟩,Z,P,x, ?_⟩⟩
   . rw[<-A.out];unfold ec_;rw[hi]
   . exact Nat.le_trans N (mul_le_mul_right _ o_)
 clear A ae;go_enter func141,ntmps141;go_wp2_with fail;refine f.mono ?_;clear f;intro e o af;obtain⟨v1,K,rfl,Y⟩:=W.out e o af;clear af W;go_wp2_with fail;go_loopw [6,7,8] (fun wh' g' _ wr=>∃(v:Int) (g:Bool),wh'= .int .i64 v/\g'= .bool g/\xb_ R k w c s L t wr v g) (fun _ g' _ wr=>rv_ g' wr c)
 case atStart=>exact⟨_,_,rfl,rfl,Y⟩
 case round=>
  clear Y;obtain⟨v,g,rfl,rfl,hrel⟩:=hrel;rcases hrel with ⟨rfl,G,t1,h,M,p,rfl,b⟩|⟨rfl,b⟩
  . have V:Hid (atOf wr c=t1.a):=b.par.par.atOf;have P:=b.len;cases he:ς s t1.a 124
    . have n:=a9_ Q he b.par.par;have r:=b.stop he;subst r;go_wp2_with fail;refine n.mono ?_;clear n;rintro e l ⟨rfl,m,j⟩;have u:τ l c s t1 h (L++M):=b.par.touched m j;have y:Below c w l:=b.blw.trans (Χ j b.par.lt);have HN:Hid (b3_ (L++M) G p):=b.nod;clear m j b;go_wp2_with fail;go_ret2;exact⟨G,h,M,rfl,u,HN.out,P,y⟩
    . have n:=c1_ Q he b.par.par;have aq:=dl_ he;cases hi:cr_ s (bh_ s k) (s.size+1) .none t1.go with
      |no t2=>
       have r:=b.fail he hi;go_wp2_with fail;refine n.mono ?_;clear n;rintro e l ⟨rfl,m,j⟩;have u:τ l c s t1.go h (L++M):=b.par.touched m j;have y:Below c w l:=b.blw.trans (Χ j b.par.lt);clear m j;have f:=H t1.go h (L++M) l z_ (by rw[length_append];simp only[go_a];omega) u;rw[hi]at f;have X:Hid (R= .no t2):=r;clear hi b r;go_wp2_with fail;refine f.mono ?_;clear f;rintro e F ⟨⟨v3,rfl⟩,⟨U,L3,D⟩,C⟩;have ao:xa_ R w c s F:=⟨⟨t2,U,L3,X.out,D⟩,y.trans C⟩;clear X;go_wp2_with fail;go_roundw
       case rel=>exact⟨_,_,rfl,rfl,.inr ⟨rfl,ao⟩⟩
       case measure=>
        have:=V.out;simp only[rv_];omega
      |ok q t2=>
       obtain⟨K,Z,N⟩:=ru_ hk z_ hi;simp only[go_a]at K N;have ai:Hid (cr_ s (bh_ s k) (s.size+1) .none t1.go= .ok q t2):=hi;have I:Hid (jh_ R k w c s L t wr G t1 h M p):=b;go_wp2_with fail;refine n.mono ?_;clear n;rintro e l ⟨rfl,m,j⟩;have u:τ l c s t1.go h (L++M):=b.par.touched m j;have y:Below c w l:=b.blw.trans (Χ j b.par.lt);clear m j;have f:=H t1.go h (L++M) l z_ (by rw[length_append];simp only[go_a];omega) u;rw[hi]at f;clear hi b;go_wp2_with fail;refine f.mono ?_;clear f;rintro e F ⟨i,U,J,rfl,D,O,ad,C⟩;have am:Below c w F:=y.trans C;obtain⟨d1,ab,S⟩:=(I.out.nod.app J).node;obtain⟨d2,ac,T⟩:=O.node;have ar:=I.out.sz;have an:=ad;simp only[go_a]at an;have f:=um_ c s t2 U (L++M++J) 3 G i d1 d2 F D (by simp only[length_append];omega) ab ac (by rw[S];omega) (by rw[T];omega);simp only[show((3:Nat):Int)=3 from rfl]at f;have ak:Hid (d1.size=p.size):=S;have al:Hid (d2.size=q.size):=T;have aj:Hid (b3_ (L++M++J) i q):=O;clear ab ac S T C O u D;go_wp2_with fail;refine f.mono ?_;clear f;intro e w4 ag;obtain⟨j4,au,M4,rfl,aa⟩:=I.out.next hk he ai.out am aj.out ad ak.out al.out ag;have ap:=aa.par.par.atOf;clear ag;go_wp2_with fail;go_roundw
       case rel=>exact⟨_,_,rfl,rfl,.inl ⟨rfl,_,_,_,_,_,rfl,aa⟩⟩
       case measure=>
        have:=V.out;simp only[rv_];omega
  . obtain⟨⟨t1,h,B,r,z⟩,x⟩:=b;subst r;go_wp2_with fail;go_ret2;exact⟨⟨_,rfl⟩,⟨_,_,z⟩,x⟩
theorem xd_:∀k,k<=6->ph_ k
 |0,_=>afm_
 |k+1,hk=>afn_ k o_ (xc_ k o_ (w9_ k o_ (w6_ k o_ (xd_ k o_))))
theorem xe_:rt_ 6:=xc_ 6 o_ (w9_ 6 o_ (w6_ 6 o_ (xd_ 6 o_)))
theorem pi_ (bp:Nat)(s:ByteArray)(w:World)(hs:s.size<=40)(h:τ w bp s ⟨0,false,0⟩ (.slice none 0 0) []){p:ζ}{t:Sp}(hp:c8_ s= .ok p t)(ht:t.a=s.size):
 Calls prog 105 #[.pointer (some ⟨bp,0,none⟩)] w
  fun e w'=>∃(i:Nat) (vn':Value) (M:List Nd),e= .returned (.tuple #[.int .i64 (i:Int),.bool true])/\τ w' bp s t vn' M/\b3_ M i p/\M.length<=1000/\Below bp w w':=by
 have d:=xe_ bp s ⟨0,false,0⟩ (.slice none 0 0) [] w 0 o_ hs i_ s_ h;rw[show ec_ s (bh_ s 6) ⟨0,false,0⟩= .ok p t from hp]at d;have l:(t.a:Int)=(s.size:Int):=o_;have o:((t.a:Int)==(s.size:Int))=true:=s_;clear hp h;go_enter func105,ntmps105;go_wp2_with fail;refine d.mono ?_;clear d;rintro e c ⟨i,m,M,rfl,b,f,n,k⟩;rw[nil_append]at b f;obtain⟨q,r,_,_,_,_,_,_⟩:=b.par.cells;have g:=α b;have j:=α f;clear b f ht l;go_wp2_with fail;go_quiet (fail);go_wp2_with fail;go_ret2;exact⟨i,m,M,rfl,g.out.below (below_drewN (Below.refl c.heap.size c) nq),j.out,o_,k.trans ((below_drewN (Below.refl c.heap.size c) nq).mono (Nat.le_of_lt g.out.lt))⟩
theorem afo_ (bp:Nat)(s:ByteArray)(w:World)(hs:s.size<=40)(h:τ w bp s ⟨0,false,0⟩ (.slice none 0 0) []){t:Sp}(hp:c8_ s= .no t\/∃p,c8_ s= .ok p t/\t.a≠s.size):
 Calls prog 105 #[.pointer (some ⟨bp,0,none⟩)] w
  fun e w'=>∃(v:Int) (vn':Value) (M:List Nd),e= .returned (.tuple #[.int .i64 v,.bool false])/\τ w' bp s t vn' M/\Below bp w w':=by
 have d:=xe_ bp s ⟨0,false,0⟩ (.slice none 0 0) [] w 0 o_ hs i_ s_ h;clear h;rcases hp with hp|⟨p,hp,m⟩
 . rw[show ec_ s (bh_ s 6) ⟨0,false,0⟩= .no t from hp]at d;clear hp;go_enter func105,ntmps105;go_wp2_with fail;refine d.mono ?_;clear d;rintro e b ⟨⟨v,rfl⟩,⟨g,k,c⟩,f⟩;go_wp2_with fail;go_quiet (fail);go_wp2_with fail;go_ret2;exact⟨v,g,k,rfl,c.below (below_drewN (Below.refl b.heap.size b) nq),f.trans ((below_drewN (Below.refl b.heap.size b) nq).mono (Nat.le_of_lt c.lt))⟩
 . rw[show ec_ s (bh_ s 6) ⟨0,false,0⟩= .ok p t from hp]at d;have o:((t.a:Int)==(s.size:Int))=false:=s_;clear hp;go_enter func105,ntmps105;go_wp2_with fail;refine d.mono ?_;clear d;rintro e b ⟨i,g,M,rfl,c,l,n,f⟩;rw[nil_append]at c;obtain⟨q,r,_,_,_,_,_,_⟩:=c.par.cells;have j:=α c;clear c l m;go_wp2_with fail;go_quiet (fail);go_wp2_with fail;go_ret2;exact⟨i,g,M,rfl,j.out.below (below_drewN (Below.refl b.heap.size b) nq),f.trans ((below_drewN (Below.refl b.heap.size b) nq).mono (Nat.le_of_lt j.out.lt))⟩
end Go.Proofs.YtpngikmcjkjdaaaGreatDoor
