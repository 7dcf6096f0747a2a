import Derived.Test.YtpngikmcjkjdaaaGreatDoorC13
import Derived.Test.YtpngikmcjkjdaaaGreatDoorC14
import Derived.Test.YtpngikmcjkjdaaaGreatDoorC20
set_option linter.unusedVariables false
set_option linter.unusedSimpArgs false
set_option maxRecDepth 20000
set_option maxHeartbeats 80000000
namespace Go.Proofs.YtpngikmcjkjdaaaGreatDoor
open Go.RowKit Tryz List Nat
variable {s:ByteArray} {e:Ending} {er:Int} {b bp i pl:Nat} {w w1 w2 w3:World}
theorem τ.cc {t t1:Sp}{vn:Value}{L:List Nd}(h:τ w bp s t vn L)(hp:υ w1 bp s t1.a vn t1.bk (t1.sp:Int))(ht:ε (fun k=>k=bp) w w1):τ w1 bp s t1 vn L:=
 ⟨hp,ht.own h.own (fun g hg e=>by have:=(h.own.lt g hg).1;omega)⟩
theorem Ψ (ht:ε (fun k=>k=bp) w w1)(hbp:bp<w.heap.size):Below bp w w1:=ht.below (Below.refl bp w) o_ (fun k e=>by have e':k=bp:=e;omega)
def ce_ (bp:Nat)(s:ByteArray)(L:List Nd)(bound:Nat)(r:ψ ζ)(w:World)(e:Ending)(w':World):Prop:=
 match r with
 | .no t'=>(∃v:Int,e= .returned (.tuple #[.int .i64 v,.bool false]))/\(∃vn' L',τ w' bp s t' vn' L')/\Below bp w w'
 | .ok p t'=>∃(i:Nat) (vn':Value) (M:List Nd),e= .returned (.tuple #[.int .i64 (i:Int),.bool true])/\τ w' bp s t' vn' (L++M)/\b3_ (L++M) i p/\M.length+4*(s.size - t'.a)<=bound/\Below bp w w'
def pw_ (k:Nat):Prop:=∀(bp:Nat) (s:ByteArray) (t:Sp) (vn:Value) (L:List Nd) (w:World) (d:Int),d=6 - (k:Int)->s.size<=40->t.a<=s.size->L.length+4*(s.size - t.a)<=900->τ w bp s t vn L->
 Calls prog 188 #[.pointer (some ⟨bp,0,none⟩),.int .i64 d] w (ce_ bp s L (4*(s.size - t.a)- 2) (bh_ s k t) w)
def r6_ (k:Nat):Prop:=∀(bp:Nat) (s:ByteArray) (t:Sp) (vn:Value) (L:List Nd) (w:World) (d:Int),d=6 - (k:Int)->s.size<=40->t.a<=s.size->L.length+4*(s.size - t.a)<=897->τ w bp s t vn L->
 Calls prog 141 #[.pointer (some ⟨bp,0,none⟩),.int .i64 d] w (ce_ bp s L (4*(s.size - t.a)+1) (ec_ s (bh_ s k) t) w)
theorem ahd_ (L:List Nd)(f:Nat->Bool):b3_ (L++ [⟨1,1,f,0,0,false,0,0⟩]) L.length (.one f):= .one (d:=⟨1,1,f,0,0,false,0,0⟩) i_ rfl rfl rfl
theorem ce_.single {t t':Sp}{L:List Nd}{f:Nat->Bool}(hb:Below bp w w1)(ha:kv_ bp s t' L ⟨1,1,f,0,0,false,0,0⟩ w1 e w2)(h1:t.a<t'.a)(h2:t'.a<=s.size):
 ∃vn':Value,e= .returned (.int .i64 ((L.length:Nat):Int))/\ce_ bp s L (4*(s.size - t.a)- 2) (.ok (.one f) t') w (.returned (.tuple #[.int .i64 ((L.length:Nat):Int),.bool true])) w2:=by
 obtain⟨rfl,vn',c,b⟩:=ha;exact⟨vn',rfl,L.length,vn',[⟨1,1,f,0,0,false,0,0⟩],rfl,c,ahd_ L f,s_,hb.trans b⟩
theorem ahe_:pw_ 0:=by
 intro g s t p L w d hd S an hM M;obtain rfl:d=6:=o_;clear hd;have ac:Below g w w:=μ;simp only[bh_];cases h1:ς s t.a 91
 rotate_left 1
 . have l1:=dl_ h1;cases hr:f8_ s t.go with
   |no t2=>
    have P:c0_ s t= .no t2:=by unfold c0_;rw[if_pos h1,hr]
    rw[P];clear P;go_enter func188,ntmps188;have O:=c1_ S h1 M.par;go_wp2_with fail;refine O.mono ?_;clear O;rintro e K ⟨rfl,Q,F⟩;have E:τ K g s t.go p L:=M.cc Q F;have U:Below g w K:=ac.trans (Ψ F M.lt);clear Q F;have J:=ot_ g s t.go p K S z_ E.par;rw[hr]at J;clear hr;go_wp2_with fail;refine J.mono ?_;clear J;rintro e G ⟨⟨⟨f,rfl⟩,R⟩,H⟩;have I:τ G g s t2 p L:=E.cc R H;have V:Below g w G:=U.trans (Ψ H E.lt);unfold Ε;go_wp2_with fail;go_ret2;exact⟨⟨_,rfl⟩,⟨_,_,I.below ξ⟩,V.alloc (Nat.le_of_lt I.lt) _⟩
   |ok N t2=>
    have am:=ok_ hr;have P:c0_ s t= .ok (.one N) t2:=by unfold c0_;rw[if_pos h1,hr]
    rw[P];clear P;go_enter func188,ntmps188;have O:=c1_ S h1 M.par;go_wp2_with fail;refine O.mono ?_;clear O;rintro e K ⟨rfl,Q,F⟩;have E:τ K g s t.go p L:=M.cc Q F;have U:Below g w K:=ac.trans (Ψ F M.lt);clear Q F;have J:=ot_ g s t.go p K S z_ E.par;rw[hr]at J;clear hr;go_wp2_with fail;refine J.mono ?_;clear J;rintro e G ⟨⟨rfl,R⟩,H⟩;have I:τ G g s t2 p L:=E.cc R H;have V:Below g w G:=U.trans (Ψ H E.lt);clear R H;unfold Ε;obtain⟨h,b,-,-,-⟩:=ν G (Ε N) 128;have i:Bl G h.drew:=by rw[b];exact ξ.drew
    have j:=aw_ b;obtain⟨r,u,v,y,z,A,B,C⟩:=bz_ (co_ j);have k:=ez_ g s t2 p L N h.drew (I.below i) o_;have D:Below g w h.drew:=V.trans (i.mono (Nat.le_of_lt I.lt));unfold Ε at k b;have W:G.heap.size<h.heap.size:=κ j;have X:g<G.heap.size:=I.lt;clear j i;go_wp2_with fail;rw[<-b];clear b;go_region_with (go_at_call 192;refine k.mono ?_;intro e Z n;obtain⟨Y,rfl,m⟩:=ce_.single (t:=t) D n (by simp only[go_a]at*;omega) (by simp only[go_a]at*;omega);have q:Hid _:=m;clear m n);go_wp2_with fail;go_ret2;exact q.out
 cases h2:ς s t.a 46
 rotate_left 1
 . have l2:=dl_ h2;have P:c0_ s t= .ok (.one (fun _=>true)) t.go:=by unfold c0_;rw[if_neg (by rw[h1];exact Bool.false_ne_true),if_pos h2]
   rw[P];clear P;go_enter func188,ntmps188;have O:=a9_ S h1 M.par;go_wp2_with fail;refine O.mono ?_;clear O;rintro e K ⟨rfl,Q,F⟩;have E:τ K g s t p L:=M.cc Q F;have U:Below g w K:=ac.trans (Ψ F M.lt);clear Q F;have J:=c1_ S h2 E.par;go_wp2_with fail;refine J.mono ?_;clear J;rintro e G ⟨rfl,R,H⟩;have I:τ G g s t.go p L:=E.cc R H;have V:Below g w G:=U.trans (Ψ H E.lt);clear R H;obtain⟨W6,ag,B6,-,k6⟩:=ν G (Ε (fun _=>false)) 128;obtain⟨r,u,v,y,z,A,B,C⟩:=bz_ (f:=fun _=>false) (co_ k6);have HO:=q1_ (fun _=>false) W6;simp only[Bool.not_false]at HO;have ai:=I.below B6;have aj:Below g w W6:=V.trans (B6.mono (Nat.le_of_lt I.lt));simp only[show Ε (fun _=>false)= #[.bool false,.bool false,.bool false,.bool false,.bool false,.bool false,.bool false,.bool false]from rfl]at ag HO;clear k6;go_upto_region 13 with fail;rw[<-ag];clear ag;go_wp2_with fail;refine HO.mono ?_;clear HO;rintro e w7 ⟨rfl,af⟩;have ah:=ai.below af;have ak:Below g w w7:=aj.trans (af.mono (Nat.le_of_lt ai.lt));clear r u v y z A B C af;obtain⟨h,b,-,-,-⟩:=ν w7 (Ε (fun _=>true)) 128;have i:Bl w7 h.drew:=by rw[b];exact ξ.drew
   have j:=aw_ b;obtain⟨r,u,v,y,z,A,B,C⟩:=bz_ (co_ j);have k:=ez_ g s t.go p L (fun _=>true) h.drew (ah.below i) o_;have D:Below g w h.drew:=ak.trans (i.mono (Nat.le_of_lt ah.lt));unfold Ε at k b;have W:w7.heap.size<h.heap.size:=κ j;have X:g<w7.heap.size:=ah.lt;clear j i;simp only[show Ε (fun _=>true)= #[.bool true,.bool true,.bool true,.bool true,.bool true,.bool true,.bool true,.bool true]from rfl];go_wp2_with fail;rw[<-b];clear b;go_region_with (go_at_call 192;refine k.mono ?_;intro e Z n;obtain⟨Y,rfl,m⟩:=ce_.single (t:=t) D n (by simp only[go_a]at*;omega) (by simp only[go_a]at*;omega);have q:Hid _:=m;clear m n);go_wp2_with fail;go_ret2;exact q.out
 cases h3:c7_ s t.a
 . skip;have P:c0_ s t= .no t:=by unfold c0_;rw[if_neg (by rw[h1];exact Bool.false_ne_true),if_neg (by rw[h2];exact Bool.false_ne_true),if_neg (by rw[h3];exact Bool.false_ne_true)]
   rw[P];clear P;go_enter func188,ntmps188;have O:=a9_ S h1 M.par;go_wp2_with fail;refine O.mono ?_;clear O;rintro e K ⟨rfl,Q,F⟩;have E:τ K g s t p L:=M.cc Q F;have U:Below g w K:=ac.trans (Ψ F M.lt);clear Q F;have J:=a9_ S h2 E.par;go_wp2_with fail;refine J.mono ?_;clear J;rintro e G ⟨rfl,R,H⟩;have I:τ G g s t p L:=E.cc R H;have V:Below g w G:=U.trans (Ψ H E.lt);clear R H;have ab:=os_ S h3 I.par;go_wp2_with fail;refine ab.mono ?_;clear ab;rintro e l ⟨rfl,ad,aa⟩;have o:τ l g s t p L:=I.cc ad aa;have T:Below g w l:=V.trans (Ψ aa I.lt);clear ad aa;go_wp2_with fail;go_ret2;exact⟨⟨_,rfl⟩,⟨_,_,o⟩,T⟩
 . have l3:=in_ h3;have n3:=(jz_ h3).1;obtain⟨c,ae⟩:=δ (θ s t.a - 97);rw[ae.out]at n3;have P:c0_ s t= .ok (.one (fun x=>decide (x=c))) t.go:=by unfold c0_;rw[if_neg (by rw[h1];exact Bool.false_ne_true),if_neg (by rw[h2];exact Bool.false_ne_true),if_pos h3,ae.out]
   rw[P];clear P;go_enter func188,ntmps188;have O:=a9_ S h1 M.par;go_wp2_with fail;refine O.mono ?_;clear O;rintro e K ⟨rfl,Q,F⟩;have E:τ K g s t p L:=M.cc Q F;have U:Below g w K:=ac.trans (Ψ F M.lt);clear Q F;have J:=a9_ S h2 E.par;go_wp2_with fail;refine J.mono ?_;clear J;rintro e G ⟨rfl,R,H⟩;have I:τ G g s t p L:=E.cc R H;have V:Below g w G:=U.trans (Ψ H E.lt);clear R H;have ab:=or_ S h3 I.par;rw[ae.out]at ab;go_wp2_with fail;refine ab.mono ?_;clear ab;rintro e l ⟨rfl,ad,aa⟩;have o:τ l g s t.go p L:=I.cc ad aa;have T:Below g w l:=V.trans (Ψ aa I.lt);clear ad aa;have al:c=0\/c=1\/c=2\/c=3\/c=4\/c=5\/c=6\/c=7:=o_;clear ae n3;rcases al with rfl|rfl|rfl|rfl|rfl|rfl|rfl|rfl
   . obtain⟨h,b⟩:=af_ (l.alloc (.cells (Ε (fun x=>decide (x=0))) 128));have i:Bl l h.drew:=by rw[b];exact ξ.drew
     have j:=aw_ b;obtain⟨r,u,v,y,z,A,B,C⟩:=bz_ (co_ j);have k:=ez_ g s t.go p L (fun x=>decide (x=0)) h.drew (o.below i) o_;have D:Below g w h.drew:=T.trans (i.mono (Nat.le_of_lt o.lt));unfold Ε at k b;have W:l.heap.size<h.heap.size:=κ j;have X:g<l.heap.size:=o.lt;clear j i;simp at r u v y z A B C;simp at k b;go_wp2_with fail;rw[<-b];clear b;go_region_with (go_at_call 192;refine k.mono ?_;intro e Z n;obtain⟨Y,rfl,m⟩:=ce_.single (t:=t) D n (by simp only[go_a]at*;omega) (by simp only[go_a]at*;omega);have q:Hid _:=m;clear m n);go_wp2_with fail;go_ret2;exact q.out
   . obtain⟨h,b⟩:=af_ (l.alloc (.cells (Ε (fun x=>decide (x=1))) 128));have i:Bl l h.drew:=by rw[b];exact ξ.drew
     have j:=aw_ b;obtain⟨r,u,v,y,z,A,B,C⟩:=bz_ (co_ j);have k:=ez_ g s t.go p L (fun x=>decide (x=1)) h.drew (o.below i) o_;have D:Below g w h.drew:=T.trans (i.mono (Nat.le_of_lt o.lt));unfold Ε at k b;have W:l.heap.size<h.heap.size:=κ j;have X:g<l.heap.size:=o.lt;clear j i;simp at r u v y z A B C;simp at k b;go_wp2_with fail;rw[<-b];clear b;go_region_with (go_at_call 192;refine k.mono ?_;intro e Z n;obtain⟨Y,rfl,m⟩:=ce_.single (t:=t) D n (by simp only[go_a]at*;omega) (by simp only[go_a]at*;omega);have q:Hid _:=m;clear m n);go_wp2_with fail;go_ret2;exact q.out
   . obtain⟨h,b⟩:=af_ (l.alloc (.cells (Ε (fun x=>decide (x=2))) 128));have i:Bl l h.drew:=by rw[b];exact ξ.drew
     have j:=aw_ b;obtain⟨r,u,v,y,z,A,B,C⟩:=bz_ (co_ j);have k:=ez_ g s t.go p L (fun x=>decide (x=2)) h.drew (o.below i) o_;have D:Below g w h.drew:=T.trans (i.mono (Nat.le_of_lt o.lt));unfold Ε at k b;have W:l.heap.size<h.heap.size:=κ j;have X:g<l.heap.size:=o.lt;clear j i;simp at r u v y z A B C;simp at k b;go_wp2_with fail;rw[<-b];clear b;go_region_with (go_at_call 192;refine k.mono ?_;intro e Z n;obtain⟨Y,rfl,m⟩:=ce_.single (t:=t) D n (by simp only[go_a]at*;omega) (by simp only[go_a]at*;omega);have q:Hid _:=m;clear m n);go_wp2_with fail;go_ret2;exact q.out
   . obtain⟨h,b⟩:=af_ (l.alloc (.cells (Ε (fun x=>decide (x=3))) 128));have i:Bl l h.drew:=by rw[b];exact ξ.drew
     have j:=aw_ b;obtain⟨r,u,v,y,z,A,B,C⟩:=bz_ (co_ j);have k:=ez_ g s t.go p L (fun x=>decide (x=3)) h.drew (o.below i) o_;have D:Below g w h.drew:=T.trans (i.mono (Nat.le_of_lt o.lt));unfold Ε at k b;have W:l.heap.size<h.heap.size:=κ j;have X:g<l.heap.size:=o.lt;clear j i;simp at r u v y z A B C;simp at k b;go_wp2_with fail;rw[<-b];clear b;go_region_with (go_at_call 192;refine k.mono ?_;intro e Z n;obtain⟨Y,rfl,m⟩:=ce_.single (t:=t) D n (by simp only[go_a]at*;omega) (by simp only[go_a]at*;omega);have q:Hid _:=m;clear m n);go_wp2_with fail;go_ret2;exact q.out
   . obtain⟨h,b⟩:=af_ (l.alloc (.cells (Ε (fun x=>decide (x=4))) 128));have i:Bl l h.drew:=by rw[b];exact ξ.drew
     have j:=aw_ b;obtain⟨r,u,v,y,z,A,B,C⟩:=bz_ (co_ j);have k:=ez_ g s t.go p L (fun x=>decide (x=4)) h.drew (o.below i) o_;have D:Below g w h.drew:=T.trans (i.mono (Nat.le_of_lt o.lt));unfold Ε at k b;have W:l.heap.size<h.heap.size:=κ j;have X:g<l.heap.size:=o.lt;clear j i;simp at r u v y z A B C;simp at k b;go_wp2_with fail;rw[<-b];clear b;go_region_with (go_at_call 192;refine k.mono ?_;intro e Z n;obtain⟨Y,rfl,m⟩:=ce_.single (t:=t) D n (by simp only[go_a]at*;omega) (by simp only[go_a]at*;omega);have q:Hid _:=m;clear m n);go_wp2_with fail;go_ret2;exact q.out
   . obtain⟨h,b⟩:=af_ (l.alloc (.cells (Ε (fun x=>decide (x=5))) 128));have i:Bl l h.drew:=by rw[b];exact ξ.drew
     have j:=aw_ b;obtain⟨r,u,v,y,z,A,B,C⟩:=bz_ (co_ j);have k:=ez_ g s t.go p L (fun x=>decide (x=5)) h.drew (o.below i) o_;have D:Below g w h.drew:=T.trans (i.mono (Nat.le_of_lt o.lt));unfold Ε at k b;have W:l.heap.size<h.heap.size:=κ j;have X:g<l.heap.size:=o.lt;clear j i;simp at r u v y z A B C;simp at k b;go_wp2_with fail;rw[<-b];clear b;go_region_with (go_at_call 192;refine k.mono ?_;intro e Z n;obtain⟨Y,rfl,m⟩:=ce_.single (t:=t) D n (by simp only[go_a]at*;omega) (by simp only[go_a]at*;omega);have q:Hid _:=m;clear m n);go_wp2_with fail;go_ret2;exact q.out
   . obtain⟨h,b⟩:=af_ (l.alloc (.cells (Ε (fun x=>decide (x=6))) 128));have i:Bl l h.drew:=by rw[b];exact ξ.drew
     have j:=aw_ b;obtain⟨r,u,v,y,z,A,B,C⟩:=bz_ (co_ j);have k:=ez_ g s t.go p L (fun x=>decide (x=6)) h.drew (o.below i) o_;have D:Below g w h.drew:=T.trans (i.mono (Nat.le_of_lt o.lt));unfold Ε at k b;have W:l.heap.size<h.heap.size:=κ j;have X:g<l.heap.size:=o.lt;clear j i;simp at r u v y z A B C;simp at k b;go_wp2_with fail;rw[<-b];clear b;go_region_with (go_at_call 192;refine k.mono ?_;intro e Z n;obtain⟨Y,rfl,m⟩:=ce_.single (t:=t) D n (by simp only[go_a]at*;omega) (by simp only[go_a]at*;omega);have q:Hid _:=m;clear m n);go_wp2_with fail;go_ret2;exact q.out
   . obtain⟨h,b⟩:=af_ (l.alloc (.cells (Ε (fun x=>decide (x=7))) 128));have i:Bl l h.drew:=by rw[b];exact ξ.drew
     have j:=aw_ b;obtain⟨r,u,v,y,z,A,B,C⟩:=bz_ (co_ j);have k:=ez_ g s t.go p L (fun x=>decide (x=7)) h.drew (o.below i) o_;have D:Below g w h.drew:=T.trans (i.mono (Nat.le_of_lt o.lt));unfold Ε at k b;have W:l.heap.size<h.heap.size:=κ j;have X:g<l.heap.size:=o.lt;clear j i;simp at r u v y z A B C;simp at k b;go_wp2_with fail;rw[<-b];clear b;go_region_with (go_at_call 192;refine k.mono ?_;intro e Z n;obtain⟨Y,rfl,m⟩:=ce_.single (t:=t) D n (by simp only[go_a]at*;omega) (by simp only[go_a]at*;omega);have q:Hid _:=m;clear m n);go_wp2_with fail;go_ret2;exact q.out
theorem ahf_ (k:Nat)(hk:k<6)(HP:r6_ k):pw_ (k+1):=by
 intro b s t o L w d hd D aI hM E;have aj:Below b w w:=μ;have aH:d<6:=o_;have aG:0<=d:=o_;have HD:=α hd;clear hd;simp only[bh_];cases h0:ς s t.a 40
 . simp only[ft_,if_false];cases h1:ς s t.a 91
   rotate_left 1
   . have l1:=dl_ h1;cases hr:f8_ s t.go with
     |no t2=>
      have hR:c0_ s t= .no t2:=by unfold c0_;rw[if_pos h1,hr]
      rw[hR];clear hR;go_enter func188,ntmps188;have F:=a9_ D h0 E.par;go_wp2_with fail;refine F.mono ?_;clear F;rintro e B ⟨rfl,G,q⟩;have C:τ B b s t o L:=E.cc G q;have ab:Below b w B:=aj.trans (Ψ q E.lt);clear G q;have z:=c1_ D h1 C.par;go_wp2_with fail;refine z.mono ?_;clear z;rintro e H ⟨rfl,ac,V⟩;have u:τ H b s t.go o L:=C.cc ac V;have Y:Below b w H:=ab.trans (Ψ V C.lt);clear ac V;have aa:=ot_ b s t.go o H D z_ u.par;rw[hr]at aa;clear hr;go_wp2_with fail;refine aa.mono ?_;clear aa;rintro e W ⟨⟨⟨f,rfl⟩,ad⟩,X⟩;have Z:τ W b s t2 o L:=u.cc ad X;have af:Below b w W:=Y.trans (Ψ X u.lt);unfold Ε;go_wp2_with fail;go_ret2;exact⟨⟨_,rfl⟩,⟨_,_,Z.below ξ⟩,af.alloc (Nat.le_of_lt Z.lt) _⟩
     |ok N t2=>
      have aA:=ok_ hr;have hR:c0_ s t= .ok (.one N) t2:=by unfold c0_;rw[if_pos h1,hr]
      rw[hR];clear hR;go_enter func188,ntmps188;have F:=a9_ D h0 E.par;go_wp2_with fail;refine F.mono ?_;clear F;rintro e B ⟨rfl,G,q⟩;have C:τ B b s t o L:=E.cc G q;have ab:Below b w B:=aj.trans (Ψ q E.lt);clear G q;have z:=c1_ D h1 C.par;go_wp2_with fail;refine z.mono ?_;clear z;rintro e H ⟨rfl,ac,V⟩;have u:τ H b s t.go o L:=C.cc ac V;have Y:Below b w H:=ab.trans (Ψ V C.lt);clear ac V;have aa:=ot_ b s t.go o H D z_ u.par;rw[hr]at aa;clear hr;go_wp2_with fail;refine aa.mono ?_;clear aa;rintro e W ⟨⟨rfl,ad⟩,X⟩;have Z:τ W b s t2 o L:=u.cc ad X;have af:Below b w W:=Y.trans (Ψ X u.lt);clear ad X;unfold Ε;obtain⟨h,g,-,-,-⟩:=ν W (Ε N) 128;have i:Bl W h.drew:=by rw[g];exact ξ.drew
      have l:=aw_ g;obtain⟨J,K,O,P,Q,R,S,T⟩:=bz_ (co_ l);have m:=ez_ b s t2 o L N h.drew (Z.below i) o_;have U:Below b w h.drew:=af.trans (i.mono (Nat.le_of_lt Z.lt));unfold Ε at m g;have ag:W.heap.size<h.heap.size:=κ l;have ah:b<W.heap.size:=Z.lt;clear l i;go_wp2_with fail;rw[<-g];clear g;go_region_with (go_at_call 192;refine m.mono ?_;intro e w9 y;obtain⟨ai,rfl,r⟩:=ce_.single (t:=t) U y (by simp only[go_a]at*;omega) (by simp only[go_a]at*;omega);have I:Hid _:=r;clear r y);go_wp2_with fail;go_ret2;exact I.out
   cases h2:ς s t.a 46
   rotate_left 1
   . have l2:=dl_ h2;have hR:c0_ s t= .ok (.one (fun _=>true)) t.go:=by unfold c0_;rw[if_neg (by rw[h1];exact Bool.false_ne_true),if_pos h2]
     rw[hR];clear hR;go_enter func188,ntmps188;have F:=a9_ D h0 E.par;go_wp2_with fail;refine F.mono ?_;clear F;rintro e B ⟨rfl,G,q⟩;have C:τ B b s t o L:=E.cc G q;have ab:Below b w B:=aj.trans (Ψ q E.lt);clear G q;have z:=a9_ D h1 C.par;go_wp2_with fail;refine z.mono ?_;clear z;rintro e H ⟨rfl,ac,V⟩;have u:τ H b s t o L:=C.cc ac V;have Y:Below b w H:=ab.trans (Ψ V C.lt);clear ac V;have aa:=c1_ D h2 u.par;go_wp2_with fail;refine aa.mono ?_;clear aa;rintro e W ⟨rfl,ad,X⟩;have Z:τ W b s t.go o L:=u.cc ad X;have af:Below b w W:=Y.trans (Ψ X u.lt);clear ad X;obtain⟨W6,av,B6,-,k6⟩:=ν W (Ε (fun _=>false)) 128;obtain⟨J,K,O,P,Q,R,S,T⟩:=bz_ (f:=fun _=>false) (co_ k6);have HO:=q1_ (fun _=>false) W6;simp only[Bool.not_false]at HO;have aB:=Z.below B6;have aC:Below b w W6:=af.trans (B6.mono (Nat.le_of_lt Z.lt));simp only[show Ε (fun _=>false)= #[.bool false,.bool false,.bool false,.bool false,.bool false,.bool false,.bool false,.bool false]from rfl]at av HO;clear k6;go_upto_region 13 with fail;rw[<-av];clear av;go_wp2_with fail;refine HO.mono ?_;clear HO;rintro e w7 ⟨rfl,au⟩;have ay:=aB.below au;have aD:Below b w w7:=aC.trans (au.mono (Nat.le_of_lt aB.lt));clear J K O P Q R S T au;obtain⟨h,g,-,-,-⟩:=ν w7 (Ε (fun _=>true)) 128;have i:Bl w7 h.drew:=by rw[g];exact ξ.drew
     have l:=aw_ g;obtain⟨J,K,O,P,Q,R,S,T⟩:=bz_ (co_ l);have m:=ez_ b s t.go o L (fun _=>true) h.drew (ay.below i) o_;have U:Below b w h.drew:=aD.trans (i.mono (Nat.le_of_lt ay.lt));unfold Ε at m g;have ag:w7.heap.size<h.heap.size:=κ l;have ah:b<w7.heap.size:=ay.lt;clear l i;simp only[show Ε (fun _=>true)= #[.bool true,.bool true,.bool true,.bool true,.bool true,.bool true,.bool true,.bool true]from rfl];go_wp2_with fail;rw[<-g];clear g;go_region_with (go_at_call 192;refine m.mono ?_;intro e w9 y;obtain⟨ai,rfl,r⟩:=ce_.single (t:=t) U y (by simp only[go_a]at*;omega) (by simp only[go_a]at*;omega);have I:Hid _:=r;clear r y);go_wp2_with fail;go_ret2;exact I.out
   cases h3:c7_ s t.a
   . skip;have hR:c0_ s t= .no t:=by unfold c0_;rw[if_neg (by rw[h1];exact Bool.false_ne_true),if_neg (by rw[h2];exact Bool.false_ne_true),if_neg (by rw[h3];exact Bool.false_ne_true)]
     rw[hR];clear hR;go_enter func188,ntmps188;have F:=a9_ D h0 E.par;go_wp2_with fail;refine F.mono ?_;clear F;rintro e B ⟨rfl,G,q⟩;have C:τ B b s t o L:=E.cc G q;have ab:Below b w B:=aj.trans (Ψ q E.lt);clear G q;have z:=a9_ D h1 C.par;go_wp2_with fail;refine z.mono ?_;clear z;rintro e H ⟨rfl,ac,V⟩;have u:τ H b s t o L:=C.cc ac V;have Y:Below b w H:=ab.trans (Ψ V C.lt);clear ac V;have aa:=a9_ D h2 u.par;go_wp2_with fail;refine aa.mono ?_;clear aa;rintro e W ⟨rfl,ad,X⟩;have Z:τ W b s t o L:=u.cc ad X;have af:Below b w W:=Y.trans (Ψ X u.lt);clear ad X;have am:=os_ D h3 Z.par;go_wp2_with fail;refine am.mono ?_;clear am;rintro e n ⟨rfl,ao,ak⟩;have A:τ n b s t o L:=Z.cc ao ak;have ae:Below b w n:=af.trans (Ψ ak Z.lt);clear ao ak;go_wp2_with fail;go_ret2;exact⟨⟨_,rfl⟩,⟨_,_,A⟩,ae⟩
   . have l3:=in_ h3;have n3:=(jz_ h3).1;obtain⟨c,ar⟩:=δ (θ s t.a - 97);rw[ar.out]at n3;have hR:c0_ s t= .ok (.one (fun x=>decide (x=c))) t.go:=by unfold c0_;rw[if_neg (by rw[h1];exact Bool.false_ne_true),if_neg (by rw[h2];exact Bool.false_ne_true),if_pos h3,ar.out]
     rw[hR];clear hR;go_enter func188,ntmps188;have F:=a9_ D h0 E.par;go_wp2_with fail;refine F.mono ?_;clear F;rintro e B ⟨rfl,G,q⟩;have C:τ B b s t o L:=E.cc G q;have ab:Below b w B:=aj.trans (Ψ q E.lt);clear G q;have z:=a9_ D h1 C.par;go_wp2_with fail;refine z.mono ?_;clear z;rintro e H ⟨rfl,ac,V⟩;have u:τ H b s t o L:=C.cc ac V;have Y:Below b w H:=ab.trans (Ψ V C.lt);clear ac V;have aa:=a9_ D h2 u.par;go_wp2_with fail;refine aa.mono ?_;clear aa;rintro e W ⟨rfl,ad,X⟩;have Z:τ W b s t o L:=u.cc ad X;have af:Below b w W:=Y.trans (Ψ X u.lt);clear ad X;have am:=or_ D h3 Z.par;rw[ar.out]at am;go_wp2_with fail;refine am.mono ?_;clear am;rintro e n ⟨rfl,ao,ak⟩;have A:τ n b s t.go o L:=Z.cc ao ak;have ae:Below b w n:=af.trans (Ψ ak Z.lt);clear ao ak;have aE:c=0\/c=1\/c=2\/c=3\/c=4\/c=5\/c=6\/c=7:=o_;clear ar n3;rcases aE with rfl|rfl|rfl|rfl|rfl|rfl|rfl|rfl
     . obtain⟨h,g⟩:=af_ (n.alloc (.cells (Ε (fun x=>decide (x=0))) 128));have i:Bl n h.drew:=by rw[g];exact ξ.drew
       have l:=aw_ g;obtain⟨J,K,O,P,Q,R,S,T⟩:=bz_ (co_ l);have m:=ez_ b s t.go o L (fun x=>decide (x=0)) h.drew (A.below i) o_;have U:Below b w h.drew:=ae.trans (i.mono (Nat.le_of_lt A.lt));unfold Ε at m g;have ag:n.heap.size<h.heap.size:=κ l;have ah:b<n.heap.size:=A.lt;clear l i;simp at J K O P Q R S T;simp at m g;go_wp2_with fail;rw[<-g];clear g;go_region_with (go_at_call 192;refine m.mono ?_;intro e w9 y;obtain⟨ai,rfl,r⟩:=ce_.single (t:=t) U y (by simp only[go_a]at*;omega) (by simp only[go_a]at*;omega);have I:Hid _:=r;clear r y);go_wp2_with fail;go_ret2;exact I.out
     . obtain⟨h,g⟩:=af_ (n.alloc (.cells (Ε (fun x=>decide (x=1))) 128));have i:Bl n h.drew:=by rw[g];exact ξ.drew
       have l:=aw_ g;obtain⟨J,K,O,P,Q,R,S,T⟩:=bz_ (co_ l);have m:=ez_ b s t.go o L (fun x=>decide (x=1)) h.drew (A.below i) o_;have U:Below b w h.drew:=ae.trans (i.mono (Nat.le_of_lt A.lt));unfold Ε at m g;have ag:n.heap.size<h.heap.size:=κ l;have ah:b<n.heap.size:=A.lt;clear l i;simp at J K O P Q R S T;simp at m g;go_wp2_with fail;rw[<-g];clear g;go_region_with (go_at_call 192;refine m.mono ?_;intro e w9 y;obtain⟨ai,rfl,r⟩:=ce_.single (t:=t) U y (by simp only[go_a]at*;omega) (by simp only[go_a]at*;omega);have I:Hid _:=r;clear r y);go_wp2_with fail;go_ret2;exact I.out
     . obtain⟨h,g⟩:=af_ (n.alloc (.cells (Ε (fun x=>decide (x=2))) 128));have i:Bl n h.drew:=by rw[g];exact ξ.drew
       have l:=aw_ g;obtain⟨J,K,O,P,Q,R,S,T⟩:=bz_ (co_ l);have m:=ez_ b s t.go o L (fun x=>decide (x=2)) h.drew (A.below i) o_;have U:Below b w h.drew:=ae.trans (i.mono (Nat.le_of_lt A.lt));unfold Ε at m g;have ag:n.heap.size<h.heap.size:=κ l;have ah:b<n.heap.size:=A.lt;clear l i;simp at J K O P Q R S T;simp at m g;go_wp2_with fail;rw[<-g];clear g;go_region_with (go_at_call 192;refine m.mono ?_;intro e w9 y;obtain⟨ai,rfl,r⟩:=ce_.single (t:=t) U y (by simp only[go_a]at*;omega) (by simp only[go_a]at*;omega);have I:Hid _:=r;clear r y);go_wp2_with fail;go_ret2;exact I.out
     . obtain⟨h,g⟩:=af_ (n.alloc (.cells (Ε (fun x=>decide (x=3))) 128));have i:Bl n h.drew:=by rw[g];exact ξ.drew
       have l:=aw_ g;obtain⟨J,K,O,P,Q,R,S,T⟩:=bz_ (co_ l);have m:=ez_ b s t.go o L (fun x=>decide (x=3)) h.drew (A.below i) o_;have U:Below b w h.drew:=ae.trans (i.mono (Nat.le_of_lt A.lt));unfold Ε at m g;have ag:n.heap.size<h.heap.size:=κ l;have ah:b<n.heap.size:=A.lt;clear l i;simp at J K O P Q R S T;simp at m g;go_wp2_with fail;rw[<-g];clear g;go_region_with (go_at_call 192;refine m.mono ?_;intro e w9 y;obtain⟨ai,rfl,r⟩:=ce_.single (t:=t) U y (by simp only[go_a]at*;omega) (by simp only[go_a]at*;omega);have I:Hid _:=r;clear r y);go_wp2_with fail;go_ret2;exact I.out
     . obtain⟨h,g⟩:=af_ (n.alloc (.cells (Ε (fun x=>decide (x=4))) 128));have i:Bl n h.drew:=by rw[g];exact ξ.drew
       have l:=aw_ g;obtain⟨J,K,O,P,Q,R,S,T⟩:=bz_ (co_ l);have m:=ez_ b s t.go o L (fun x=>decide (x=4)) h.drew (A.below i) o_;have U:Below b w h.drew:=ae.trans (i.mono (Nat.le_of_lt A.lt));unfold Ε at m g;have ag:n.heap.size<h.heap.size:=κ l;have ah:b<n.heap.size:=A.lt;clear l i;simp at J K O P Q R S T;simp at m g;go_wp2_with fail;rw[<-g];clear g;go_region_with (go_at_call 192;refine m.mono ?_;intro e w9 y;obtain⟨ai,rfl,r⟩:=ce_.single (t:=t) U y (by simp only[go_a]at*;omega) (by simp only[go_a]at*;omega);have I:Hid _:=r;clear r y);go_wp2_with fail;go_ret2;exact I.out
     . obtain⟨h,g⟩:=af_ (n.alloc (.cells (Ε (fun x=>decide (x=5))) 128));have i:Bl n h.drew:=by rw[g];exact ξ.drew
       have l:=aw_ g;obtain⟨J,K,O,P,Q,R,S,T⟩:=bz_ (co_ l);have m:=ez_ b s t.go o L (fun x=>decide (x=5)) h.drew (A.below i) o_;have U:Below b w h.drew:=ae.trans (i.mono (Nat.le_of_lt A.lt));unfold Ε at m g;have ag:n.heap.size<h.heap.size:=κ l;have ah:b<n.heap.size:=A.lt;clear l i;simp at J K O P Q R S T;simp at m g;go_wp2_with fail;rw[<-g];clear g;go_region_with (go_at_call 192;refine m.mono ?_;intro e w9 y;obtain⟨ai,rfl,r⟩:=ce_.single (t:=t) U y (by simp only[go_a]at*;omega) (by simp only[go_a]at*;omega);have I:Hid _:=r;clear r y);go_wp2_with fail;go_ret2;exact I.out
     . obtain⟨h,g⟩:=af_ (n.alloc (.cells (Ε (fun x=>decide (x=6))) 128));have i:Bl n h.drew:=by rw[g];exact ξ.drew
       have l:=aw_ g;obtain⟨J,K,O,P,Q,R,S,T⟩:=bz_ (co_ l);have m:=ez_ b s t.go o L (fun x=>decide (x=6)) h.drew (A.below i) o_;have U:Below b w h.drew:=ae.trans (i.mono (Nat.le_of_lt A.lt));unfold Ε at m g;have ag:n.heap.size<h.heap.size:=κ l;have ah:b<n.heap.size:=A.lt;clear l i;simp at J K O P Q R S T;simp at m g;go_wp2_with fail;rw[<-g];clear g;go_region_with (go_at_call 192;refine m.mono ?_;intro e w9 y;obtain⟨ai,rfl,r⟩:=ce_.single (t:=t) U y (by simp only[go_a]at*;omega) (by simp only[go_a]at*;omega);have I:Hid _:=r;clear r y);go_wp2_with fail;go_ret2;exact I.out
     . obtain⟨h,g⟩:=af_ (n.alloc (.cells (Ε (fun x=>decide (x=7))) 128));have i:Bl n h.drew:=by rw[g];exact ξ.drew
       have l:=aw_ g;obtain⟨J,K,O,P,Q,R,S,T⟩:=bz_ (co_ l);have m:=ez_ b s t.go o L (fun x=>decide (x=7)) h.drew (A.below i) o_;have U:Below b w h.drew:=ae.trans (i.mono (Nat.le_of_lt A.lt));unfold Ε at m g;have ag:n.heap.size<h.heap.size:=κ l;have ah:b<n.heap.size:=A.lt;clear l i;simp at J K O P Q R S T;simp at m g;go_wp2_with fail;rw[<-g];clear g;go_region_with (go_at_call 192;refine m.mono ?_;intro e w9 y;obtain⟨ai,rfl,r⟩:=ce_.single (t:=t) U y (by simp only[go_a]at*;omega) (by simp only[go_a]at*;omega);have I:Hid _:=r;clear r y);go_wp2_with fail;go_ret2;exact I.out
 . have l0:=dl_ h0;simp only[if_true];cases hr:ec_ s (bh_ s k) t.go with
   |no t2=>
    go_enter func188,ntmps188;have F:=c1_ D h0 E.par;go_wp2_with fail;refine F.mono ?_;clear F;rintro e B ⟨rfl,G,q⟩;have C:τ B b s t.go o L:=E.cc G q;have ab:Below b w B:=aj.trans (Ψ q E.lt);clear G q;have z:=HP b s t.go o L B (d+1) (by have:=HD.out;omega) D z_ z_ C;rw[hr]at z;clear hr;go_wp2_with fail;refine z.mono ?_;clear z;rintro e H ⟨⟨v,rfl⟩,⟨aq,L2,u⟩,Y⟩;go_wp2_with fail;go_ret2;exact⟨⟨_,rfl⟩,⟨_,_,u⟩,ab.trans Y⟩
   |ok p t2=>
    have aA:=qy_ (ib_ k) z_ hr;simp only[go_a]at aA;cases h9:ς s t2.a 41
    . simp only[h9,ft_,if_false];go_enter func188,ntmps188;have F:=c1_ D h0 E.par;go_wp2_with fail;refine F.mono ?_;clear F;rintro e B ⟨rfl,G,q⟩;have C:τ B b s t.go o L:=E.cc G q;have ab:Below b w B:=aj.trans (Ψ q E.lt);clear G q;have z:=HP b s t.go o L B (d+1) (by have:=HD.out;omega) D z_ z_ C;rw[hr]at z;clear hr;go_wp2_with fail;refine z.mono ?_;clear z;rintro e H ⟨j,aq,M,rfl,u,hN,aF,Y⟩;have ax:Below b w H:=ab.trans Y;clear Y;have an:=a9_ D h9 u.par;go_wp2_with fail;refine an.mono ?_;clear an;rintro e w9 ⟨rfl,ap,al⟩;have az:τ w9 b s t2 aq (L++M):=u.cc ap al;have aw:Below b w w9:=ax.trans (Ψ al u.lt);clear ap al;go_wp2_with fail;go_ret2;exact⟨⟨_,rfl⟩,⟨_,_,az⟩,aw⟩
    . simp only[h9,if_true];have l9:=dl_ h9;go_enter func188,ntmps188;have F:=c1_ D h0 E.par;go_wp2_with fail;refine F.mono ?_;clear F;rintro e B ⟨rfl,G,q⟩;have C:τ B b s t.go o L:=E.cc G q;have ab:Below b w B:=aj.trans (Ψ q E.lt);clear G q;have z:=HP b s t.go o L B (d+1) (by have:=HD.out;omega) D z_ z_ C;rw[hr]at z;clear hr;go_wp2_with fail;refine z.mono ?_;clear z;rintro e H ⟨j,aq,M,rfl,u,hN,aF,Y⟩;have ax:Below b w H:=ab.trans Y;clear Y;have an:=c1_ D h9 u.par;go_wp2_with fail;refine an.mono ?_;clear an;rintro e w9 ⟨rfl,ap,al⟩;have az:τ w9 b s t2.go aq (L++M):=u.cc ap al;have aw:Below b w w9:=ax.trans (Ψ al u.lt);clear ap al;go_wp2_with fail;go_ret2;exact⟨j,aq,M,rfl,az,hN,by simp only[go_a]at*;omega,aw⟩
def xw_ (k:Nat):Prop:=∀(bp:Nat) (s:ByteArray) (t:Sp) (vn:Value) (L:List Nd) (w:World) (d:Int),d=6 - (k:Int)->s.size<=40->t.a<=s.size->L.length+4*(s.size - t.a)<=900->τ w bp s t vn L->
 Calls prog 184 #[.pointer (some ⟨bp,0,none⟩),.int .i64 d] w (ce_ bp s L (4*(s.size - t.a)- 1) (fy_ s (bh_ s k) t) w)
theorem l7_ {k a x:Nat}(hk:k<=6)(hs:s.size<=40)(hb:b<=s.size)(h:x<=(b - a)*10^k):x<=40000000:=by
 have c:10^k<=10^6:=Nat.pow_le_pow_right o_ hk;have d:(b - a)*10^k<=40*10^6:=Nat.mul_le_mul o_ c;omega
theorem ce_.rep {t t1 t':Sp}{L M:List Nd}{lo co:Nat}{en:Bool}{p:ζ}{d1:Nd}(hb:Below bp w w1)(hN:b3_ (L++M) i p)(hd:(L++M)[i]? =some d1)(hsz:d1.size=p.size)(hlen:M.length+4*(s.size - t1.a)<=4*(s.size - t.a)- 2)(ha:kv_ bp s t' (L++M) ⟨4,d1.size*co,fun _=>false,lo,co,en,i,0⟩ w1 e w2)(h0:t.a<s.size)(h1:t1.a<t'.a)(h2:t'.a<=s.size):
 ∃j:Nat,e= .returned (.int .i64 (j:Int))/\ce_ bp s L (4*(s.size - t.a)- 1) (.ok (.rep p lo co en) t') w (.returned (.tuple #[.int .i64 (j:Int),.bool true])) w2:=by
 obtain⟨rfl,f,c,b⟩:=ha;refine⟨(L++M).length,rfl,(L++M).length,f,M++ [⟨4,d1.size*co,fun _=>false,lo,co,en,i,0⟩],rfl,by rw[<-ac_];exact c, ?_,s_,hb.trans b⟩;rw[<-ac_];exact .rep (d:=⟨4,d1.size*co,fun _=>false,lo,co,en,i,0⟩) i_ rfl (by rw[hsz]) rfl rfl rfl rfl (hN.app _)
theorem xx_ (k:Nat)(hk:k<=6)(HAT:pw_ k):xw_ k:=by
 intro b s t vn L w d hd f ar hM aq;have B:=HAT b s t vn L w d hd f ar hM aq;clear hd HAT;unfold fy_;cases hr:bh_ s k t with
 |no t1=>
  rw[hr]at B;simp only;clear hr;go_enter func184,ntmps184;go_wp2_with fail;refine B.mono ?_;clear B;rintro e w1 ⟨⟨v,rfl⟩,⟨c,L1,g⟩,H⟩;go_wp2_with fail;go_ret2;exact⟨⟨_,rfl⟩,⟨_,_,g⟩,H⟩
 |ok p t1=>
  rw[hr]at B;have N:=ib_ k _ _ _ hr;clear hr;simp only;cases h1:ς s t1.a 42
  rotate_left 1
  . have l1:=dl_ h1;simp only[ft_,if_false,if_true];go_enter func184,ntmps184;go_wp2_with fail;refine B.mono ?_;clear B;rintro e w1 ⟨i,c,M,rfl,g,h,W,H⟩;obtain⟨d1,y,l⟩:=h.node;have V:d1.size<=1000000000:=by rw[l];have:=l7_ hk f N.2.1 N.2.2;omega
    have S:=α h;have G:=α y;have T:=α l;have X:(L++M).length<=1000:=by rw[Μ];omega
    clear h y l;have u:=c1_ f h1 g.par;go_wp2_with fail;refine u.mono ?_;clear u;rintro e r ⟨rfl,A,m⟩;have n:τ r b s t1.go c (L++M):=g.cc A m;have O:Below b w r:=H.trans (Ψ m g.lt);clear A m;have q:=oq_ b s t1.go c (L++M) i 0 1 true d1 r n X G.out V o_;simp only[show((0:Nat):Int)=0 from rfl,show((1:Nat):Int)=1 from rfl,show((2:Nat):Int)=2 from rfl]at q;go_wp2_with fail;refine q.mono ?_;clear q;intro e C aj;obtain⟨j,rfl,Z⟩:=ce_.rep (t:=t) O S.out G.out T.out W aj o_ z_ z_;have HF:Hid _:=Z;clear Z aj;go_wp2_with fail;go_ret2;exact HF.out
  cases h2:ς s t1.a 43
  rotate_left 1
  . have l1:=dl_ h2;simp only[ft_,if_false,if_true];go_enter func184,ntmps184;go_wp2_with fail;refine B.mono ?_;clear B;rintro e w1 ⟨i,c,M,rfl,g,h,W,H⟩;obtain⟨d1,y,l⟩:=h.node;have V:d1.size<=1000000000:=by rw[l];have:=l7_ hk f N.2.1 N.2.2;omega
    have S:=α h;have G:=α y;have T:=α l;have X:(L++M).length<=1000:=by rw[Μ];omega
    clear h y l;have u:=a9_ f h1 g.par;go_wp2_with fail;refine u.mono ?_;clear u;rintro e r ⟨rfl,A,m⟩;have n:τ r b s t1 c (L++M):=g.cc A m;have O:Below b w r:=H.trans (Ψ m g.lt);clear A m;have q:=c1_ f h2 n.par;go_wp2_with fail;refine q.mono ?_;clear q;rintro e C ⟨rfl,F,o⟩;have z:τ C b s t1.go c (L++M):=n.cc F o;have U:Below b w C:=O.trans (Ψ o n.lt);clear F o;have D:=oq_ b s t1.go c (L++M) i 1 2 true d1 C z X G.out V o_;simp only[show((0:Nat):Int)=0 from rfl,show((1:Nat):Int)=1 from rfl,show((2:Nat):Int)=2 from rfl]at D;go_wp2_with fail;refine D.mono ?_;clear D;intro e J ak;obtain⟨j,rfl,Z⟩:=ce_.rep (t:=t) U S.out G.out T.out W ak o_ z_ z_;have HF:Hid _:=Z;clear Z ak;go_wp2_with fail;go_ret2;exact HF.out
  cases h3:ς s t1.a 63
  rotate_left 1
  . have l1:=dl_ h3;simp only[ft_,if_false,if_true];go_enter func184,ntmps184;go_wp2_with fail;refine B.mono ?_;clear B;rintro e w1 ⟨i,c,M,rfl,g,h,W,H⟩;obtain⟨d1,y,l⟩:=h.node;have V:d1.size<=1000000000:=by rw[l];have:=l7_ hk f N.2.1 N.2.2;omega
    have S:=α h;have G:=α y;have T:=α l;have X:(L++M).length<=1000:=by rw[Μ];omega
    clear h y l;have u:=a9_ f h1 g.par;go_wp2_with fail;refine u.mono ?_;clear u;rintro e r ⟨rfl,A,m⟩;have n:τ r b s t1 c (L++M):=g.cc A m;have O:Below b w r:=H.trans (Ψ m g.lt);clear A m;have q:=a9_ f h2 n.par;go_wp2_with fail;refine q.mono ?_;clear q;rintro e C ⟨rfl,F,o⟩;have z:τ C b s t1 c (L++M):=n.cc F o;have U:Below b w C:=O.trans (Ψ o n.lt);clear F o;have D:=c1_ f h3 z.par;go_wp2_with fail;refine D.mono ?_;clear D;rintro e J ⟨rfl,P,E⟩;have I:τ J b s t1.go c (L++M):=z.cc P E;have ac:Below b w J:=U.trans (Ψ E z.lt);clear P E;have K:=oq_ b s t1.go c (L++M) i 0 1 false d1 J I X G.out V o_;simp only[show((0:Nat):Int)=0 from rfl,show((1:Nat):Int)=1 from rfl,show((2:Nat):Int)=2 from rfl]at K;go_wp2_with fail;refine K.mono ?_;clear K;intro e R al;obtain⟨j,rfl,Z⟩:=ce_.rep (t:=t) ac S.out G.out T.out W al o_ z_ z_;have HF:Hid _:=Z;clear Z al;go_wp2_with fail;go_ret2;exact HF.out
  cases h4:ς s t1.a 123
  . simp only[ft_,if_false];go_enter func184,ntmps184;go_wp2_with fail;refine B.mono ?_;clear B;rintro e w1 ⟨i,c,M,rfl,g,h,W,H⟩;obtain⟨d1,y,l⟩:=h.node;have V:d1.size<=1000000000:=by rw[l];have:=l7_ hk f N.2.1 N.2.2;omega
    have S:=α h;have G:=α y;have T:=α l;have X:(L++M).length<=1000:=by rw[Μ];omega
    clear h y l;have u:=a9_ f h1 g.par;go_wp2_with fail;refine u.mono ?_;clear u;rintro e r ⟨rfl,A,m⟩;have n:τ r b s t1 c (L++M):=g.cc A m;have O:Below b w r:=H.trans (Ψ m g.lt);clear A m;have q:=a9_ f h2 n.par;go_wp2_with fail;refine q.mono ?_;clear q;rintro e C ⟨rfl,F,o⟩;have z:τ C b s t1 c (L++M):=n.cc F o;have U:Below b w C:=O.trans (Ψ o n.lt);clear F o;have D:=a9_ f h3 z.par;go_wp2_with fail;refine D.mono ?_;clear D;rintro e J ⟨rfl,P,E⟩;have I:τ J b s t1 c (L++M):=z.cc P E;have ac:Below b w J:=U.trans (Ψ E z.lt);clear P E;have K:=a9_ f h4 I.par;go_wp2_with fail;refine K.mono ?_;clear K;rintro e R ⟨rfl,aa,Q⟩;have Y:τ R b s t1 c (L++M):=I.cc aa Q;have ad:Below b w R:=ac.trans (Ψ Q I.lt);clear aa Q;go_wp2_with fail;go_ret2;exact⟨i,c,M,rfl,Y,S.out,o_,ad⟩
  have l4:=dl_ h4;simp only[ft_,if_false,if_true];cases hc:cq_ s t1.go with
  |no t2=>
   simp only;go_enter func184,ntmps184;go_wp2_with fail;refine B.mono ?_;clear B;rintro e w1 ⟨i,c,M,rfl,g,h,W,H⟩;obtain⟨d1,y,l⟩:=h.node;have V:d1.size<=1000000000:=by rw[l];have:=l7_ hk f N.2.1 N.2.2;omega
   have S:=α h;have G:=α y;have T:=α l;have X:(L++M).length<=1000:=by rw[Μ];omega
   clear h y l;have u:=a9_ f h1 g.par;go_wp2_with fail;refine u.mono ?_;clear u;rintro e r ⟨rfl,A,m⟩;have n:τ r b s t1 c (L++M):=g.cc A m;have O:Below b w r:=H.trans (Ψ m g.lt);clear A m;have q:=a9_ f h2 n.par;go_wp2_with fail;refine q.mono ?_;clear q;rintro e C ⟨rfl,F,o⟩;have z:τ C b s t1 c (L++M):=n.cc F o;have U:Below b w C:=O.trans (Ψ o n.lt);clear F o;have D:=a9_ f h3 z.par;go_wp2_with fail;refine D.mono ?_;clear D;rintro e J ⟨rfl,P,E⟩;have I:τ J b s t1 c (L++M):=z.cc P E;have ac:Below b w J:=U.trans (Ψ E z.lt);clear P E;have K:=c1_ f h4 I.par;go_wp2_with fail;refine K.mono ?_;clear K;rintro e R ⟨rfl,aa,Q⟩;have Y:τ R b s t1.go c (L++M):=I.cc aa Q;have ad:Below b w R:=ac.trans (Ψ Q I.lt);clear aa Q;have ab:=ut_ b s t1.go c R f z_ Y.par;rw[hc]at ab;clear hc;go_wp2_with fail;refine ab.mono ?_;clear ab;rintro e w6 ⟨⟨⟨x1,x2,x3,rfl⟩,ag⟩,ht6⟩;have ae:τ w6 b s t2 c (L++M):=Y.cc ag ht6;have ah:Below b w w6:=ad.trans (Ψ ht6 Y.lt);go_wp2_with fail;go_ret2;exact⟨⟨_,rfl⟩,⟨_,_,ae.below ξ⟩,ah.alloc (Nat.le_of_lt ae.lt) _⟩
  |ok x t2=>
   obtain⟨lo,co,en⟩:=x;have ap:=qw_ hc;simp only[go_a]at ap;simp only;go_enter func184,ntmps184;go_wp2_with fail;refine B.mono ?_;clear B;rintro e w1 ⟨i,c,M,rfl,g,h,W,H⟩;obtain⟨d1,y,l⟩:=h.node;have V:d1.size<=1000000000:=by rw[l];have:=l7_ hk f N.2.1 N.2.2;omega
   have S:=α h;have G:=α y;have T:=α l;have X:(L++M).length<=1000:=by rw[Μ];omega
   clear h y l;have u:=a9_ f h1 g.par;go_wp2_with fail;refine u.mono ?_;clear u;rintro e r ⟨rfl,A,m⟩;have n:τ r b s t1 c (L++M):=g.cc A m;have O:Below b w r:=H.trans (Ψ m g.lt);clear A m;have q:=a9_ f h2 n.par;go_wp2_with fail;refine q.mono ?_;clear q;rintro e C ⟨rfl,F,o⟩;have z:τ C b s t1 c (L++M):=n.cc F o;have U:Below b w C:=O.trans (Ψ o n.lt);clear F o;have D:=a9_ f h3 z.par;go_wp2_with fail;refine D.mono ?_;clear D;rintro e J ⟨rfl,P,E⟩;have I:τ J b s t1 c (L++M):=z.cc P E;have ac:Below b w J:=U.trans (Ψ E z.lt);clear P E;have K:=c1_ f h4 I.par;go_wp2_with fail;refine K.mono ?_;clear K;rintro e R ⟨rfl,aa,Q⟩;have Y:τ R b s t1.go c (L++M):=I.cc aa Q;have ad:Below b w R:=ac.trans (Ψ Q I.lt);clear aa Q;have ab:=ut_ b s t1.go c R f z_ Y.par;rw[hc]at ab;clear hc;go_wp2_with fail;refine ab.mono ?_;clear ab;rintro e w6 ⟨⟨rfl,ag⟩,ht6⟩;have ae:τ w6 b s t2 c (L++M):=Y.cc ag ht6;have ah:Below b w w6:=ad.trans (Ψ ht6 Y.lt);clear ag ht6;obtain⟨W8,af,-,-,-⟩:=ν w6 #[.int .i64 (lo:Int),.int .i64 (co:Int),.bool en] 130;have B8:Bl w6 W8.drew:=by rw[af];exact ξ.drew
   have k8:=aw_ af;obtain⟨c0,c1,c2,_,_,_⟩:=ay_ k8;have an:=oq_ b s t2 c (L++M) i lo co en d1 W8.drew (ae.below B8) X G.out V o_;have ao:Below b w W8.drew:=ah.trans (B8.mono (Nat.le_of_lt ae.lt));clear k8 B8;go_wp2_with fail;rw[<-af];clear af;go_region_with (go_at_call 189;refine an.mono ?_;intro e w9 am;obtain⟨j,rfl,ai⟩:=ce_.rep (t:=t) ao S.out G.out T.out W am o_ o_ o_;have HF:Hid _:=ai;clear ai am);go_wp2_with fail;go_ret2;exact HF.out
def xy_ (k:Nat):Prop:=∀(bp:Nat) (s:ByteArray) (t:Sp) (vn:Value) (L:List Nd) (w:World) (d:Int),d=6 - (k:Int)->s.size<=40->t.a<=s.size->L.length+4*(s.size - t.a)<=898->τ w bp s t vn L->
 Calls prog 168 #[.pointer (some ⟨bp,0,none⟩),.int .i64 d] w (ce_ bp s L (4*(s.size - t.a)+1) (cr_ s (bh_ s k) (s.size+1) .none t) w)
structure jk_ (R:ψ ζ)(k:Nat)(w:World)(bp:Nat)(s:ByteArray)(L:List Nd)(t:Sp)(wr:World)(wh:Nat)(t1:Sp)(vn1:Value)(M:List Nd)(p:ζ):Prop where
 par:τ wr bp s t1 vn1 (L++M)
 dL:b3_ (L++M) wh p
 rel:∃n,s.size - t1.a<n/\cr_ s (bh_ s k) n p t1=R
 le:t1.a<=s.size
 len:M.length+4*(s.size - t1.a)<=4*(s.size - t.a)+1
 cz:Below bp w wr
 sz:p.size<=t1.a*10000000
section
variable {R:ψ ζ} {k:Nat} {w:World} {bp:Nat} {s:ByteArray} {L:List Nd} {t:Sp} {wr:World} {wh:Nat} {t1:Sp} {vn1:Value} {M:List Nd} {p:ζ}
theorem jk_.stop (h:jk_ R k w bp s L t wr wh t1 vn1 M p)(he:ea_ s t1.a=true):R= .ok p t1:=by
 obtain⟨n,c,b⟩:=h.rel;obtain⟨n,rfl⟩:∃m,n=m+1:=⟨n - 1,o_⟩;simp only[cr_,he,if_true]at b;exact b.symm
theorem jk_.fail (h:jk_ R k w bp s L t wr wh t1 vn1 M p)(he:ea_ s t1.a=false){t2:Sp}(hi:fy_ s (bh_ s k) t1= .no t2):R= .no t2:=by
 obtain⟨n,c,b⟩:=h.rel;obtain⟨n,rfl⟩:∃m,n=m+1:=⟨n - 1,o_⟩;simp only[cr_,he,ft_,if_false,hi]at b;exact b.symm
theorem xz_ {q:ζ}{t2:Sp}(hk:k<=6)(hi:fy_ s (bh_ s k) t1= .ok q t2):t1.a<t2.a/\t2.a<=s.size/\q.size<=(t2.a - t1.a)*10000000:=by
 obtain⟨b,c,d⟩:=ol_ (ib_ k) _ _ _ hi;refine⟨b,c,Nat.le_trans d (mul_le_mul_left _ ?_)⟩;have:10^k<=10^6:=Nat.pow_le_pow_right o_ hk;omega
theorem jk_.next (h:jk_ R k w bp s L t wr wh t1 vn1 M p)(hk:k<=6)(he:ea_ s t1.a=false){q:ζ}{t2:Sp}(hi:fy_ s (bh_ s k) t1= .ok q t2){M':List Nd}{d1 d2:Nd}(hb:Below bp w w2)
 (hN':b3_ (L++M++M') i q) (hlen:M'.length+4*(s.size - t2.a)<=4*(s.size - t1.a)- 1) (hd1:d1.size=p.size) (hd2:d2.size=q.size) (ha:kv_ bp s t2 (L++M++M') ⟨2,d1.size+d2.size,fun _=>false,0,0,false,wh,i⟩ w2 e w3):
 ∃(j:Nat) (vn3:Value) (M2:List Nd),e= .returned (.int .i64 (j:Int))/\jk_ R k w bp s L t w3 j t2 vn3 M2 (.chain p q):=by
 obtain⟨rfl,vn3,o,l⟩:=ha;obtain⟨n,x,f⟩:=h.rel;obtain⟨n,rfl⟩:∃m,n=m+1:=⟨n - 1,o_⟩;simp only[cr_,he,ft_,if_false,hi]at f;obtain⟨r,g,u⟩:=xz_ hk hi;have y:=h.sz;have v:=h.len;refine⟨(L++M++M').length,vn3,M++M'++ [⟨2,d1.size+d2.size,fun _=>false,0,0,false,wh,i⟩],rfl,⟨?_, ?_,⟨n,o_,f⟩,g,by simp only[Μ,ls_];omega,hb.trans l, ?_⟩⟩
 . rw[<-ac_,<-ac_];exact o
 . rw[<-ac_,<-ac_];exact .chain (d:=⟨2,d1.size+d2.size,fun _=>false,0,0,false,wh,i⟩) i_ rfl (by simp only[hd1,hd2]) rfl rfl ((h.dL.app M').app _) (hN'.app _)
 . simp only[ζ.size];have:=m0_ (a:=0) (b:=t1.a) (c:=t2.a) o_ o_ 10000000;simp only[Nat.sub_zero]at this;omega
end
theorem x0_ (k:Nat)(hk:k<=6)(HIT:xw_ k):xy_ k:=by
 intro f s t vn L w d N V ag hM S;have G:=fun t1 g L1 E=>HIT f s t1 g L1 E d N V
 clear N HIT;obtain⟨R,y⟩:=δ (cr_ s (bh_ s k) (s.size+1) .none t);rw[y.out];have c:=om_ f s t vn L ⟨0,0,fun _=>false,0,0,false,0,0⟩ w S o_;unfold Α at c;simp only[show((0:Nat):Int)=0 from rfl]at c;go_enter func168,ntmps168;go_wp2_with fail;refine c.mono ?_;clear c;rintro e E ⟨rfl,g,T,K⟩;have I:jk_ R k w f s L t E L.length t g [⟨0,0,fun _=>false,0,0,false,0,0⟩] .none:=
  ⟨T,.none (d:=⟨0,0,fun _=>false,0,0,false,0,0⟩) i_ rfl rfl,⟨s.size+1,o_,y.out⟩,ag,s_,K,by simp[ζ.size]⟩
 clear T K y S;go_wp2_with fail;go_loopw [6,7,8] (fun wh' _ _ wr=>∃(r:Nat) (t1:Sp) (g:Value) (M:List Nd) (p:ζ),wh'= .int .i64 (r:Int)/\jk_ R k w f s L t wr r t1 g M p) (fun _ _ _ wr=>100 - atOf wr f)
 case atStart=>exact⟨_,_,_,_,_,rfl,I⟩
 case round=>
  clear I g;obtain⟨r,t1,g,M,p,rfl,b⟩:=hrel;have X:=α b.par.par.atOf;have Q:=b.le;have ae:=b.len;have l:=acj_ f s t1.a g t1.bk (t1.sp:Int) wr V b.par.par;cases he:ea_ s t1.a
  . rw[he]at l;cases hi:fy_ s (bh_ s k) t1 with
    |no t2=>
     have B:=b.fail he hi;subst B;go_wp2_with fail;refine l.mono ?_;clear l;rintro e j ⟨rfl,m,h⟩;have n:τ j f s t1 g (L++M):=b.par.cc m h;have o:Below f w j:=b.cz.trans (Ψ h b.par.lt);clear m h;have c:=G t1 g (L++M) j Q (by rw[Μ];omega) n;rw[hi]at c;clear hi b;go_wp2_with fail;refine c.mono ?_;clear c;rintro e F ⟨⟨v,rfl⟩,⟨W,L3,x⟩,u⟩;go_wp2_with fail;go_ret2;exact⟨⟨_,rfl⟩,⟨_,_,x⟩,o.trans u⟩
    |ok q t2=>
     obtain⟨g1,g2,g3⟩:=xz_ hk hi;have Y:=α hi;have z:=α b;go_wp2_with fail;refine l.mono ?_;clear l;rintro e j ⟨rfl,m,h⟩;have n:τ j f s t1 g (L++M):=b.par.cc m h;have o:Below f w j:=b.cz.trans (Ψ h b.par.lt);clear m h;have c:=G t1 g (L++M) j Q (by rw[Μ];omega) n;rw[hi]at c;clear hi b;go_wp2_with fail;refine c.mono ?_;clear c;rintro e F ⟨i,W,H,rfl,x,A,af,u⟩;have ad:Below f w F:=o.trans u;obtain⟨d1,O,C⟩:=(z.out.dL.app H).node;obtain⟨d2,P,D⟩:=A.node;have ai:=z.out.sz;have c:=up_ f s t2 W (L++M++H) 2 r i d1 d2 F x (by simp only[Μ];omega) O P (by rw[C];omega) (by rw[D];omega);simp only[show((2:Nat):Int)=2 from rfl]at c;have ab:=α C;have ac:=α D;have aa:=α A;clear O P C D u A n x;go_wp2_with fail;refine c.mono ?_;clear c;intro e w4 U;obtain⟨j4,aj,M4,rfl,J⟩:=z.out.next hk he Y.out ad aa.out af ab.out ac.out U;have ah:=J.par.par.atOf;clear U;go_wp2_with fail;go_roundw
     case rel=>exact⟨_,_,_,_,_,rfl,J⟩
     case measure=>
      have:=X.out;omega
  . rw[he]at l;have B:=b.stop he;subst B;go_wp2_with fail;refine l.mono ?_;clear l;rintro e j ⟨rfl,m,h⟩;have n:τ j f s t1 g (L++M):=b.par.cc m h;have o:Below f w j:=b.cz.trans (Ψ h b.par.lt);clear m h;have Z:=α b.dL;clear b;go_wp2_with fail;go_ret2;exact⟨r,g,M,rfl,n,Z.out,ae,o⟩
structure jl_ (R:ψ ζ)(k:Nat)(w:World)(bp:Nat)(s:ByteArray)(L:List Nd)(t:Sp)(wr:World)(wh:Nat)(t1:Sp)(vn1:Value)(M:List Nd)(p:ζ):Prop where
 par:τ wr bp s t1 vn1 (L++M)
 dL:b3_ (L++M) wh p
 rel:∃n,s.size - t1.a<n/\gw_ s (bh_ s k) n p t1=R
 le:t1.a<=s.size
 len:M.length+4*(s.size - t1.a)<=4*(s.size - t.a)+1
 cz:Below bp w wr
 sz:p.size<=t1.a*10000000
structure x1_ (R:ψ ζ)(w:World)(bp:Nat)(s:ByteArray)(wr:World):Prop where
 no:∃t1 vn1 L1,R= .no t1/\τ wr bp s t1 vn1 L1
 cz:Below bp w wr
def x2_ (R:ψ ζ)(k:Nat)(w:World)(bp:Nat)(s:ByteArray)(L:List Nd)(t:Sp)(wr:World)(v:Int)(g:Bool):Prop:=
 (g=true/\∃(wh:Nat) (t1:Sp) (vn1:Value) (M:List Nd) (p:ζ),v=(wh:Int)/\jl_ R k w bp s L t wr wh t1 vn1 M p)\/(g=false/\x1_ R w bp s wr)
section
variable {R:ψ ζ} {k:Nat} {w:World} {bp:Nat} {s:ByteArray} {L:List Nd} {t:Sp} {wr:World} {wh:Nat} {t1:Sp} {vn1:Value} {M:List Nd} {p:ζ}
theorem jl_.stop (h:jl_ R k w bp s L t wr wh t1 vn1 M p)(he:ς s t1.a 124=false):R= .ok p t1:=by
 obtain⟨n,c,b⟩:=h.rel;obtain⟨n,rfl⟩:∃m,n=m+1:=⟨n - 1,o_⟩;simp only[gw_,he,ft_,if_false]at b;exact b.symm
theorem jl_.fail (h:jl_ R k w bp s L t wr wh t1 vn1 M p)(he:ς s t1.a 124=true){t2:Sp}(hi:cr_ s (bh_ s k) (s.size+1) .none t1.go= .no t2):R= .no t2:=by
 obtain⟨n,c,b⟩:=h.rel;obtain⟨n,rfl⟩:∃m,n=m+1:=⟨n - 1,o_⟩;simp only[gw_,he,if_true,hi]at b;exact b.symm
theorem r7_ {q:ζ}{t2:Sp}(hk:k<=6)(hz:t1.a<=s.size)(hi:cr_ s (bh_ s k) (s.size+1) .none t1= .ok q t2):t1.a<=t2.a/\t2.a<=s.size/\q.size<=(t2.a - t1.a)*10000000:=by
 obtain⟨b,c,d⟩:=ku_ (ib_ k) hz hi;refine⟨b,c,Nat.le_trans d ?_⟩;simp only[ζ.size,Nat.zero_add];refine mul_le_mul_left _ ?_;have:10^k<=10^6:=Nat.pow_le_pow_right o_ hk;omega
theorem jl_.next (h:jl_ R k w bp s L t wr wh t1 vn1 M p)(hk:k<=6)(he:ς s t1.a 124=true){q:ζ}{t2:Sp}(hi:cr_ s (bh_ s k) (s.size+1) .none t1.go= .ok q t2){M':List Nd}{d1 d2:Nd}(hb:Below bp w w2)
 (hN':b3_ (L++M++M') i q) (hlen:M'.length+4*(s.size - t2.a)<=4*(s.size - t1.go.a)+1) (hd1:d1.size=p.size) (hd2:d2.size=q.size) (ha:kv_ bp s t2 (L++M++M') ⟨3,d1.size+d2.size,fun _=>false,0,0,false,wh,i⟩ w2 e w3):
 ∃(j:Nat) (vn3:Value) (M2:List Nd),e= .returned (.int .i64 (j:Int))/\jl_ R k w bp s L t w3 j t2 vn3 M2 (.alt p q):=by
 obtain⟨rfl,vn3,u,r⟩:=ha;obtain⟨n,z,f⟩:=h.rel;obtain⟨n,rfl⟩:∃m,n=m+1:=⟨n - 1,o_⟩;simp only[gw_,he,if_true,hi]at f;have y:=dl_ he;obtain⟨g,l,o⟩:=r7_ hk z_ hi;simp only[go_a]at g o hlen;have A:=h.sz;have x:=h.len;refine⟨(L++M++M').length,vn3,M++M'++ [⟨3,d1.size+d2.size,fun _=>false,0,0,false,wh,i⟩],rfl,⟨?_, ?_,⟨n,o_,f⟩,l,by simp only[Μ,ls_];omega,hb.trans r, ?_⟩⟩
 . rw[<-ac_,<-ac_];exact u
 . rw[<-ac_,<-ac_];exact .alt (d:=⟨3,d1.size+d2.size,fun _=>false,0,0,false,wh,i⟩) i_ rfl (by simp only[hd1,hd2]) rfl rfl ((h.dL.app M').app _) (hN'.app _)
 . simp only[ζ.size];have:=m0_ (a:=0) (b:=t1.a) (c:=t2.a) o_ o_ 10000000;simp only[Nat.sub_zero]at this;have v:(t2.a - (t1.a+1))*10000000<=(t2.a - t1.a)*10000000:=mul_le_mul_right _ o_;omega
end
def r8_ (g:Value)(w:World)(bp:Nat):Nat:=match g with
 | .bool true=>100 - atOf w bp
 |_=>0
theorem x3_ (k:Nat)(hk:k<=6)(HSQ:xy_ k):r6_ k:=by
 intro c s t vn L w d hd Q ah hM ae;have H:=fun t1 h B o=>HSQ c s t1 h B o d hd Q
 clear hd HSQ;obtain⟨R,A⟩:=δ (ec_ s (bh_ s k) t);rw[A.out];have f:=H t vn L w ah o_ ae;have W:Hid (∀e o,ce_ c s L (4*(s.size - t.a)+1) (cr_ s (bh_ s k) (s.size+1) .none t) w e o->∃(v:Int) (g:Bool),e= .returned (.tuple #[.int .i64 v,.bool g])/\x2_ R k w c s L t o v g):=by
  intro e o E;cases hi:cr_ s (bh_ s k) (s.size+1) .none t with
  |no t1=>
   rw[hi]at E;obtain⟨⟨v,rfl⟩,⟨h,B,z⟩,x⟩:=E;refine⟨v,false,rfl,.inr ⟨rfl,⟨t1,h,B, ?_,z⟩,x⟩⟩;rw[<-A.out];unfold ec_;rw[hi]
  |ok q t1=>
   rw[hi]at E;obtain⟨i,h,M,rfl,z,hN,P,x⟩:=E;obtain⟨K,Z,N⟩:=r7_ hk ah hi;refine⟨_,true,rfl,.inl ⟨rfl,i,t1,h,M,q,rfl,z,hN,⟨s.size+1,o_, ?_⟩,Z,P,x, ?_⟩⟩
   . rw[<-A.out];unfold ec_;rw[hi]
   . exact Nat.le_trans N (mul_le_mul_right _ o_)
 clear A ae;go_enter func141,ntmps141;go_wp2_with fail;refine f.mono ?_;clear f;intro e o af;obtain⟨v1,K,rfl,Y⟩:=W.out e o af;clear af W;go_wp2_with fail;go_loopw [6,7,8] (fun wh' g' _ wr=>∃(v:Int) (g:Bool),wh'= .int .i64 v/\g'= .bool g/\x2_ R k w c s L t wr v g) (fun _ g' _ wr=>r8_ g' wr c)
 case atStart=>exact⟨_,_,rfl,rfl,Y⟩
 case round=>
  clear Y;obtain⟨v,g,rfl,rfl,hrel⟩:=hrel;rcases hrel with ⟨rfl,G,t1,h,M,p,rfl,b⟩|⟨rfl,b⟩
  . have V:Hid (atOf wr c=t1.a):=b.par.par.atOf;have P:=b.len;cases he:ς s t1.a 124
    . have n:=a9_ Q he b.par.par;have r:=b.stop he;subst r;go_wp2_with fail;refine n.mono ?_;clear n;rintro e l ⟨rfl,m,j⟩;have u:τ l c s t1 h (L++M):=b.par.cc m j;have y:Below c w l:=b.cz.trans (Ψ j b.par.lt);have HN:Hid (b3_ (L++M) G p):=b.dL;clear m j b;go_wp2_with fail;go_ret2;exact⟨G,h,M,rfl,u,HN.out,P,y⟩
    . have n:=c1_ Q he b.par.par;have aq:=dl_ he;cases hi:cr_ s (bh_ s k) (s.size+1) .none t1.go with
      |no t2=>
       have r:=b.fail he hi;go_wp2_with fail;refine n.mono ?_;clear n;rintro e l ⟨rfl,m,j⟩;have u:τ l c s t1.go h (L++M):=b.par.cc m j;have y:Below c w l:=b.cz.trans (Ψ j b.par.lt);clear m j;have f:=H t1.go h (L++M) l z_ (by rw[length_append];simp only[go_a];omega) u;rw[hi]at f;have X:Hid (R= .no t2):=r;clear hi b r;go_wp2_with fail;refine f.mono ?_;clear f;rintro e F ⟨⟨v3,rfl⟩,⟨U,L3,D⟩,C⟩;have ao:x1_ R w c s F:=⟨⟨t2,U,L3,X.out,D⟩,y.trans C⟩;clear X;go_wp2_with fail;go_roundw
       case rel=>exact⟨_,_,rfl,rfl,.inr ⟨rfl,ao⟩⟩
       case measure=>
        have:=V.out;simp only[r8_];omega
      |ok q t2=>
       obtain⟨K,Z,N⟩:=r7_ hk z_ hi;simp only[go_a]at K N;have ai:Hid (cr_ s (bh_ s k) (s.size+1) .none t1.go= .ok q t2):=hi;have I:Hid (jl_ R k w c s L t wr G t1 h M p):=b;go_wp2_with fail;refine n.mono ?_;clear n;rintro e l ⟨rfl,m,j⟩;have u:τ l c s t1.go h (L++M):=b.par.cc m j;have y:Below c w l:=b.cz.trans (Ψ j b.par.lt);clear m j;have f:=H t1.go h (L++M) l z_ (by rw[length_append];simp only[go_a];omega) u;rw[hi]at f;clear hi b;go_wp2_with fail;refine f.mono ?_;clear f;rintro e F ⟨i,U,J,rfl,D,O,ad,C⟩;have am:Below c w F:=y.trans C;obtain⟨d1,ab,S⟩:=(I.out.dL.app J).node;obtain⟨d2,ac,T⟩:=O.node;have ar:=I.out.sz;have an:=ad;simp only[go_a]at an;have f:=up_ c s t2 U (L++M++J) 3 G i d1 d2 F D (by simp only[length_append];omega) ab ac (by rw[S];omega) (by rw[T];omega);simp only[show((3:Nat):Int)=3 from rfl]at f;have ak:Hid (d1.size=p.size):=S;have al:Hid (d2.size=q.size):=T;have aj:Hid (b3_ (L++M++J) i q):=O;clear ab ac S T C O u D;go_wp2_with fail;refine f.mono ?_;clear f;intro e w4 ag;obtain⟨j4,au,M4,rfl,aa⟩:=I.out.next hk he ai.out am aj.out ad ak.out al.out ag;have ap:=aa.par.par.atOf;clear ag;go_wp2_with fail;go_roundw
       case rel=>exact⟨_,_,rfl,rfl,.inl ⟨rfl,_,_,_,_,_,rfl,aa⟩⟩
       case measure=>
        have:=V.out;simp only[r8_];omega
  . obtain⟨⟨t1,h,B,r,z⟩,x⟩:=b;subst r;go_wp2_with fail;go_ret2;exact⟨⟨_,rfl⟩,⟨_,_,z⟩,x⟩
theorem x4_:∀k,k<=6->pw_ k
 |0,_=>ahe_
 |k+1,hk=>ahf_ k o_ (x3_ k o_ (x0_ k o_ (xx_ k o_ (x4_ k o_))))
theorem x5_:r6_ 6:=x3_ 6 o_ (x0_ 6 o_ (xx_ 6 o_ (x4_ 6 o_)))
theorem px_ (bp:Nat)(s:ByteArray)(w:World)(hs:s.size<=40)(h:τ w bp s ⟨0,false,0⟩ (.slice none 0 0) []){p:ζ}{t:Sp}(hp:c8_ s= .ok p t)(ht:t.a=s.size):
 Calls prog 105 #[.pointer (some ⟨bp,0,none⟩)] w
  fun e w'=>∃(i:Nat) (vn':Value) (M:List Nd),e= .returned (.tuple #[.int .i64 (i:Int),.bool true])/\τ w' bp s t vn' M/\b3_ M i p/\M.length<=1000/\Below bp w w':=by
 have d:=x5_ bp s ⟨0,false,0⟩ (.slice none 0 0) [] w 0 o_ hs i_ s_ h;rw[show ec_ s (bh_ s 6) ⟨0,false,0⟩= .ok p t from hp]at d;have l:(t.a:Int)=(s.size:Int):=o_;have o:((t.a:Int)==(s.size:Int))=true:=s_;clear hp h;go_enter func105,ntmps105;go_wp2_with fail;refine d.mono ?_;clear d;rintro e c ⟨i,m,M,rfl,b,f,n,k⟩;rw[nil_append]at b f;obtain⟨q,r,_,_,_,_,_,_⟩:=b.par.cells;have g:=α b;have j:=α f;clear b f ht l;go_wp2_with fail;go_quiet (fail);go_wp2_with fail;go_ret2;exact⟨i,m,M,rfl,g.out.below (below_drewN (Below.refl c.heap.size c) nq),j.out,o_,k.trans ((below_drewN (Below.refl c.heap.size c) nq).mono (Nat.le_of_lt g.out.lt))⟩
theorem ahg_ (bp:Nat)(s:ByteArray)(w:World)(hs:s.size<=40)(h:τ w bp s ⟨0,false,0⟩ (.slice none 0 0) []){t:Sp}(hp:c8_ s= .no t\/∃p,c8_ s= .ok p t/\t.a≠s.size):
 Calls prog 105 #[.pointer (some ⟨bp,0,none⟩)] w
  fun e w'=>∃(v:Int) (vn':Value) (M:List Nd),e= .returned (.tuple #[.int .i64 v,.bool false])/\τ w' bp s t vn' M/\Below bp w w':=by
 have d:=x5_ bp s ⟨0,false,0⟩ (.slice none 0 0) [] w 0 o_ hs i_ s_ h;clear h;rcases hp with hp|⟨p,hp,m⟩
 . rw[show ec_ s (bh_ s 6) ⟨0,false,0⟩= .no t from hp]at d;clear hp;go_enter func105,ntmps105;go_wp2_with fail;refine d.mono ?_;clear d;rintro e b ⟨⟨v,rfl⟩,⟨g,k,c⟩,f⟩;go_wp2_with fail;go_quiet (fail);go_wp2_with fail;go_ret2;exact⟨v,g,k,rfl,c.below (below_drewN (Below.refl b.heap.size b) nq),f.trans ((below_drewN (Below.refl b.heap.size b) nq).mono (Nat.le_of_lt c.lt))⟩
 . rw[show ec_ s (bh_ s 6) ⟨0,false,0⟩= .ok p t from hp]at d;have o:((t.a:Int)==(s.size:Int))=false:=s_;clear hp;go_enter func105,ntmps105;go_wp2_with fail;refine d.mono ?_;clear d;rintro e b ⟨i,g,M,rfl,c,l,n,f⟩;rw[nil_append]at c;obtain⟨q,r,_,_,_,_,_,_⟩:=c.par.cells;have j:=α c;clear c l m;go_wp2_with fail;go_quiet (fail);go_wp2_with fail;go_ret2;exact⟨i,g,M,rfl,j.out.below (below_drewN (Below.refl b.heap.size b) nq),f.trans ((below_drewN (Below.refl b.heap.size b) nq).mono (Nat.le_of_lt j.out.lt))⟩
noncomputable def g4_ (p:ζ)(x:List Nat):Bool:= @decide (p.lang x) (Classical.propDecidable _)
theorem x6_ (p:ζ)(x:List Nat):g4_ p x=true↔p.lang x:=by unfold g4_;simp
def ahh_ (p:ζ)(w:World)(e:Ending)(w':World):Prop:=
 Bl w w'/\∃(m:cw_) (ps:List Nat) (gw ga ca gn cn:Nat),Κ cw_.good m.succ ps (8*ps.length)/\(∀x,m.lang x=g4_ p x)/\e= .returned (.pointer (some ⟨gw,0,none⟩))/\gj_ w' gw ga ca gn cn (m.tab ps)
def py_:Array Value:= #[.slice none 0 0,.int .i64 0,.int .i64 0,.int .i64 0,.int .i64 0,.int .i64 0,.int .i64 0,.int .i64 0,.int .i64 0]
theorem ahi_ {t:Nat}(h:w.heap[b]? =some (.cells py_ t (0,0))):w.rowIs b t 9 (fun i=>if i=0 then .slice none 0 0 else .int .i64 (((fun _=>0:Nat->Nat) (i - 1):Nat):Int)):=by
 refine⟨_,h,rfl,fun i hi=> ?_⟩;rcases (show i=0\/i=1\/i=2\/i=3\/i=4\/i=5\/i=6\/i=7\/i=8 by omega)with rfl|rfl|rfl|rfl|rfl|rfl|rfl|rfl|rfl<;>rfl
theorem x7_ (L:List Nd)(gn cap i:Nat)(p:ζ)(w:World)(hN:b3_ L i p)(hA:kw_ w gn L)(hg:gn<w.heap.size)(hp:p.size<=10):
 Calls prog 106 #[.slice (some ⟨gn,0,none⟩) L.length cap,.int .i64 (i:Int)] w (ahh_ p w):=by
 obtain⟨W,b⟩:=af_ ((w.alloc (.cells py_ 184)).alloc (.cells (Ε (fun _=>false)) 128));have BW:Bl w W:=by rw[b];exact ξ.alloc i_ _
 have al:W.heap.size=w.heap.size+1+1:=by rw[b];simp
 have K:W.heap[w.heap.size]? =some (.cells py_ 184 (0,0)):=by rw[b];exact φ (ο rfl)
 have M:W.heap[w.heap.size+1]? =some (.cells (Ε (fun _=>false)) 128 (0,0)):=by rw[b];exact ο i_
 have J:c6_ W w.heap.size (.slice none 0 0) 0 (fun _=>0) (fun _=>0):=⟨ahi_ K,a8_,fun i hi=>o_,fun c _=>o_⟩;have a:=ug_ w.heap.size (.slice none 0 0) 0 (fun _=>0) (fun _=>0) (fun _=>false) W o_ J;obtain⟨c0,c1,c2,c3,c4,c5,c6,c7⟩:=bz_ (f:=fun _=>false) (co_ M);simp only[show Ε (fun _=>false)= #[.bool false,.bool false,.bool false,.bool false,.bool false,.bool false,.bool false,.bool false]from rfl,show((2^0:Nat):Int)=1 from rfl,ft_,if_false]at b a;unfold py_ at b;clear J K M;go_enter func106,ntmps106;go_upto_region 3 with fail;rw[<-b];clear b;go_wp2_with fail;refine a.mono ?_;clear a;rintro e E ⟨rfl,X,S,B,ak⟩;have aq:=B.size;have ab:=α S;have ad:Bl w E:=B.below BW o_ (fun k hk=>by
  rcases hk with hk|hk
  . omega
  . simp[Value.ownBlock]at hk)
 clear S B ak c0 c1 c2 c3 c4 c5 c6 c7;obtain⟨s,z,G,-,d0⟩:=ν E #[.bool false,.int .i64 1,.int .i64 1] 187;have am:s.heap.size=E.heap.size+1:=by rw[z];simp
 have Q:=η ad G;have m:fp_ s gn w.heap.size L X 1 (fun i=>if i=0 then 0 else 0) (fun _=>0):=⟨hA.block (Q.block _ hg),hg,ab.out.below G,fun c q _=>i_,ι⟩;have a:=acw_ p L gn cap i w.heap.size X 1 _ _ s hN m o_;go_upto_region 5 with fail;rw[<-z];clear z;go_wp2_with fail;refine a.mono ?_;clear a;rintro e Y ⟨v,F,j,av,u,D,rfl,g,o⟩;have f0:=ed_ m.cD g.cJ d0 o_ d_;have ar:=g.cJ.size;obtain⟨t,A,H,-,P⟩:=ν Y #[.bool v,.int .i64 (F:Int),.int .i64 (j:Int)] 187;have an:t.heap.size=Y.heap.size+1:=by rw[A];simp
 have O:=(H.block _ (κ f0)).trans f0;have d:=g.grow H;have hF:=o.dP o_;have y:=o.dK o_;obtain⟨l,N,rfl⟩:=d.cD.slice o_;have a:=m1_ w.heap.size l (1+p.size) N u D false v 1 1 F j t o_ d.cD o_ o_ hF y;obtain⟨h,r⟩:=δ (if v then j|||1 else j);rw[r.out]at a;have ai:h<2048:=by
  rw[<-r.out];split
  . exact or_lt_two_pow (n:=11) y o_
  . exact y
 simp only[Bool.false_and,ft_,if_false,show((1:Nat):Int)=1 from rfl]at a;have aa:Hid (∀x,cw_.lang ⟨1+p.size,bf_ u 1 F,D,h⟩ x=g4_ p x):=by
  intro x;rw[Bool.eq_iff_iff,x6_,<-r.out];exact cw_.lang_ok o (by rw[g.dH 0 o_];rfl) x
 obtain⟨s0,s1,V,_,_,_⟩:=ay_ O;obtain⟨u0,u1,u2,_,_,_⟩:=ay_ P;have ae:Bl w t:=by
  refine ε.below d.cJ Q o_ (fun k hk=> ?_);rcases hk with hk|hk
  . omega
  . have:=(m.cD.own.lt k hk).1;omega
 clear f0 o g m d0;go_upto_region 6 with fail;rw[<-A];clear A;go_wp2_with fail;refine a.mono ?_;clear a;rintro e Z ⟨rfl,T,C⟩;have au:=C.size;have ao:=(d.cD.own.lt l rfl).1;have af:Bl w Z:=C.below ae o_ (fun k hk=>by have e':k=l:=hk;omega);clear s0 s1 V u0 u1 u2 O P C d;obtain⟨W3,R,I,-,U⟩:=ν Z #[.bool false,.int .i64 1,.int .i64 (h:Int)] 187;obtain⟨_,_,V,_,_,_⟩:=ay_ U;have ag:=η af I;have ap:=κ U;have a:=ahc_ w.heap.size l (1+p.size) N (bf_ u 1 F) D h W3 o_ o_ ai (T.below I);go_upto_region 7 with fail;rw[<-R];clear R T;go_wp2_with fail;refine a.mono ?_;clear a;rintro e w4 ⟨ah,ps,gw,ga,ca,ac,cn,hR,rfl,aj⟩;go_wp2_with fail;go_ret;exact⟨ag.trans (ah.mono o_),_,ps,gw,ga,ca,ac,cn,hR,aa.out,rfl,aj⟩
def jm_ (s:ByteArray)(b:Int):Option (Int×Nat):=
 if 40<s.size then some (1,0)else match c8_ s with
 | .no t=>some (2,t.a)
 | .ok p t=>if t.a≠s.size then some (2,t.a)else if t.bk=true then some (3,t.sp)else if 10<p.size then some (4,0)else if b<1\/40<b then some (8,0)else none
theorem d7_.eM {L:List Nat->Bool}{budget bound:Nat}{w0:World}(h:d7_ L budget bound w0 e w1)(h0:Bl w w0)(hs:w.heap.size<=w0.heap.size):
 ∃a0 n0 c0 a1 n1 c1 er,e= .returned (.tuple #[.agg #[.slice a0 n0 c0,.slice a1 n1 c1],.int .i64 er])/\Bl w w1/\Bl w0 w1/\
  ∀b,w.heap.size<=b->b<w0.heap.size->∀w2,Below w1.heap.size ((w1.setCell ⟨b,0,none⟩ (.slice a0 n0 c0)).setCell ⟨b,1,none⟩ (.slice a1 n1 c1)) w2->d7_ L budget bound w (.returned (.tuple #[.agg #[.slice a0 n0 c0,.slice a1 n1 c1],.int .i64 er])) w2:=by
 obtain⟨a,k⟩:=h;have c:=h0.trans (a.mono hs);have g:∀(b:Nat) (u v:Value),((w1.setCell ⟨b,0,none⟩ u).setCell ⟨b,1,none⟩ v).heap.size=w1.heap.size:=by intro b u v;simp
 rcases k with ⟨R,V,d,m,rfl,j,f,i⟩|⟨rfl,l,d⟩
 . exact⟨_,_,_,_,_,_,_,rfl,c,a,fun b h1 h2 w2 h3=>⟨(av_ c h1 _ _).trans (h3.mono (by have:=a.size;omega)),.inl ⟨R,V,d,m,rfl,(j.res f h2 _ _).below (by show Below _ _ _;rw[g];exact h3),f.mono hs,((i.set _ _ _).set _ _ _).below (by show Below _ _ _;rw[g];exact h3)⟩⟩⟩
 . exact⟨_,_,_,_,_,_,_,rfl,c,a,fun b h1 h2 w2 h3=>⟨(av_ c h1 _ _).trans (h3.mono (by have:=a.size;omega)),.inr ⟨rfl,l,d⟩⟩⟩
def r9_ (L:List Nat->Bool)(budget bound:Nat)(w:World)(e:Ending)(w':World):Prop:=
 ∃v er,e= .returned (.tuple #[v,.int .i64 er,.int .i64 0])/\d7_ L budget bound w (.returned (.tuple #[v,.int .i64 er])) w'
theorem ahj_ {b:Int}(h:jm_ s b=none):∃p t,c8_ s= .ok p t/\t.a=s.size/\t.bk=false/\p.size<=10/\s.size<=40/\1<=b/\b<=40:=by
 unfold jm_ at h;split at h
 . simp at h
 . rename_i h0;cases hp:c8_ s with
   |no t=>rw[hp]at h;simp at h
   |ok p t=>
    rw[hp]at h;simp only at h;split at h
    . simp at h
    . rename_i h1;split at h
      . simp at h
      . rename_i h2;split at h
        . simp at h
        . rename_i h3;split at h
          . simp at h
          . rename_i h4;exact⟨p,t,rfl,o_,by simpa using h2,o_,o_,o_,o_⟩
theorem nr_ (h:w.heap[bp]? =some (.cells #[.string s,.int .i64 0,.slice none 0 0,.bool false,.int .i64 0] 125 (0,0))):τ w bp s ⟨0,false,0⟩ (.slice none 0 0) []:=
 ⟨h,a8_⟩
theorem ahk_ (s:ByteArray)(b:Nat)(w:World){p:ζ}{t:Sp}(hp:c8_ s= .ok p t)(hta:t.a=s.size)(hbk:t.bk=false)(hsz:p.size<=10)(hs:s.size<=40)(hb1:1<=b)(hb2:b<=40):
 Calls prog 68 #[.string s,.int .i64 (b:Int)] w fun e w'=>∃n,r9_ (g4_ p) b n w e w':=by
 obtain⟨W,N,BW,I,J⟩:=bl_ w #[.slice none 0 0,.slice none 0 0] 41 #[.string s,.int .i64 0,.slice none 0 0,.bool false,.int .i64 0] 125
 have c:=px_ (w.heap.size+1) s W hs (nr_ J) hp hta;have aj:¬(40:Int)<(s.size:Int):=o_;clear hp J;go_enter func68,ntmps68;go_upto_region 4 with fail;rw[<-N];clear N;go_wp2_with fail;refine c.mono ?_;clear c;rintro e E ⟨i,an,M,rfl,f,k,af,A⟩;obtain⟨d,Q,R⟩:=k.node;obtain⟨g,aa,rfl,P⟩:=f.nd Q;have F:=P 1 o_;simp[Α]at F;obtain⟨z,G⟩:=δ (d.size);rw[G.out]at F;have ak:¬(10:Int)<(z:Int):=by rw[<-G.out,R];omega
 obtain⟨_,_,y2,X,_,_,_,_⟩:=f.par.cells;rw[hbk]at X;have ah:i<M.length:=k.lt;have ad:g<E.heap.size:=(f.own.lt g rfl).2;have L:kw_ E g M:=fun i d hi j hj=>by
  obtain⟨g',ae,S,ac⟩:=f.nd hi;simp only[Value.slice.injEq,Δ,Addr.mk.injEq]at S;obtain⟨⟨rfl,_⟩,_,rfl⟩:=S;exact ac j hj
 have c:=x7_ M g aa i p E k L ad hsz;have Y:=η BW A;have a0:=(A.block _ o_).trans I;have ai:=f.lt;clear P k L f A Q R I hta;go_wp2_with fail;refine c.mono ?_;clear c;rintro e w2 ⟨h,m,ps,gw,ga,ca,ab,cn,l,U,rfl,O⟩;have al:=h.size;have ag:=cw_.bound l;have c:=to_ gw ga ca ab cn _ (g4_ p) b w2 O (cw_.numbered l) (by show ps.length<=100000000;omega) (fun x hx=>(cw_.tab_accepts l x hx).trans (U x)) hb1 hb2;have Z:=η Y h;have a1:=(h.block _ o_).trans a0;clear l O h U;go_wp2_with fail;refine c.mono ?_;intro e w3 V;obtain⟨o,C,r,q,D,y,K,rfl,hB,B,T⟩:=V.eM Z o_;have H:=(B.block _ o_).trans a1;have am:=B.size;have HF:Hid _:=T w.heap.size o_ o_;obtain⟨q0,q1,p0,p1⟩:=β H;have ma:w.heap.size<w3.heap.size:=o_;clear c V T B F y2 X;go_wp2_with fail;obtain⟨r1,r2⟩:=mo_ (u:= .slice o C r) (v:= .slice q D y) H (.cells #[.slice o C r,.slice q D y] 41);refine bodyPost_ret (v:= .tuple #[.agg #[.slice o C r,.slice q D y],.int .i64 K,.int .i64 0]) (by simp[results,results68,go_sem,r1,r2]) rfl ?_;exact⟨_,_,K,rfl,HF.out _ (μ.alloc i_ _)⟩
def g5_ (er:Int)(pl:Nat)(w:World)(e:Ending)(w':World):Prop:=e= .returned (.tuple #[.agg #[.slice none 0 0,.slice none 0 0],.int .i64 er,.int .i64 (pl:Int)])/\Bl w w'
theorem ahl_ (s:ByteArray)(b:Int)(w:World)(hss:s.size<=maxLen)(hs:40<s.size):Calls prog 68 #[.string s,.int .i64 b] w (g5_ 1 0 w):=by
 unfold maxLen at hss;obtain⟨W,c,d,-,a⟩:=ν w #[.slice none 0 0,.slice none 0 0] 41;have g:(40:Int)<(s.size:Int):=o_;obtain⟨j,k,h,i⟩:=β a;go_enter func68,ntmps68;go_upto_region 1 with fail;rw[<-c];clear c;go_wp2_with fail;obtain⟨_,f,e⟩:=Φ (u:= .slice none 0 0) (v:= .slice none 0 0) a;refine bodyPost_ret (v:= .tuple #[.agg #[.slice none 0 0,.slice none 0 0],.int .i64 1,.int .i64 0]) (by simp[results,results68,go_sem,e,f]) rfl ?_;exact⟨rfl,av_ d (b:=w.heap.size) o_ (.slice none 0 0) (.slice none 0 0)⟩
theorem x8_ (s:ByteArray)(b:Int)(w:World)(hs:s.size<=40){t:Sp}(hp:c8_ s= .no t\/∃p,c8_ s= .ok p t/\t.a≠s.size):Calls prog 68 #[.string s,.int .i64 b] w (g5_ 2 t.a w):=by
 obtain⟨W,i,l,g,h⟩:=bl_ w #[.slice none 0 0,.slice none 0 0] 41 #[.string s,.int .i64 0,.slice none 0 0,.bool false,.int .i64 0] 125
 have r:¬(40:Int)<(s.size:Int):=o_;have d:=ahg_ (w.heap.size+1) s W hs (nr_ h) hp;clear h hp;go_enter func68,ntmps68;go_upto_region 4 with fail;rw[<-i];clear i;go_wp2_with fail;refine d.mono ?_;clear d;rintro e q ⟨v,B,M,rfl,j,c⟩;have k:=η l c;have f:=(c.block _ o_).trans g;obtain⟨_,C,_,_,_,_,_,_⟩:=j.par.cells;clear j c g;obtain⟨z,A,x,y⟩:=β f;go_wp2_with fail;go_region
 all_goals
  go_wp2_with fail;obtain⟨m,o,n⟩:=Φ (w:=q) (u:= .slice none 0 0) (v:= .slice none 0 0) f;refine bodyPost_ret (v:= .tuple #[.agg #[.slice none 0 0,.slice none 0 0],.int .i64 2,.int .i64 (t.a:Int)]) (by simp[results,results68,go_sem,m,n,o]) rfl ?_;exact⟨rfl,(av_ k (b:=w.heap.size) o_ (.slice none 0 0) (.slice none 0 0)).drew⟩
theorem ahm_ (s:ByteArray)(b:Int)(w:World)(hs:s.size<=40){p:ζ}{t:Sp}(hp:c8_ s= .ok p t)(hta:t.a=s.size)(hbk:t.bk=true):Calls prog 68 #[.string s,.int .i64 b] w (g5_ 3 t.sp w):=by
 obtain⟨W,j,m,g,h⟩:=bl_ w #[.slice none 0 0,.slice none 0 0] 41 #[.string s,.int .i64 0,.slice none 0 0,.bool false,.int .i64 0] 125
 have A:¬(40:Int)<(s.size:Int):=o_;have d:=px_ (w.heap.size+1) s W hs (nr_ h) hp hta;clear h hp hta;go_enter func68,ntmps68;go_upto_region 4 with fail;rw[<-j];clear j;go_wp2_with fail;refine d.mono ?_;clear d;rintro e x ⟨i,F,M,rfl,k,n,z,c⟩;have l:=η m c;have f:=(c.block _ o_).trans g;obtain⟨_,_,_,y,G,_,_,_⟩:=k.par.cells;rw[hbk]at y;clear k c g n hbk;obtain⟨D,E,B,C⟩:=β f;go_wp2_with fail;go_region
 all_goals
  go_wp2_with fail;obtain⟨o,r,q⟩:=Φ (w:=x) (u:= .slice none 0 0) (v:= .slice none 0 0) f;refine bodyPost_ret (v:= .tuple #[.agg #[.slice none 0 0,.slice none 0 0],.int .i64 3,.int .i64 (t.sp:Int)]) (by simp[results,results68,go_sem,o,q,r]) rfl ?_;exact⟨rfl,(av_ l (b:=w.heap.size) o_ (.slice none 0 0) (.slice none 0 0)).drew⟩
theorem ahn_ (s:ByteArray)(b:Int)(w:World)(hs:s.size<=40){p:ζ}{t:Sp}(hp:c8_ s= .ok p t)(hta:t.a=s.size)(hbk:t.bk=false)(hsz:10<p.size):Calls prog 68 #[.string s,.int .i64 b] w (g5_ 4 0 w):=by
 obtain⟨W,n,A,l,m⟩:=bl_ w #[.slice none 0 0,.slice none 0 0] 41 #[.string s,.int .i64 0,.slice none 0 0,.bool false,.int .i64 0] 125
 have I:¬(40:Int)<(s.size:Int):=o_;have j:=px_ (w.heap.size+1) s W hs (nr_ m) hp hta;clear m hp hta;go_enter func68,ntmps68;go_upto_region 4 with fail;rw[<-n];clear n;go_wp2_with fail;refine j.mono ?_;clear j;rintro e Q ⟨i,P,M,rfl,h,g,G,f⟩;obtain⟨d,q,r⟩:=g.node;obtain⟨F,E,rfl,o⟩:=h.nd q;have x:=o 1 o_;simp[Α]at x;obtain⟨z,c⟩:=δ (d.size);rw[c.out]at x;obtain⟨_,_,R,D,_,_,_,_⟩:=h.par.cells;rw[hbk]at D;have H:i<M.length:=g.lt;have y:=η A f;have k:=(f.block _ o_).trans l;have J:(10:Int)<(z:Int):=by rw[<-c.out,r];omega
 clear o g h f q r l c;obtain⟨N,O,K,L⟩:=β k;go_wp2_with fail;obtain⟨_,C,B⟩:=Φ (u:= .slice none 0 0) (v:= .slice none 0 0) k;refine bodyPost_ret (v:= .tuple #[.agg #[.slice none 0 0,.slice none 0 0],.int .i64 4,.int .i64 0]) (by simp[results,results68,go_sem,B,C]) rfl ?_;exact⟨rfl,av_ y (b:=w.heap.size) o_ (.slice none 0 0) (.slice none 0 0)⟩
theorem aho_ (s:ByteArray)(b:Int)(w:World)(hs:s.size<=40){p:ζ}{t:Sp}(hp:c8_ s= .ok p t)(hta:t.a=s.size)(hbk:t.bk=false)(hsz:p.size<=10)(hb:b<1\/40<b):Calls prog 68 #[.string s,.int .i64 b] w (g5_ 8 0 w):=by
 obtain⟨W,D,O,A,B⟩:=bl_ w #[.slice none 0 0,.slice none 0 0] 41 #[.string s,.int .i64 0,.slice none 0 0,.bool false,.int .i64 0] 125
 have ag:¬(40:Int)<(s.size:Int):=o_;have c:=px_ (w.heap.size+1) s W hs (nr_ B) hp hta;clear B hp hta;go_enter func68,ntmps68;go_upto_region 4 with fail;rw[<-D];clear D;go_wp2_with fail;refine c.mono ?_;clear c;rintro e q ⟨i,ak,M,rfl,f,l,ac,n⟩;obtain⟨d,G,H⟩:=l.node;obtain⟨g,S,rfl,F⟩:=f.nd G;have r:=F 1 o_;simp[Α]at r;obtain⟨z,x⟩:=δ (d.size);rw[x.out]at r;obtain⟨_,_,y2,J,_,_,_,_⟩:=f.par.cells;rw[hbk]at J;have ae:i<M.length:=l.lt;have Z:g<q.heap.size:=(f.own.lt g rfl).2;have K:=η O n;have P:=(n.block _ o_).trans A;have af:=f.lt;have ah:¬(10:Int)<(z:Int):=by rw[<-x.out,H];omega
 have C:kw_ q g M:=fun i d hi j hj=>by
  obtain⟨g',ab,I,Y⟩:=f.nd hi;simp only[Value.slice.injEq,Δ,Addr.mk.injEq]at I;obtain⟨⟨rfl,_⟩,_,rfl⟩:=I;exact Y j hj
 have c:=x7_ M g S i p q l C Z hsz;clear F l C f n G H A;go_wp2_with fail;refine c.mono ?_;clear c;rintro e w2 ⟨h,m,ps,X,U,R,V,T,o,aa,rfl,E⟩;have ai:=h.size;have ad:=cw_.bound o;have c:=tp_ X U R V T _ b w2 E (cw_.numbered o) (by show ps.length<=100000000;omega) hb;have L:=η K h;have Q:=(h.block _ o_).trans P;clear o E h aa hb;go_wp2_with fail;refine c.mono ?_;clear c;rintro e w3 ⟨rfl,k⟩;have y:=(k.block _ o_).trans Q;have aj:=k.size;have N:=η L k;obtain⟨q0,q1,p0,p1⟩:=β y;have ma:w.heap.size<w3.heap.size:=o_;clear k r y2 J;go_wp2_with fail;obtain⟨r1,r2⟩:=mo_ (u:= .slice none 0 0) (v:= .slice none 0 0) y (.cells #[.slice none 0 0,.slice none 0 0] 41);refine bodyPost_ret (v:= .tuple #[.agg #[.slice none 0 0,.slice none 0 0],.int .i64 8,.int .i64 0]) (by simp[results,results68,go_sem,r1,r2]) rfl ?_;exact⟨rfl,(av_ N (b:=w.heap.size) o_ (.slice none 0 0) (.slice none 0 0)).alloc s_ _⟩
theorem ahp_ (s:ByteArray)(b:Int)(w:World)(hss:s.size<=maxLen)(h:jm_ s b=some (er,pl)):Calls prog 68 #[.string s,.int .i64 b] w (g5_ er pl w):=by
 unfold jm_ at h;split at h
 . rename_i h0;simp only[Δ,Prod.mk.injEq]at h;obtain⟨rfl,rfl⟩:=h;exact ahl_ s b w hss h0
 . rename_i h0;have a:s.size<=40:=o_;cases hp:c8_ s with
   |no t=>
    rw[hp]at h;simp only[Δ,Prod.mk.injEq]at h;obtain⟨rfl,rfl⟩:=h;exact x8_ s b w a (.inl hp)
   |ok p t=>
    rw[hp]at h;simp only at h;split at h
    . rename_i h1;simp only[Δ,Prod.mk.injEq]at h;obtain⟨rfl,rfl⟩:=h;exact x8_ s b w a (.inr ⟨p,hp,h1⟩)
    . rename_i h1;split at h
      . rename_i h2;simp only[Δ,Prod.mk.injEq]at h;obtain⟨rfl,rfl⟩:=h;exact ahm_ s b w a hp o_ h2
      . rename_i h2;split at h
        . rename_i h3;simp only[Δ,Prod.mk.injEq]at h;obtain⟨rfl,rfl⟩:=h;exact ahn_ s b w a hp o_ (by simpa using h2) h3
        . rename_i h3;split at h
          . rename_i h4;simp only[Δ,Prod.mk.injEq]at h;obtain⟨rfl,rfl⟩:=h;exact aho_ s b w a hp o_ (by simpa using h2) o_ h4
          . simp at h
theorem ahq_ (s:ByteArray)(b:Nat)(w:World){p:ζ}{t:Sp}(hp:c8_ s= .ok p t)(hta:t.a=s.size)(hbk:t.bk=false)(hsz:p.size<=10)(hs:s.size<=40)(hb1:1<=b)(hb2:b<=40):
 Calls prog 30 #[.string s,.int .i64 (b:Int)] w fun e w'=>∃n,r9_ (g4_ p) b n w e w':=by
 obtain⟨W,c,y,-,-⟩:=ν w #[.slice none 0 0,.slice none 0 0] 41;have E:W.heap.size=w.heap.size+1:=by rw[c];simp
 have i:=aw_ c;have d:=ahk_ s b W hp hta hbk hsz hs hb1 hb2;clear hp hta hbk hsz hs hb1 hb2;go_enter func30,ntmps30;go_wp2_with fail;rw[<-c];clear c;refine d.mono ?_;clear d;rintro e K ⟨n,v,l,rfl,hp⟩;obtain⟨f,r,j,g,x,k,C,o,D,m,q⟩:=hp.eM y o_;simp only[Ending.returned.injEq,Value.tuple.injEq,Array.mk.injEq,List.cons.injEq,Value.int.injEq,true_and,and_true]at o;obtain⟨rfl,rfl⟩:=o;have h:=(m.block _ o_).trans i;have z:Hid _:=q w.heap.size o_ o_;obtain⟨H,I,F,G⟩:=β h;clear hp q m i;go_wp2_with fail;obtain⟨A,B,J⟩:=Φ (u:= .slice f r j) (v:= .slice g x k) h;refine bodyPost_ret (v:= .tuple #[.agg #[.slice f r j,.slice g x k],.int .i64 l,.int .i64 0]) (by simp[results,results30,go_sem,A,B]) rfl ?_;exact⟨n,_,l,rfl,z.out _ (by simpa using μ)⟩
theorem ahr_ (s:ByteArray)(b:Int)(w:World)(hss:s.size<=maxLen)(h:jm_ s b=some (er,pl)):Calls prog 30 #[.string s,.int .i64 b] w (g5_ er pl w):=by
 obtain⟨W,a,j,-,-⟩:=ν w #[.slice none 0 0,.slice none 0 0] 41;have m:W.heap.size=w.heap.size+1:=by rw[a];simp
 have g:=aw_ a;have d:=ahp_ s b W hss h;clear h;go_enter func30,ntmps30;go_wp2_with fail;rw[<-a];clear a;refine d.mono ?_;clear d;rintro e t ⟨rfl,c⟩;have f:=(c.block _ o_).trans g;have i:=η j c;obtain⟨p,q,n,o⟩:=β f;clear c g;go_wp2_with fail;obtain⟨k,l,r⟩:=Φ (u:= .slice none 0 0) (v:= .slice none 0 0) f;refine bodyPost_ret (v:= .tuple #[.agg #[.slice none 0 0,.slice none 0 0],.int .i64 er,.int .i64 (pl:Int)]) (by simp[results,results30,go_sem,k,l]) rfl ?_;exact⟨rfl,av_ i (b:=w.heap.size) o_ (.slice none 0 0) (.slice none 0 0)⟩
end Go.Proofs.YtpngikmcjkjdaaaGreatDoor
