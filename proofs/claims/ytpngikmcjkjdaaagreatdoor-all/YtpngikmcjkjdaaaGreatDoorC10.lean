import Derived.Test.YtpngikmcjkjdaaaGreatDoorC9
set_option linter.unusedVariables false
set_option linter.unusedSimpArgs false
set_option maxRecDepth 20000
set_option maxHeartbeats 80000000
namespace Go.Proofs.YtpngikmcjkjdaaaGreatDoor
open Go.RowKit Tryz List Nat
variable {ps:List Nat} {k n p:Nat}
theorem abe_ (V U:ρ)(M N:γ)(how budget:Int)(w:World)(hM:M.Ok)(hN:N.Ok)(hV:π w V M)(hU:π w U N)(hh0:0<=how)(hh1:how<=3)(hb:budget<1\/40<budget):
 Calls prog 81 #[.agg #[.slice (some ⟨V.ba,V.oa,none⟩) M.n V.ca,.slice (some ⟨V.bn,V.on,none⟩) M.n V.cn],.agg #[.slice (some ⟨U.ba,U.oa,none⟩) N.n U.ca,.slice (some ⟨U.bn,U.on,none⟩) N.n U.cn],.int .i64 how,.int .i64 budget] w
  fun e w'=>e= .returned (.tuple #[.agg #[.slice none 0 0,.slice none 0 0],.int .i64 8])/\Bl w w':=by
 obtain⟨W,q,i,d,g,h⟩:=fe_ w #[.slice (some ⟨V.ba,V.oa,none⟩) M.n V.ca,.slice (some ⟨V.bn,V.on,none⟩) M.n V.cn] 41 #[.slice (some ⟨U.ba,U.oa,none⟩) N.n U.ca,.slice (some ⟨U.bn,U.on,none⟩) N.n U.cn] 41 #[.slice none 0 0,.slice none 0 0] 41;have Z:W.heap.size=w.heap.size+1+1+1:=by rw[q];simp
 have p:=hV.below i;have E:=hU.below i;obtain⟨s,t,_,_⟩:=β d;go_enter func81,ntmps81;go_wp2_with fail;rw[<-q];clear q;refine(jf_ V M _ hM p).mono ?_;rintro e w1 ⟨rfl,a⟩;have C:=(a.block _ o_).trans d;have k:=(a.block _ o_).trans g;have f:=(a.block _ o_).trans h;have ab:=a.size;have G:=p.below a;have o:=E.below a;have z:=η i a;clear s t d g h a p E i;obtain⟨x,y,_,_⟩:=β k;go_wp2_with fail;refine(jf_ U N _ hN o).mono ?_;rintro e w2 ⟨rfl,c⟩;have d:=(c.block _ o_).trans C;have g:=(c.block _ o_).trans k;have h:=(c.block _ o_).trans f;have ac:=c.size;have H:=G.below c;have F:=o.below c;have A:=η z c;clear x y C k f c G o z;obtain⟨s,t,_,_⟩:=β d;obtain⟨x,y,_,_⟩:=β g;go_wp2_with fail;refine(aap_ V U M N how _ hM hN H F hh0 hh1).mono ?_;rintro e Y ⟨j,r,R,P,ca,Q,cn,m,rfl,I⟩;have f:=(j.block _ o_).trans h;have ad:=j.size;have K:=η A j;clear s t x y d g h j H F A hV hU;have J:=s2_ (how:=how) m
 have S:=m.bound hN;have aa:r.length<=1600:=by have:=Nat.mul_le_mul hM.hi hN.hi;omega
 have B:=tp_ R P ca Q cn (be_ M N how r) budget Y I J (by show r.length<=100000000;omega) hb;clear J m I S hb;go_wp2_with fail;refine B.mono ?_;clear B;rintro e w5 ⟨rfl,l⟩;have D:=(l.block _ o_).trans f;have L:=η K l;have O:Hid _:=av_ L (b:=w.heap.size+1+1) o_ (.slice none 0 0) (.slice none 0 0);obtain⟨q0,q1,p0,p1⟩:=β D;clear l f;go_wp2_with fail;obtain⟨T,X,r3⟩:=Φ (u:= .slice none 0 0) (v:= .slice none 0 0) D;refine bodyPost_ret (v:= .tuple #[.agg #[.slice none 0 0,.slice none 0 0],.int .i64 8]) (by simp[results,results81,go_sem,T,X]) rfl ?_;exact⟨rfl,O.out⟩
def cg_ (t u:aj_)(X Y:Nat->Nat->Int)(how budget:Int):Int:=
 if Ο t X=false then 6 else if Ο u Y=false then 6 else if how<0\/3<how then 8 else if budget<1\/40<budget then 8 else 0
theorem abf_ (t u:aj_)(A C:Nat->Bool)(X Y:Nat->Nat->Int)(how budget:Int)(w:World)(hT:az_ w t A X)(hU:az_ w u C Y)
 (hb2:Ο t X=false\/Ο u Y=false\/how<0\/3<how):
 Calls prog 81 #[.agg #[.slice t.aa t.na t.ca,.slice t.an t.nn t.cn],.agg #[.slice u.aa u.na u.ca,.slice u.an u.nn u.cn],.int .i64 how,.int .i64 budget] w
  fun e w'=>e= .returned (.tuple #[.agg #[.slice none 0 0,.slice none 0 0],.int .i64 (cg_ t u X Y how budget)])/\Bl w w':=by
 obtain⟨W,x,s,F,G,d⟩:=fe_ w #[.slice t.aa t.na t.ca,.slice t.an t.nn t.cn] 41 #[.slice u.aa u.na u.ca,.slice u.an u.nn u.cn] 41 #[.slice none 0 0,.slice none 0 0] 41;have P:W.heap.size=w.heap.size+1+1+1:=by rw[x];simp
 have c:=oa_ t A X W (hT.below s);have H:=hU.below s;obtain⟨N,O,_,_⟩:=β F;go_enter func81,ntmps81;go_wp2_with fail;rw[<-x];clear x;refine c.mono ?_;rintro e K ⟨rfl,n⟩;have j:=(n.block _ o_).trans G;have g:=(n.block _ o_).trans d;have Q:=n.size;have I:=H.below n;have h:=η s n;clear N O F G d n H s c hT hU;have c:=oa_ u C Y K I;clear I;cases hok:Ο t X
 . have f:cg_ t u X Y how budget=6:=by simp[cg_,hok]
   have i:=α f;clear f hb2 hok c j;obtain⟨D,E,z,B⟩:=β g;have y:w.heap.size+1+1<K.heap.size:=o_;go_wp2_with fail;obtain⟨_,m,l⟩:=Φ (u:= .slice none 0 0) (v:= .slice none 0 0) g;refine bodyPost_ret (v:= .tuple #[.agg #[.slice none 0 0,.slice none 0 0],.int .i64 6]) (by simp[results,results81,go_sem,l,m]) rfl ?_;have k:=av_ h (b:=w.heap.size+1+1) o_ (.slice none 0 0) (.slice none 0 0);exact⟨by rw[i.out],k⟩
 . cases hok2:Ο u Y
   . have f:cg_ t u X Y how budget=6:=by simp[cg_,hok,hok2]
     have i:=α f;rw[hok2]at c;clear f hb2 hok hok2;obtain⟨q,r,_,_⟩:=β j;go_wp2_with fail;refine c.mono ?_;rintro e p ⟨rfl,a⟩;have d:=(a.block _ o_).trans g;have J:=a.size;have o:=η h a;clear q r j g a c h;obtain⟨D,E,z,B⟩:=β d;have y:w.heap.size+1+1<p.heap.size:=o_;go_wp2_with fail;obtain⟨_,m,l⟩:=Φ (u:= .slice none 0 0) (v:= .slice none 0 0) d;refine bodyPost_ret (v:= .tuple #[.agg #[.slice none 0 0,.slice none 0 0],.int .i64 6]) (by simp[results,results81,go_sem,l,m]) rfl ?_;have k:=av_ o (b:=w.heap.size+1+1) o_ (.slice none 0 0) (.slice none 0 0);exact⟨by rw[i.out],k⟩
   . rw[hok2]at c;by_cases L:how<0
     . have f:cg_ t u X Y how budget=8:=by simp[cg_,hok,hok2,L]
       have i:=α f;clear f hb2 hok hok2;obtain⟨q,r,_,_⟩:=β j;go_wp2_with fail;refine c.mono ?_;rintro e p ⟨rfl,a⟩;have d:=(a.block _ o_).trans g;have J:=a.size;have o:=η h a;clear q r j g a c h;obtain⟨D,E,z,B⟩:=β d;have y:w.heap.size+1+1<p.heap.size:=o_;go_wp2_with fail;obtain⟨_,m,l⟩:=Φ (u:= .slice none 0 0) (v:= .slice none 0 0) d;refine bodyPost_ret (v:= .tuple #[.agg #[.slice none 0 0,.slice none 0 0],.int .i64 8]) (by simp[results,results81,go_sem,l,m]) rfl ?_;have k:=av_ o (b:=w.heap.size+1+1) o_ (.slice none 0 0) (.slice none 0 0);exact⟨by rw[i.out],k⟩
     . by_cases M:3<how
       . have f:cg_ t u X Y how budget=8:=by simp[cg_,hok,hok2,M]
         have i:=α f;clear f hb2 hok hok2;obtain⟨q,r,_,_⟩:=β j;go_wp2_with fail;refine c.mono ?_;rintro e p ⟨rfl,a⟩;have d:=(a.block _ o_).trans g;have J:=a.size;have o:=η h a;clear q r j g a c h;obtain⟨D,E,z,B⟩:=β d;have y:w.heap.size+1+1<p.heap.size:=o_;go_wp2_with fail;obtain⟨_,m,l⟩:=Φ (u:= .slice none 0 0) (v:= .slice none 0 0) d;refine bodyPost_ret (v:= .tuple #[.agg #[.slice none 0 0,.slice none 0 0],.int .i64 8]) (by simp[results,results81,go_sem,l,m]) rfl ?_;have k:=av_ o (b:=w.heap.size+1+1) o_ (.slice none 0 0) (.slice none 0 0);exact⟨by rw[i.out],k⟩
       . exact absurd hb2 (by simp[hok,hok2];omega)
theorem qq_ (t u:aj_)(A C:Nat->Bool)(X Y:Nat->Nat->Int)(how budget:Int)(w:World)(hT:az_ w t A X)(hU:az_ w u C Y)
 (hne:cg_ t u X Y how budget≠0):
 Calls prog 81 #[.agg #[.slice t.aa t.na t.ca,.slice t.an t.nn t.cn],.agg #[.slice u.aa u.na u.ca,.slice u.an u.nn u.cn],.int .i64 how,.int .i64 budget] w
  fun e w'=>e= .returned (.tuple #[.agg #[.slice none 0 0,.slice none 0 0],.int .i64 (cg_ t u X Y how budget)])/\Bl w w':=by
 by_cases k:Ο t X=false\/Ο u Y=false\/how<0\/3<how
 . exact abf_ t u A C X Y how budget w hT hU k
 . have b:Ο t X=true:=by cases h:Ο t X<;>simp_all
   have c:Ο u Y=true:=by cases h:Ο u Y<;>simp_all
   have a:budget<1\/40<budget:=by
    by_cases a:budget<1\/40<budget
    . exact a
    . exact absurd (by simp only[cg_,b,c];rw[if_neg d_,if_neg d_,if_neg o_,if_neg a]) hne
   have g:cg_ t u X Y how budget=8:=by simp only[cg_,b,c];rw[if_neg d_,if_neg d_,if_neg o_,if_pos a]
   obtain⟨V,f,j⟩:=ex_ hT b;obtain⟨U,d,i⟩:=ex_ hU c;simp only[aj_.val]at f d;rw[f,d,g];exact abe_ V U (by_ t A X) (by_ u C Y) how budget w (fd_ b) (fd_ c) j i o_ o_ a
theorem abg_ (t u:aj_)(A C:Nat->Bool)(X Y:Nat->Nat->Int)(how budget:Int)(w:World)(hT:az_ w t A X)(hU:az_ w u C Y)(hne:cg_ t u X Y how budget≠0):
 Calls prog 40 #[.agg #[.slice t.aa t.na t.ca,.slice t.an t.nn t.cn],.agg #[.slice u.aa u.na u.ca,.slice u.an u.nn u.cn],.int .i64 how,.int .i64 budget] w
  fun e w'=>e= .returned (.tuple #[.agg #[.slice none 0 0,.slice none 0 0],.int .i64 (cg_ t u X Y how budget)])/\Bl w w':=by
 obtain⟨W,d,a,-,-,h⟩:=fe_ w #[.slice t.aa t.na t.ca,.slice t.an t.nn t.cn] 41 #[.slice u.aa u.na u.ca,.slice u.an u.nn u.cn] 41 #[.slice none 0 0,.slice none 0 0] 41;have m:W.heap.size=w.heap.size+1+1+1:=by rw[d];simp
 have f:=qq_ t u A C X Y how budget W (hT.below a) (hU.below a) hne;clear hT hU hne;go_enter func40,ntmps40;go_wp2_with fail;rw[<-d];clear d;refine f.mono ?_;rintro e s ⟨rfl,c⟩;have g:=(c.block _ o_).trans h;have i:=η a c;have j:Hid _:=av_ i (b:=w.heap.size+1+1) o_ (.slice none 0 0) (.slice none 0 0);obtain⟨p,q,n,o⟩:=β g;clear f c h;go_wp2_with fail;obtain⟨k,l,r⟩:=Φ (u:= .slice none 0 0) (v:= .slice none 0 0) g;refine bodyPost_ret (v:= .tuple #[.agg #[.slice none 0 0,.slice none 0 0],.int .i64 (cg_ t u X Y how budget)]) (by simp[results,results40,go_sem,k,l]) rfl ?_;exact⟨rfl,j.out⟩
theorem t5_ (t:aj_)(X:Nat->Nat->Int)(how budget:Int)(hok:Ο t X=false):cg_ t t X X how budget=6:=by simp[cg_,hok]
theorem abh_ (t:aj_)(A:Nat->Bool)(X:Nat->Nat->Int)(w:World)(hT:az_ w t A X)(hok:Ο t X=false):Calls prog 81 #[.agg #[.slice t.aa t.na t.ca,.slice t.an t.nn t.cn],.agg #[.slice t.aa t.na t.ca,.slice t.an t.nn t.cn],.int .i64 0,.int .i64 40] w
 fun e w'=>e= .returned (.tuple #[.agg #[.slice none 0 0,.slice none 0 0],.int .i64 6])/\Bl w w':=by
 have:=qq_ t t A A X X 0 40 w hT hT (by rw[t5_ t X 0 40 hok];decide);rw[t5_ t X 0 40 hok]at this;exact this
theorem abi_ (t:aj_)(A:Nat->Bool)(X:Nat->Nat->Int)(w:World)(hT:az_ w t A X)(hok:Ο t X=false):
 Calls prog 79 #[.agg #[.slice t.aa t.na t.ca,.slice t.an t.nn t.cn]] w
  fun e w'=>e= .returned (.tuple #[.agg #[.slice none 0 0,.slice none 0 0],.int .i64 6])/\Bl w w':=by
 obtain⟨W,c,d,-,h⟩:=bl_ w #[.slice t.aa t.na t.ca,.slice t.an t.nn t.cn] 41 #[.slice none 0 0,.slice none 0 0] 41;have m:W.heap.size=w.heap.size+1+1:=by rw[c];simp
 have f:=abh_ t A X W (hT.below d) hok;clear hT hok;go_enter func79,ntmps79;go_wp2_with fail;rw[<-c];clear c;refine f.mono ?_;rintro e s ⟨rfl,a⟩;have g:=(a.block _ o_).trans h;have i:=η d a;have j:Hid _:=av_ i (b:=w.heap.size+1) o_ (.slice none 0 0) (.slice none 0 0);obtain⟨p,q,n,o⟩:=β g;clear f a h;go_wp2_with fail;obtain⟨k,l,r⟩:=Φ (u:= .slice none 0 0) (v:= .slice none 0 0) g;refine bodyPost_ret (v:= .tuple #[.agg #[.slice none 0 0,.slice none 0 0],.int .i64 6]) (by simp[results,results79,go_sem,k,l]) rfl ?_;exact⟨rfl,j.out⟩
theorem abj_ (t:aj_)(A:Nat->Bool)(X:Nat->Nat->Int)(w:World)(hT:az_ w t A X)(hok:Ο t X=false):
 Calls prog 36 #[.agg #[.slice t.aa t.na t.ca,.slice t.an t.nn t.cn]] w
  fun e w'=>e= .returned (.tuple #[.agg #[.slice none 0 0,.slice none 0 0],.int .i64 6])/\Bl w w':=by
 obtain⟨W,c,d,-,h⟩:=bl_ w #[.slice t.aa t.na t.ca,.slice t.an t.nn t.cn] 41 #[.slice none 0 0,.slice none 0 0] 41;have m:W.heap.size=w.heap.size+1+1:=by rw[c];simp
 have f:=abi_ t A X W (hT.below d) hok;clear hT hok;go_enter func36,ntmps36;go_wp2_with fail;rw[<-c];clear c;refine f.mono ?_;rintro e s ⟨rfl,a⟩;have g:=(a.block _ o_).trans h;have i:=η d a;have j:Hid _:=av_ i (b:=w.heap.size+1) o_ (.slice none 0 0) (.slice none 0 0);obtain⟨p,q,n,o⟩:=β g;clear f a h;go_wp2_with fail;obtain⟨k,l,r⟩:=Φ (u:= .slice none 0 0) (v:= .slice none 0 0) g;refine bodyPost_ret (v:= .tuple #[.agg #[.slice none 0 0,.slice none 0 0],.int .i64 6]) (by simp[results,results36,go_sem,k,l]) rfl ?_;exact⟨rfl,j.out⟩
def ρ.raw (V:ρ)(n:Nat):aj_:=⟨some ⟨V.ba,V.oa,none⟩,some ⟨V.bn,V.on,none⟩,n,V.ca,n,V.cn,fun i=>some ⟨V.rb i,V.ro i,none⟩,fun _=>8,V.rc⟩
theorem π.raw {w:World}{V:ρ}{M:γ}(h:π w V M)(hM:M.Ok):az_ w (V.raw M.n) M.acc (fun i c=>(M.b7 i c:Int)):=by
 have:=hM.hi;exact⟨by simp only[ρ.raw];omega,by simp only[ρ.raw];omega,fun i hi=>by simp only[ρ.raw];omega,fun i hi=>⟨_,_,rfl,h.acc i hi⟩,fun i hi=>⟨_,_,rfl,h.row i hi⟩,fun i c hi hc=>⟨_,_,rfl,h.cT i c hi hc⟩⟩
theorem abk_ (U:ρ)(t:aj_)(A:Nat->Bool)(X:Nat->Nat->Int)(w:World)(hT:az_ w t A X)(hok:Ο t X=false)(hU:π w U km_):Calls prog 81 #[.agg #[.slice (some ⟨U.ba,U.oa,none⟩) (1:Nat) U.ca,.slice (some ⟨U.bn,U.on,none⟩) (1:Nat) U.cn],.agg #[.slice t.aa t.na t.ca,.slice t.an t.nn t.cn],.int .i64 2,.int .i64 40] w
 fun e w'=>e= .returned (.tuple #[.agg #[.slice none 0 0,.slice none 0 0],.int .i64 6])/\Bl w w':=by
 have e:cg_ (U.raw km_.n) t (fun i c=>(km_.b7 i c:Int)) X 2 40=6:=by simp[cg_,hok]
 have:=qq_ (U.raw km_.n) t _ A _ X 2 40 w (hU.raw aar_) hT (by rw[e];decide);rw[e]at this;exact this
theorem abl_ (t:aj_)(A:Nat->Bool)(X:Nat->Nat->Int)(w:World)(hT:az_ w t A X)(hok:Ο t X=false):
 Calls prog 80 #[.agg #[.slice t.aa t.na t.ca,.slice t.an t.nn t.cn]] w
  fun e w'=>e= .returned (.tuple #[.agg #[.slice none 0 0,.slice none 0 0],.int .i64 6])/\Bl w w':=by
 obtain⟨W,h,d,n,o⟩:=bl_ w #[.slice t.aa t.na t.ca,.slice t.an t.nn t.cn] 41 #[.slice none 0 0,.slice none 0 0] 41;have E:W.heap.size=w.heap.size+1+1:=by rw[h];simp
 have q:=hT.below d;go_enter func80,ntmps80;go_wp2_with fail;rw[<-h];clear h hT;refine(aas_ W).mono ?_;rintro e r ⟨U,rfl,p,a⟩;have F:=a.size;obtain⟨j,i,c,-,-⟩:=ν r #[.slice (some ⟨U.ba,U.oa,none⟩) 1 U.ca,.slice (some ⟨U.bn,U.on,none⟩) 1 U.cn] 41;have G:=c.size;have k:=(a.block _ o_).trans n;have l:=(c.block _ o_).trans ((a.block _ o_).trans o);have s:Bl w j:=(d.trans (a.mono o_)).trans (c.mono o_);have f:=abk_ U t A X j ((q.below a).below c) hok (p.below c);clear q p a c n o d hok;obtain⟨C,D,_,_⟩:=β k;have H:w.heap.size<r.heap.size:=o_;rw[i]at f;go_wp2_with fail;refine f.mono ?_;rw[<-i];clear f i;rintro e N ⟨rfl,g⟩;have m:=(g.block _ o_).trans l;have x:=η s g;have y:Hid _:=av_ x (b:=w.heap.size+1) o_ (.slice none 0 0) (.slice none 0 0);obtain⟨K,L,I,J⟩:=β m;clear g l C D k;go_wp2_with fail;obtain⟨z,B,M⟩:=Φ (u:= .slice none 0 0) (v:= .slice none 0 0) m;refine bodyPost_ret (v:= .tuple #[.agg #[.slice none 0 0,.slice none 0 0],.int .i64 6]) (by simp[results,results80,go_sem,z,B]) rfl ?_;exact⟨rfl,y.out⟩
theorem abm_ (t:aj_)(A:Nat->Bool)(X:Nat->Nat->Int)(w:World)(hT:az_ w t A X)(hok:Ο t X=false):
 Calls prog 38 #[.agg #[.slice t.aa t.na t.ca,.slice t.an t.nn t.cn]] w
  fun e w'=>e= .returned (.tuple #[.agg #[.slice none 0 0,.slice none 0 0],.int .i64 6])/\Bl w w':=by
 obtain⟨W,c,d,-,h⟩:=bl_ w #[.slice t.aa t.na t.ca,.slice t.an t.nn t.cn] 41 #[.slice none 0 0,.slice none 0 0] 41;have m:W.heap.size=w.heap.size+1+1:=by rw[c];simp
 have f:=abl_ t A X W (hT.below d) hok;clear hT hok;go_enter func38,ntmps38;go_wp2_with fail;rw[<-c];clear c;refine f.mono ?_;rintro e s ⟨rfl,a⟩;have g:=(a.block _ o_).trans h;have i:=η d a;have j:Hid _:=av_ i (b:=w.heap.size+1) o_ (.slice none 0 0) (.slice none 0 0);obtain⟨p,q,n,o⟩:=β g;clear f a h;go_wp2_with fail;obtain⟨k,l,r⟩:=Φ (u:= .slice none 0 0) (v:= .slice none 0 0) g;refine bodyPost_ret (v:= .tuple #[.agg #[.slice none 0 0,.slice none 0 0],.int .i64 6]) (by simp[results,results38,go_sem,k,l]) rfl ?_;exact⟨rfl,j.out⟩
def dq_ (r:aj_)(A:Nat->Bool)(X:Nat->Nat->Int)(s:ByteArray):Bool×Int:=
 if Ο r X=true then
  if (decide (s.size<=1000)&&as_ s s.size)=true then((by_ r A X).b6 (ar_ s),0)else(false,7)
 else(false,6)
theorem abn_ (r:aj_)(A:Nat->Bool)(X:Nat->Nat->Int)(s:ByteArray)(w:World)(h:az_ w r A X)(hs:s.size<=maxLen):
 Calls prog 74 #[.agg #[.slice r.aa r.na r.ca,.slice r.an r.nn r.cn],.string s] w
  fun e w'=>e= .returned (.tuple #[.bool (dq_ r A X s).1,.int .i64 (dq_ r A X s).2])/\Bl w w':=by
 unfold maxLen at hs;have c:Bl w (w.alloc (.cells #[.slice r.aa r.na r.ca,.slice r.an r.nn r.cn] 41)):=μ.alloc ι _;have b:=h.below c;have d:=oa_ r A X _ b;cases hok:Ο r X
 . have e:dq_ r A X s=(false,6):=by simp[dq_,hok]
   rw[e];rw[hok]at d;clear e h b hok;go_enter func74,ntmps74;go_wp2_with fail;refine d.mono ?_;rintro e j ⟨rfl,a⟩;have g:Bl w j:=c.trans (a.mono i_);clear d a;go_wp2_with fail;go_ret2;exact⟨rfl,g⟩
 . by_cases x:s.size<=1000
   . by_cases f:as_ s s.size=true
     . have e:dq_ r A X s=((by_ r A X).b6 (ar_ s),0):=by simp[dq_,hok,f,x]
       rw[e];obtain⟨V,l,p⟩:=ex_ h hok;have:=xc_ V _ s w (fd_ hok) p ((jg_ s).1 f) x;rw[<-l]at this;exact this
     . have e:dq_ r A X s=(false,7):=by simp[dq_,hok,f]
       rw[e];obtain⟨V,l,p⟩:=ex_ h hok;have o:=fd_ (A:=A) hok;generalize by_ r A X=M at*;have B:Value.agg #[.slice r.aa r.na r.ca,.slice r.an r.nn r.cn]=_:=l;rw[B];clear e d b h l B c;have O:=o.lo;have L:=o.hi;have c:Bl w (w.alloc (.cells #[.slice (some ⟨V.ba,V.oa,none⟩) M.n V.ca,.slice (some ⟨V.bn,V.on,none⟩) M.n V.cn] 41)):=μ.alloc ι _;have b:=p.below c;go_enter func74,ntmps74;go_wp2_with fail;refine(jf_ V M _ o b).mono ?_;rintro e j ⟨rfl,a⟩;have F:=(bc_ a).1 w.heap.size 0 i_;have G:=(bc_ a).1 w.heap.size 1 i_;have m:=b.below a;have g:Bl w j:=c.trans (a.mono i_);simp at F G;clear p b a;go_wp2_with fail;go_loop [6,7,8,9] (fun st i _ _=>∃k q:Nat,k<=s.size/\q<M.n/\i= .int .i64 k/\st= .int .i64 q/\as_ s k=true) (fun _ i _ _=>s.size - (intOf i).toNat)
       case atStart=>exact⟨0,0,zero_le _,o_,rfl,rfl,rfl⟩
       case round=>
        obtain⟨k,q,N,y,rfl,rfl,u⟩:=hrel;by_cases H:k<s.size
        . have v:=l0_ s k H;have z:as_ s (k+1)=(decide (97<=s[k].toNat)&&decide (s[k].toNat<=104)):=by simp only[as_,u,Bool.true_and,v]
          by_cases D:97<=s[k].toNat/\s[k].toNat<=104
          . have E:Hid (as_ s (k+1)=true):=by unfold Hid;rw[z];simp[D.1,D.2]
            have C:(s[k].toNat - 97:Nat)<8:=o_;have t:97<=(s[k].toNat:Int)/\(s[k].toNat:Int)<=104:=o_;have P:=m.row q y;have K:=m.cT q _ y C;have I:=o.nx q _ y C;have J:((s[k].toNat:Int)- 97).toNat=s[k].toNat - 97:=o_;clear m z v u f;go_wp2_with (go_at_call 121;refine(pm_ _ _ t.1 t.2).mono ?_;rintro e w' ⟨rfl,rfl⟩);go_round
            case rel=>exact⟨k+1,_,o_,I,by go_num,rfl,E.out⟩
            case measure=>exact c_
          . have t:(s[k].toNat:Int)<97\/104<(s[k].toNat:Int):=o_;clear m z v u f;go_wp2_with (go_at_call 121;refine(w6_ _ _ t).mono ?_;rintro e w' ⟨rfl,rfl⟩);go_ret2;exact⟨rfl,g⟩
        . exfalso;have e:k=s.size:=o_;subst e;exact f u
   . have e:dq_ r A X s=(false,7):=by simp[dq_,hok,x]
     rw[e];rw[hok]at d;clear e h b hok;go_enter func74,ntmps74;go_wp2_with fail;refine d.mono ?_;rintro e j ⟨rfl,a⟩;have g:Bl w j:=c.trans (a.mono i_);clear d a;go_wp2_with fail;go_ret2;exact⟨rfl,g⟩
theorem abo_ (r:aj_)(A:Nat->Bool)(X:Nat->Nat->Int)(s:ByteArray)(w:World)(h:az_ w r A X)(hs:s.size<=maxLen):
 Calls prog 32 #[.agg #[.slice r.aa r.na r.ca,.slice r.an r.nn r.cn],.string s] w
  fun e w'=>e= .returned (.tuple #[.bool (dq_ r A X s).1,.int .i64 (dq_ r A X s).2])/\Bl w w':=by
 have a:Bl w (w.alloc (.cells #[.slice r.aa r.na r.ca,.slice r.an r.nn r.cn] 41)):=μ.alloc ι _;have b:=h.below a;go_enter func32,ntmps32;go_wp2_with fail;refine(abn_ r A X s _ b hs).mono ?_;rintro e d ⟨rfl,c⟩;go_wp2
 go_ret2;exact⟨rfl,a.trans (c.mono i_)⟩
theorem abp_ (r:aj_)(A:Nat->Bool)(X:Nat->Nat->Int)(s:ByteArray)(w:World)(h:az_ w r A X)(hs:s.size<=maxLen):
 Calls prog 33 #[.agg #[.slice r.aa r.na r.ca,.slice r.an r.nn r.cn],.string s] w
  fun e w'=>e= .returned (.tuple #[.bool (dq_ r A X s).1,.int .i64 (dq_ r A X s).2])/\Bl w w':=by
 have c:Bl w (w.alloc (.cells #[.slice r.aa r.na r.ca,.slice r.an r.nn r.cn] 41)):=μ.alloc ι _;have b:=h.below c;have d:=lk_ r A X _ b;cases hok:Ο r X
 . have e:dq_ r A X s=(false,6):=by simp[dq_,hok]
   rw[e];rw[hok]at d;clear e h b hok;go_enter func33,ntmps33;go_wp2_with fail;refine d.mono ?_;rintro e g ⟨rfl,a⟩;have f:Bl w g:=c.trans (a.mono i_);clear d a;go_wp2_with fail;go_ret2;exact⟨rfl,f⟩
 . rw[hok]at d;cases ht:(decide (s.size<=1000)&&as_ s s.size)
   . have e:dq_ r A X s=(false,7):=by simp only[dq_,hok,ht];rfl
     rw[e];have i:∀w,Calls prog 61 #[.string s,.int .i64 1000] w fun e w'=>e= .returned (.bool false)/\w'=w:=fun w=>by
      have:=ko_ s 1000 w hs o_;rw[ht]at this;exact this
     clear e h b hok ht;go_enter func33,ntmps33;go_wp2_with fail;refine d.mono ?_;rintro e g ⟨rfl,a⟩;have f:Bl w g:=c.trans (a.mono i_);clear d a;go_wp2_with (go_at_call 61;refine(i _).mono ?_;rintro e w' ⟨rfl,rfl⟩);go_ret2;exact⟨rfl,f⟩
   . have e:dq_ r A X s=((by_ r A X).b6 (ar_ s),0):=by simp only[dq_,hok,ht];rfl
     rw[e];have i:∀w,Calls prog 61 #[.string s,.int .i64 1000] w fun e w'=>e= .returned (.bool true)/\w'=w:=fun w=>by
      have:=ko_ s 1000 w hs o_;rw[ht]at this;exact this
     obtain⟨V,j,m⟩:=ex_ h hok;have l:=fd_ (A:=A) hok;generalize by_ r A X=M at*;simp only[Bool.and_eq_true,decide_eq_true_eq]at ht;have p:=(jg_ s).1 ht.2;have v:=ht.1;have k:Value.agg #[.slice r.aa r.na r.ca,.slice r.an r.nn r.cn]=_:=j;rw[k];clear e d b h hok ht j k c;have c:Bl w (w.alloc (.cells #[.slice (some ⟨V.ba,V.oa,none⟩) M.n V.ca,.slice (some ⟨V.bn,V.on,none⟩) M.n V.cn] 41)):=μ.alloc ι _;have b:=m.below c;go_enter func33,ntmps33;go_wp2_with fail;refine(kn_ V M _ l b).mono ?_;rintro e g ⟨rfl,a⟩;have f:Bl w g:=c.trans (a.mono i_);have o:=b.below a;have t:=(bc_ a).1 w.heap.size 0 i_;have u:=(bc_ a).1 w.heap.size 1 i_;simp at t u;clear b m a;go_wp2_with (go_at_call 61;refine(i _).mono ?_;rintro e w' ⟨rfl,rfl⟩);refine(aax_ V M s _ l o p v).mono ?_;rintro e x ⟨rfl,q⟩;go_wp2
     go_ret2;exact⟨rfl,f.trans (q.mono f.size)⟩
theorem abq_ (c:Nat)(w:World)(h:c<8):
 Calls prog 122 #[.int .i64 c] w fun e w'=>e= .returned (.string ⟨#[g2_ c]⟩)/\w'=w:=by
 rcases (show c=0\/c=1\/c=2\/c=3\/c=4\/c=5\/c=6\/c=7 by omega)with rfl|rfl|rfl|rfl|rfl|rfl|rfl|rfl
 all_goals
  go_enter func122,ntmps122;go_wp2
  go_ret;refine⟨?_,rfl⟩;rfl
def od_:Array Value:=Array.replicate 40 (.bool false)
theorem abr_ (w:World):Sem.run prog (zeroValue 153) w= .ok (.agg od_) w:=k_
theorem abs_:(prog.info? 155).map (fun i=>(i.zero,i.size,i.bytes))=some (some (.agg #[.int .i64 0,.string ⟨#[]⟩]),2,24):=k_
def hg_ (ps:List Nat)(bs:List ByteArray)(n:Nat):List Value:=(List.range n).flatMap fun j:Nat=> [.int .i64 ((ps.getD j 0:Nat):Int),.string (bs.getD j ⟨#[]⟩)]
theorem mt_ (ps:List Nat)(bs:List ByteArray)(n:Nat):hg_ ps bs (n+1)=hg_ ps bs n++ [.int .i64 ((ps.getD n 0:Nat):Int),.string (bs.getD n ⟨#[]⟩)]:=by
 simp[hg_,range_succ]
theorem mu_ (ps:List Nat)(bs:List ByteArray)(n:Nat):(hg_ ps bs n).length=n*2:=by
 induction n with
 |zero=>rfl
 |succ n ih=>rw[mt_,Μ,ih];simp;omega
theorem abt_ (ps:List Nat)(bs:List ByteArray)(n k:Nat)(hk:k<n):(hg_ ps bs n)[k*2]? =some (.int .i64 ((ps.getD k 0:Nat):Int))/\(hg_ ps bs n)[k*2+1]? =some (.string (bs.getD k ⟨#[]⟩)):=by
 induction n with
 |zero=>omega
 |succ n ih=>
  rw[mt_];by_cases e:k=n
  . subst e;rw[getElem?_append_right (by rw[mu_];exact ι),getElem?_append_right (by rw[mu_];omega),mu_];simp
  . rw[gl_ (by rw[mu_];omega),gl_ (by rw[mu_];omega)];exact ih o_
theorem abu_ {ps':List Nat}{bs bs':List ByteArray}(h1:∀j,j<n->ps.getD j 0=ps'.getD j 0)(h2:∀j,j<n->bs.getD j ⟨#[]⟩=bs'.getD j ⟨#[]⟩):hg_ ps bs n=hg_ ps' bs' n:=by
 induction n with
 |zero=>rfl
 |succ n ih=>rw[mt_,mt_,ih (fun j hj=>h1 j o_) (fun j hj=>h2 j o_),h1 n o_,h2 n o_]
structure kq_ (W:World)(m:Nat)(w:World)(ps:List Nat)(bs:List ByteArray)(vq:Value):Prop where
 cz:Below m W w
 met:w.rowIs m 153 40 (fun q=> .bool (decide (q∈ps)))
 own:w.ownsRow (m+1) 155 2 vq ps.length (hg_ ps bs ps.length)
structure oe_ (W:World)(m H:Nat)(w:World)(ps:List Nat)(bs:List ByteArray)(vq:Value)(s:Nat)(t:ByteArray):Prop where
 mem:kq_ W m w ps bs vq
 here:w.heap[H]? =some (.cells #[.int .i64 (s:Int),.string t] 155 (0,0))
 lo:m+1<=H
 dq:vq.ownBlock≠some H
section
variable {W:World} {m H:Nat} {w w2:World} {ps:List Nat} {bs:List ByteArray} {vq:Value} {s:Nat} {t:ByteArray}
theorem kq_.alloc (h:kq_ W m w ps bs vq)(o:Obj):kq_ W m (w.alloc o) ps bs vq:=
 ⟨h.cz.alloc (by have:=h.met.lt;omega) o,h.met.alloc o,h.own.alloc o⟩
theorem oe_.mark (h:oe_ W m H w ps bs vq s t)(q:Nat):Below m W (w.setCell ⟨m,q,none⟩ (.bool true))/\(w.setCell ⟨m,q,none⟩ (.bool true)).rowIs m 153 40 (fun x=> .bool (decide (x∈ps++ [q])))/\
 (w.setCell ⟨m,q,none⟩ (.bool true)).ownsRow (m+1) 155 2 vq ps.length (hg_ ps bs ps.length)/\(w.setCell ⟨m,q,none⟩ (.bool true)).heap[H]? =some (.cells #[.int .i64 (s:Int),.string t] 155 (0,0)):=by
 have a:=h.lo;refine⟨h.mem.cz.setCell (p:=⟨m,q,none⟩) ι _,(h.mem.met.set q _).congr (fun x _=> ?_),ownsRow_setCell_below h.mem.own i_ _,a3_ h.here s_⟩;by_cases e:x=q
 . simp[e]
 . simp[e]
end
def kr_ (M:γ)(w:World)(e:Ending)(w':World):Prop:=
 Bl w w'/\
  ((∃s:ByteArray,e= .returned (.tuple #[.string s,.bool true,.int .i64 0])/\dh_ s/\s.size<=40/\M.b6 (ar_ s)=true/\∀y,Γ y->M.b6 y=true->sle (ar_ s) y)\/
   (e= .returned (.tuple #[.string ⟨#[]⟩,.bool false,.int .i64 0])/\∀y,Γ y->M.b6 y=false))
theorem of_ (s t:ByteArray):ar_ (s++t)=ar_ s++ar_ t:=by
 have:(s++t).data=s.data++t.data:=by simp[ByteArray.data_append]
 simp only[ar_,this,Array.toList_append,map_append]
theorem og_ (c:Nat)(h:c<8):ar_ ⟨#[g2_ c]⟩=[c]:=by
 simp only[ar_,map_cons,map_nil];rw[ry_ c h];simp
theorem qr_ (l:List ByteArray)(x:ByteArray)(i:Nat)(h:i<l.length):(l++ [x]).getD i ⟨#[]⟩=l.getD i ⟨#[]⟩:=by
 simp[gd_,gl_ h]
theorem t6_ (l:List ByteArray)(x:ByteArray):(l++ [x]).getD l.length ⟨#[]⟩=x:=by simp[gd_]
theorem oh_ (bs:List ByteArray)(j:Nat):(bs.map ar_).getD j []=ar_ (bs.getD j ⟨#[]⟩):=by
 rw[gd_,getElem?_map,gd_];cases bs[j]? <;>rfl
structure QT (M:γ)(ps:List Nat)(bs:List ByteArray)(p:Nat):Prop where
 q:fl_ M ps (bs.map ar_) p
 txt:∀j,j<bs.length->dh_ (bs.getD j ⟨#[]⟩)
theorem QT.len {M:γ}{bs:List ByteArray}(h:QT M ps bs p):bs.length=ps.length:=by have:=h.q.len;simpa using this
theorem QT.size {M:γ}{bs:List ByteArray}(h:QT M ps bs p)(j:Nat)(hj:j<ps.length):(bs.getD j ⟨#[]⟩).size<=j:=by
 have:=(h.q.rd j hj).2.2;rw[oh_,lz_]at this;exact this
theorem QT.bound {M:γ}{bs:List ByteArray}(h:QT M ps bs p):ps.length<=M.n:=i2_ _ _ h.q.rel.nd h.q.rel.inr
theorem abv_ (V:ρ)(M:γ)(w:World)(hM:M.Ok)(hV:π w V M):
 Calls prog 77 #[.agg #[.slice (some ⟨V.ba,V.oa,none⟩) M.n V.ca,.slice (some ⟨V.bn,V.on,none⟩) M.n V.cn]] w (kr_ M w):=by
 have hz:=abr_;have l1:=hM.lo;have l2:=hM.hi;obtain⟨i0,hi,aF,aG,aH⟩:=info_parts abs_;obtain⟨W,Y,BW,-,-⟩:=ν w #[.slice (some ⟨V.ba,V.oa,none⟩) M.n V.ca,.slice (some ⟨V.bn,V.on,none⟩) M.n V.cn] 41;have aN:W.heap.size=w.heap.size+1:=by rw[Y];simp
 have b0:=aw_ Y;have ae:=hV.below BW;go_enter func77,ntmps77;go_wp2_with fail;rw[<-Y];clear Y;refine(jf_ V M W hM ae).mono ?_;rintro e b ⟨rfl,N⟩;have aP:=N.size;have aj:=η BW N;have a0:=(N.block _ o_).trans b0;have af:=ae.below N;clear N ae hV BW b0;obtain⟨K,O⟩:=af_ (b.alloc (.cells od_ 153));have r4:K.rowIs b.heap.size 153 40 (fun _=> .bool false):=by rw[O];exact⟨_,ο rfl,by simp[od_],fun i hi=>by simp[od_,hi]⟩
 have an:K.heap.size=b.heap.size+1:=by rw[O];simp
 have ai:=ob_ O;have s0:=r4.cell (i:=0) o_;have s1:=r4.frozen 0;have R4:=α r4;clear r4;go_upto_region 4 with fail;rw[<-O];clear O hz;go_wp2_with fail;clear s0 s1;have P0:kq_ b b.heap.size ((K.setCell ⟨b.heap.size,0,none⟩ (.bool true)).alloc (.cells #[.int .i64 0,.string ⟨#[]⟩] 155)) [0] [⟨#[]⟩] (.slice (some ⟨b.heap.size+1,0,none⟩) 1 1):=by
  have hs:(K.setCell ⟨b.heap.size,0,none⟩ (.bool true)).heap.size=b.heap.size+1:=by simp[an]
  refine⟨(ai.setCell (p:=⟨b.heap.size,0,none⟩) ι _).alloc o_ _, ?_, ?_⟩
  . refine((R4.out.set 0 _).alloc _).congr (fun x _=> ?_);by_cases e:x=0
    . subst e;simp
    . simp[e]
  . have:=World.ownsRow_lit (base:=b.heap.size+1) (e:=155) (size:=2) (K.setCell ⟨b.heap.size,0,none⟩ (.bool true)) #[.int .i64 0,.string ⟨#[]⟩] 1 o_ d_ rfl;rw[hs]at this;exact this
 have Q0:QT M [0] [⟨#[]⟩] 0:=⟨fl_.start hM,fun j v=>by
  have:j=0:=by simp at v;omega
  subst this;intro c hc;simp at hc⟩
 clear R4 ai an;go_loopw [6,7] (fun vq at' wr=>∃k:Nat,∃o H,k<=o.length/\at'= .int .i64 k/\QT M o H (8*k)/\(∀j,j<k->M.acc (o.getD j 0)=false)/\kq_ b b.heap.size wr o H vq)
  (fun _ at' _=>40 - (intOf at').toNat)
 case atStart=>exact⟨0,[0],[⟨#[]⟩],i_,rfl,Q0,fun j v=>absurd v o_,P0⟩
 case round=>
  obtain⟨k,o,H,hk,rfl,h,S,d⟩:=hrel;clear P0 Q0;have ax:=h.bound;have A:=d.cz;have J:=η aj A;obtain⟨x0,x1,_,_⟩:=β ((A.block _ o_).trans a0);obtain⟨aq,cq,rfl,F⟩:=Β d.own;have C:=α S;clear S;by_cases z:k<o.length
  . obtain⟨gq,rfl,I⟩:=F o_;have aa:=abt_ o H o.length k z;have y0:=(I (k*2) o_).trans aa.1;have X:=(I (k*2+1) o_).trans aa.2;have T:=h.q.rel.inr _ (fj_ o k z);have ah:=h.txt k (by rw[h.len];exact z);have aD:=h.size k z;have U:=(h.q.rd k z).2.1;rw[oh_]at U;obtain⟨s,D⟩:=δ (o.getD k 0);obtain⟨t,E⟩:=δ (H.getD k ⟨#[]⟩);rw[D.out]at y0 T U;rw[E.out]at X ah aD U;have y2:=(af.below (A.mono ι)).acc s T;have aS:=Χ y2;have aQ:w.heap.size<wr.heap.size:=by have:=d.met.lt;omega
    have au:=α U;have am:=α ah;clear U ah;cases hac:M.acc s
    . rw[hac]at y2;have ab:=α hac;have r:Hid _:=d;have m:Hid _:=h;clear hac d h F I aa;go_wp2_with fail;clear y0 X y2 x0 x1;rename World=>wo
      have al:b.heap.size+1<=wo.heap.size:=by have:=r.out.met.lt;omega
      have R0:oe_ b b.heap.size wo.heap.size (wo.alloc (.cells #[.int .i64 (s:Int),.string t] 155)) o H (.slice (some ⟨gq,0,none⟩) o.length cq) s t:=
       ⟨r.out.alloc _,ο rfl,al,fun e=>by have:=(r.out.own.lt _ e).2;omega⟩
      go_loopw [6,9] (fun vq c' wi=>∃c:Nat,∃a l,c<=8/\c'= .int .i64 c/\k<a.length/\Hid (a.getD k 0=s)/\Hid (l.getD k ⟨#[]⟩=t)/\(∀j,j<k+1->M.acc (a.getD j 0)=false)/\QT M a l (8*k+c)/\oe_ b b.heap.size wo.heap.size wi a l vq s t)
       (fun _ c' _=>8 - (intOf c').toNat)
      case atStart=>
       refine⟨0,o,H,o_,rfl,z,D,E, ?_,m.out,R0⟩;intro j v;by_cases e:j=k
       . subst e;rw[D.out];exact ab.out
       . exact C.out j o_
      case round=>
       clear R0 r m D E C z;obtain⟨c,a,l,hc,rfl,z,D,E,S,h,d⟩:=hrel;have ax:=h.bound;have A:=d.mem.cz;have J:=η aj A;obtain⟨x0,x1,_,_⟩:=β ((A.block _ o_).trans a0);obtain⟨e0,e1,_,_⟩:=β d.here;obtain⟨aI,aJ,rfl,F⟩:=Β d.mem.own;obtain⟨aK,rfl,I⟩:=F o_;have C:=α S;clear S;by_cases R:c<8
       . have y0:=(af.below (A.mono ι)).row s T;have X:=(af.below (A.mono ι)).cT s c T R;have n1:=hM.nx s c T R;obtain⟨f,ak⟩:=δ (M.b7 s c);rw[ak.out]at X n1;have aT:f<40:=o_;have m0:=d.mem.met.cell (i:=f) o_;have m1:=d.mem.met.frozen f;have ac:Hid (M.b7 (a.getD ((8*k+c)/8) 0) ((8*k+c)%8)=f):=by
          unfold Hid;rw[show(8*k+c)/8=k by omega,show(8*k+c)%8=c by omega,D.out];exact ak.out
         have r:=α d;have m:=α h;have HH:=κ d.here;have aO:=d.mem.met.lt;clear d h F I A J;by_cases G:f∈a
         . have Q:decide (f∈a)=true:=by simp[G]
           rw[Q]at m0;have HM:=α G;clear G Q;go_wp2_with fail;go_roundw
           case rel=>
            exact⟨c+1,a,l,o_,by go_num,z,D,E,C.out,⟨m.out.q.old o_ (by rw[ac.out];exact HM.out),m.out.txt⟩,r.out⟩
           case measure=>exact c_
         . have Q:decide (f∈a)=false:=by simp[G]
           rw[Q]at m0;have HM:=α G;clear G Q;obtain⟨L,P⟩:=af_ (wr.setCell ⟨b.heap.size,f,none⟩ (.bool true));have aL:L.heap.size<=wr.heap.size:=by rw[P];simp
           have aM:wr.heap.size<=L.heap.size:=by rw[P];simp
           obtain⟨k1,k2,k3,k4⟩:=r.out.mark f;rw[<-P]at k1 k2 k3 k4;obtain⟨B,ad⟩:∃x:ByteArray,Hid (t++⟨#[g2_ c]⟩=x):=⟨_,rfl⟩;have ag:=k3.alloc (.cells #[.int .i64 (f:Int),.string B] 155);have ay:b.heap.size+1<=(L.alloc (.cells #[.int .i64 (f:Int),.string B] 155)).heap.size:=s_;have K1:=α k1;have K2:Hid _:=k2;have K4:=α k4;obtain⟨e2,e3,_,_⟩:=β k4;have aC:=m.out.len;clear k1 k2 k3 k4;go_upto_region 18 with fail;rw[<-P];clear P;go_wp2_with fail;refine(abq_ c _ R).mono ?_;rintro e w' ⟨rfl,aE⟩;obtain rfl:L=w':=aE.symm;clear e0 e1 x0 x1 y0 X m0 m1;have aR:=ad.out;go_wp2_with (at_builtin;(refine jh_ _ rfl _ _ 156 rfl (b.heap.size+1) 155 i0 (.agg #[.int .i64 0,.string ⟨#[]⟩]) 2 24 underlying156 hi aF aG aH rfl d_ _ a.length (hg_ a l a.length) rfl ag ⟨L.heap.size,0,none⟩ 1 1 [.int .i64 (f:Int),.string B] rfl rfl (cell_two_new _ _ _ _) (by intro u hu;simp at hu;rcases hu with rfl|rfl<;>rfl) d_ u_ o_ ay ?_);intro g av w2 ar ao Z;have HO:Hid _:=ar;have HG:Hid _:=ao;have HF:Hid _:=Z;clear ar ao Z);go_roundw
           case rel=>
            have aA:l.length=a.length:=aC;have hg:=HG.out;have Z:=HF.out;have ho:=HO.out;have aw:hg_ a l a.length++ [.int .i64 (f:Int),.string B]=hg_ (a++ [f]) (l++ [B]) (a++ [f]).length:=by
             rw[Μ,ls_,mt_];congr 1
             . exact abu_ (fun j v=>(b8_ a f j v).symm) (fun j v=>(qr_ l B j o_).symm)
             . rw[nx_,<-aA,t6_]
            rw[aw]at ho
            have G:kq_ b b.heap.size w2 (a++ [f]) (l++ [B]) (.slice (some ⟨g,0,none⟩) (a.length+1) av):=by
             refine⟨?_, ?_, ?_⟩
             . exact(K1.out.alloc o_ _).grown hg s_ (fun x e=>by have:=(ag.lt x e).1;omega)
             . exact hq_ (World.rowIs.alloc K2.out _) hg (fun e=>by have:=(ag.lt _ e).1;omega)
             . have e1:(a++ [f]).length=a.length+1:=i_;rw[e1]at ho ⊢;exact ho
            have aB:M.b7 (a.getD ((8*k+c)/8) 0) ((8*k+c)%8)∉a:=by rw[ac.out];exact HM.out
            have hq:=m.out.q.new hM o_ aB;rw[ac.out,show(8*k+c)/8=k by omega,show(8*k+c)%8=c by omega,oh_,E.out,show ar_ t++ [c]=ar_ B by rw[<-ad.out,of_,og_ c R]]at hq;refine⟨c+1,a++ [f],l++ [B],o_,by go_num,s_,by unfold Hid;rw[b8_ _ _ _ z];exact D.out,by unfold Hid;rw[qr_ _ _ _ o_];exact E.out, ?_,⟨by rw[<-Nat.add_assoc];simpa using hq, ?_⟩,⟨G, ?_,al, ?_⟩⟩
            . intro j v;rw[b8_ _ _ _ o_];exact C.out j v
            . intro j v;by_cases e:j=l.length
              . subst e;rw[t6_,<-ad.out];exact w9_ _ _ am.out (xa_ c R)
              . have ap:j<l.length:=by simp at v;omega
                rw[qr_ _ _ _ ap];exact m.out.txt j ap
            . rw[hg.block _ s_ (fun e=>r.out.dq e.symm),Below.heap_alloc _ _ _ o_];exact K4.out
            . intro e;simp only[Value.ownBlock,Δ]at e;rcases Z with h'|h'
              . exact r.out.dq (by rw[<-e];exact h')
              . simp at h';omega
           case measure=>exact c_
       . have az:c=8:=o_;subst az;have r:=α d;have m:=α h;clear d h F I A J;go_wp2_with fail;go_roundw
         case rel=>
          exact⟨k+1,a,l,o_,by go_num,by rw[show 8*(k+1)=8*k+8 by omega];exact m.out,C.out,r.out.mem⟩
         case measure=>exact c_
    . rw[hac]at y2;have ab:=α hac;have m:=α h;clear hac d h F I aa;go_wp2_with fail;go_ret3
      refine⟨(J.alloc (by have:=J.size;omega) _),.inl ⟨t,rfl,am.out,o_, ?_,fun y hy ha=> ?_⟩⟩
      . rw[γ.b6,au.out];exact ab.out
      . have:=m.out.q.found z C.out y hy ha;rw[oh_,E.out]at this;exact this
  . have he:k=o.length:=o_;subst he;have m:=α h;clear d h F;go_wp2_with fail;go_ret3
    exact⟨J,.inr ⟨rfl,fun y hy=>m.out.q.none C.out y hy⟩⟩
theorem abw_ (V:ρ)(M:γ)(w:World)(hM:M.Ok)(hV:π w V M):
 Calls prog 34 #[.agg #[.slice (some ⟨V.ba,V.oa,none⟩) M.n V.ca,.slice (some ⟨V.bn,V.on,none⟩) M.n V.cn]] w (kr_ M w):=by
 have b:Bl w (w.alloc (.cells #[.slice (some ⟨V.ba,V.oa,none⟩) M.n V.ca,.slice (some ⟨V.bn,V.on,none⟩) M.n V.cn] 41)):=μ.alloc ι _;have h:=hV.below b;go_enter func34,ntmps34;go_wp2_with fail;refine(abv_ V M _ hM h).mono ?_;rintro e m ⟨k,l⟩;have d:=b.trans (k.mono i_);rcases l with ⟨s,rfl,a,i,j,c⟩|⟨rfl,a⟩
 . have g:Hid _:=c;clear c;go_wp2
   go_ret3
   exact⟨d,.inl ⟨s,rfl,a,i,j,g.out⟩⟩
 . have f:Hid _:=a;clear a;go_wp2
   go_ret3
   exact⟨d,.inr ⟨rfl,f.out⟩⟩
def h9_ (f:Nat->Bool):Nat->Bool
 |0=>false
 |c+1=>h9_ f c||f c
theorem t7_ (f:Nat->Bool)(k:Nat):h9_ f k=true↔∃c,c<k/\f c=true:=by
 induction k with
 |zero=>simp[h9_]
 |succ k ih=>
  simp only[h9_,Bool.or_eq_true,ih];constructor
  . rintro(⟨c,a,h⟩|h)
    . exact⟨c,o_,h⟩
    . exact⟨k,o_,h⟩
  . rintro⟨c,a,h⟩;by_cases e:c=k
    . subst e;exact .inr h
    . exact .inl ⟨c,o_,h⟩
def wit (M:γ):Nat->Nat->Bool
 |0,i=>M.acc i
 |k+1,i=>h9_ (fun c=>wit M k (M.b7 i c)) 8
def il_ (n:Nat)(rb ro rc:Nat->Nat)(k:Nat):List Value:=(List.range k).map fun j=> .slice (some ⟨rb j,ro j,none⟩) n (rc j)
theorem abx_ (n:Nat)(rb ro rc:Nat->Nat)(k:Nat):il_ n rb ro rc k++ [.slice (some ⟨rb k,ro k,none⟩) n (rc k)]=il_ n rb ro rc (k+1):=by
 simp[il_,range_succ]
theorem t8_ (n:Nat)(rb ro rc:Nat->Nat)(k j:Nat)(h:j<k):(il_ n rb ro rc k)[j]? =some (.slice (some ⟨rb j,ro j,none⟩) n (rc j)):=by
 simp[il_,h]
theorem aby_ {rb ro rc rb' ro' rc':Nat->Nat}(h:∀j,j<k->rb j=rb' j/\ro j=ro' j/\rc j=rc' j):il_ n rb ro rc k=il_ n rb' ro' rc' k:=by
 unfold il_;apply map_congr_left;intro j a;have:=h j (by simpa using a);rw[this.1,this.2.1,this.2.2]
structure ff_ (W:World)(B:Nat)(w:World)(vl:Value)(k:Nat)(M:γ)(rb ro rc:Nat->Nat):Prop where
 cz:Below B W w
 cQ:B<=w.heap.size
 own:w.ownsRow B 38 1 vl k (il_ M.n rb ro rc k)
 row:∀j,j<k->∀i,i<M.n->w.cell? ⟨rb j,ro j+i,none⟩=some (.bool (wit M j i))
 cX:∀j,j<k->vl.ownBlock≠some (rb j)/\rb j<w.heap.size
section
variable {W:World} {B:Nat} {w w2:World} {vl:Value} {k:Nat} {M:γ} {rb ro rc:Nat->Nat}
theorem ff_.below (h:ff_ W B w vl k M rb ro rc)(hb:Bl w w2):ff_ W B w2 vl k M rb ro rc:=
 ⟨h.cz.trans (hb.mono h.cQ),Nat.le_trans h.cQ hb.size,ao_ h.own hb,fun j hj i hi=>by rw[(bc_ hb).1 _ _ (Χ (h.row j hj i hi))];exact h.row j hj i hi,fun j hj=>⟨(h.cX j hj).1,Nat.lt_of_lt_of_le (h.cX j hj).2 hb.size⟩⟩
theorem ff_.drew (h:ff_ W B w vl k M rb ro rc):ff_ W B w.drew vl k M rb ro rc:=h.below (μ.drew)
theorem ff_.set (h:ff_ W B w vl k M rb ro rc)(a:Addr)(u:Value)(h0:B<=a.block)(h1:vl.ownBlock≠some a.block)(h2:∀j,j<k->rb j≠a.block):ff_ W B (w.setCell a u) vl k M rb ro rc:=
 ⟨h.cz.setCell h0 u,by have:=h.cQ;simpa using this,bg_ h.own a u (fun g e he=>h1 (by rw[e,he])),fun j hj i hi=>by rw[ir_ (by exact h2 j hj)];exact h.row j hj i hi,fun j hj=>⟨(h.cX j hj).1,by have:=(h.cX j hj).2;simpa using this⟩⟩
theorem ff_.app (h:ff_ W B w vl k M rb ro rc){g cap H:Nat}(hown:w2.ownsRow B 38 1 (.slice (some ⟨g,0,none⟩) (k+1) cap) (k+1) (il_ M.n rb ro rc k++ [.slice (some ⟨H,0,none⟩) M.n M.n]))
 (hg:w.grownBy w2 vl.ownBlock) (hf:vl.ownBlock=some g\/g=w.heap.size) (hrow:∀i,i<M.n->w.cell? ⟨H,i,none⟩=some (.bool (wit M k i))) (hH:vl.ownBlock≠some H) (hHs:H<w.heap.size):
 ff_ W B w2 (.slice (some ⟨g,0,none⟩) (k+1) cap) (k+1) M (fun j=>if j=k then H else rb j) (fun j=>if j=k then 0 else ro j) (fun j=>if j=k then M.n else rc j):=by
 have b:=hg.size;refine⟨h.cz.grown hg h.cQ (fun x e=>(h.own.lt x e).1),Nat.le_trans h.cQ b, ?_,fun j hj i hi=> ?_,fun j hj=> ?_⟩
 . rw[<-abx_];simp only[if_true];rw[<-aby_ (rb:=rb) (ro:=ro) (rc:=rc) (fun j hj=>by simp[show j≠k by omega])];exact hown
 . by_cases e:j=k
   . subst e;simp only[if_true,Nat.zero_add];exact hg.cell (hrow i hi) (fun e=>hH e.symm)
   . simp only[if_neg e];exact hg.cell (h.row j o_ i hi) (fun e'=>(h.cX j o_).1 e'.symm)
 . by_cases e:j=k
   . subst e;simp only[if_true,Value.ownBlock,ne_eq,Δ];refine⟨fun e=> ?_,o_⟩;subst e;rcases hf with hf|hf
     . exact hH hf
     . omega
   . simp only[if_neg e,Value.ownBlock,ne_eq,Δ];have a:=h.cX j o_;refine⟨fun e'=> ?_,o_⟩;rcases hf with hf|hf
     . exact a.1 (by rw[hf,e'])
     . omega
end
theorem t9_ (m:Nat)(h:m<=1000):IntKind.i64.wrap ((m:Int)+1 - 1)=(m:Int):=by rw[IntKind.wrap_i64];omega
theorem abz_ (V:ρ)(M:γ)(w:World)(hM:M.Ok)(hV:π w V M):
 Calls prog 78 #[.agg #[.slice (some ⟨V.ba,V.oa,none⟩) M.n V.ca,.slice (some ⟨V.bn,V.on,none⟩) M.n V.cn]] w
  fun e w'=>Bl w w'/\∃(g cap:Nat) (rb ro rc:Nat->Nat),e= .returned (.slice (some ⟨g,0,none⟩) (M.n+1) cap)/\(∀j,j<=M.n->w'.cell? ⟨g,j,none⟩=some (.slice (some ⟨rb j,ro j,none⟩) M.n (rc j)))/\
   ∀j,j<=M.n->∀i,i<M.n->w'.cell? ⟨rb j,ro j+i,none⟩=some (.bool (wit M j i)):=by
 have l1:=hM.lo;have l2:=hM.hi;obtain⟨i0,ah,an,ao,ap⟩:=info_parts aaq_;have aq:=run_make_row' (P:=prog) 38 4 (.bool false) 1 underlying38 hc_ rfl .i64 .i64 M.n o_ o_;obtain⟨W,y,D,-,-⟩:=ν w #[.slice (some ⟨V.ba,V.oa,none⟩) M.n V.ca,.slice (some ⟨V.bn,V.on,none⟩) M.n V.cn] 41;have ad:W.heap.size=w.heap.size+1:=by rw[y];simp
 have H:=aw_ y;have ac:=hV.below D;have T:ff_ W (w.heap.size+1) (W.alloc (.cells #[.slice (some ⟨V.ba,V.oa,none⟩) M.n V.ca] 38)) (.slice (some ⟨w.heap.size+1,0,none⟩) 1 1) 1 M (fun _=>V.ba) (fun _=>V.oa) (fun _=>V.ca):=by
  refine⟨μ.alloc o_ _,s_, ?_,fun j hj i A=> ?_,fun j hj=> ?_⟩
  . have:=World.ownsRow_lit (base:=w.heap.size+1) (e:=38) (size:=1) W #[.slice (some ⟨V.ba,V.oa,none⟩) M.n V.ca] 1 o_ d_ rfl;rw[ad]at this;exact this
  . have:j=0:=o_;subst this;have z:=ac.acc i A;simp only[wit];rw[(bc_ ξ).1 _ _ (Χ z)];exact z
  . have z:=Χ (hV.acc 0 o_);simp only[Value.ownBlock,ne_eq,Δ];exact⟨o_,s_⟩
 go_enter func78,ntmps78;go_wp2_with fail;rw[<-y];clear y;go_loopw [3,4] (fun vl k' wr=>∃m:Nat,∃rb ro rc,m<=M.n/\k'= .int .i64 ((m:Int)+1)/\ff_ W (w.heap.size+1) wr vl (m+1) M rb ro rc)
  (fun _ k' _=>M.n+1 - (intOf k').toNat)
 case atStart=>exact⟨0,_,_,_,o_,rfl,T⟩
 case round=>
  obtain⟨m,rb,ro,rc,hm,rfl,f⟩:=hrel;clear T;have U:=f.cz;have ae:=η D U;obtain⟨x0,x1,_,_⟩:=β ((U.block _ o_).trans H);obtain⟨al,o,rfl,I⟩:=Β f.own;obtain⟨d,rfl,L⟩:=I o_;by_cases aw:m<M.n
  . have b:Hid _:=f;clear f I L;go_wp2_with fail;clear aq;rename World=>wo
    have ak:=b.out.cQ;have O:ff_ W (w.heap.size+1) (wo.alloc (.cells (madeCells #[.bool false] M.n) 4)) (.slice (some ⟨d,0,none⟩) (m+1) o) (m+1) M rb ro rc:=b.out.below ξ;have au:=(b.out.own.lt d rfl).2;go_loopw [6] (fun i' wi=>∃i:Nat,i<=M.n/\i'= .int .i64 i/\ff_ W (w.heap.size+1) wi (.slice (some ⟨d,0,none⟩) (m+1) o) (m+1) M rb ro rc/\
     wi.rowIs wo.heap.size 4 M.n (fun x=> .bool (if x<i then wit M (m+1) x else false)))
     (fun i' _=>M.n - (intOf i').toNat)
    case atStart=>exact⟨0,o_,rfl,O,(h5_ (ο rfl)).congr (fun i _=>i_)⟩
    case round=>
     clear O;obtain⟨i,A,rfl,h,t⟩:=hrel;have X:=h.cz;obtain⟨x0,x1,_,_⟩:=β ((X.block _ o_).trans H);by_cases B:i<M.n
     . have Q:Hid _:=h;have u:=α t;clear h t;go_wp2_with fail;rename World=>wj
       go_loopw [7] (fun c' wi=>∃c:Nat,c<=8/\c'= .int .i64 c/\ff_ W (w.heap.size+1) wi (.slice (some ⟨d,0,none⟩) (m+1) o) (m+1) M rb ro rc/\
        wi.rowIs wo.heap.size 4 M.n (fun x=> .bool (if x<i then wit M (m+1) x else if x=i then h9_ (fun c=>wit M m (M.b7 i c)) c else false)))
        (fun c' _=>8 - (intOf c').toNat)
       case atStart=>
        refine⟨0,o_,rfl,Q.out,u.out.congr (fun x _=> ?_)⟩;by_cases p:x<i
        . simp[p]
        . by_cases r:x=i
          . simp[r,h9_]
          . simp[p,r]
       case round=>
        clear Q u X;obtain⟨c,z,rfl,a,l⟩:=hrel;have J:=a.cz;have K:=η D J;obtain⟨x0,x1,_,_⟩:=β ((J.block _ o_).trans H);by_cases Y:c<8
        . have y0:=(hV.below K).row i B;have y1:=(hV.below K).cT i c B Y;have Z:=hM.nx i c B Y;obtain⟨q,R⟩:=δ (M.b7 i c);rw[R.out]at y1 Z;have z0:=(a.own.cellAt m o_).trans (t8_ _ _ _ _ _ m o_);have z1:=a.row m o_ q Z;have r0:=l.cell B;have r1:=l.frozen i;simp only[Nat.lt_irrefl,if_false,if_true]at r0;obtain⟨v,N⟩:=δ (h9_ (fun c=>wit M m (M.b7 i c)) c);obtain⟨C,S⟩:=δ (wit M m q);rw[N.out]at r0;rw[S.out]at z1;have ab:Hid (h9_ (fun c=>wit M m (M.b7 i c)) (c+1)=(v||C)):=by
           unfold Hid;simp only[h9_];rw[N.out,R.out,S.out]
          have ay:=t9_ m o_;have F:Hid _:=a;have G:=α l;have HD:Hid (∀j,j<m+1->rb j≠wo.heap.size):=fun j hj=>by have:=b.out.cX j hj;omega
          clear a l J K;have k:∀wf:World,Hid (wf=wr.drew)->Hid (ff_ W (w.heap.size+1) (wf.setCell ⟨wo.heap.size,i,none⟩ (.bool (v||C))) (.slice (some ⟨d,0,none⟩) (m+1) o) (m+1) M rb ro rc/\
           (wf.setCell ⟨wo.heap.size,i,none⟩ (.bool (v||C))).rowIs wo.heap.size 4 M.n (fun x=> .bool (if x<i then wit M (m+1) x else if x=i then h9_ (fun c=>wit M m (M.b7 i c)) (c+1)else false))):=by
           intro wf am;rw[am.out];refine⟨F.out.drew.set _ _ (by exact ak) (by simp only[Value.ownBlock,ne_eq,Δ];omega) (fun j hj=>HD.out j hj),(G.out.drew.set i _).congr (fun x _=> ?_)⟩;by_cases e:x=i
           . subst e;simp only[if_true,Nat.lt_irrefl,if_false];rw[ab.out]
           . simp[e]
          cases v
          . cases C
            . go_wp2_with fail;go_region
              go_wp2
              go_roundw
              case rel=>exact⟨c+1,o_,by go_num,(k _ rfl).out.1,(k _ rfl).out.2⟩
              case measure=>exact c_
            . go_wp2_with fail;go_region
              go_wp2
              go_roundw
              case rel=>exact⟨c+1,o_,by go_num,(k _ rfl).out.1,(k _ rfl).out.2⟩
              case measure=>exact c_
          . go_wp2_with fail;go_region
            go_wp2
            go_roundw
            case rel=>exact⟨c+1,o_,by go_num,(k _ rfl).out.1,(k _ rfl).out.2⟩
            case measure=>exact c_
        . have s:c=8:=o_;subst s;have F:Hid _:=a;have G:=α l;clear a l;go_wp2_with fail;go_roundw
          case rel=>
           refine⟨i+1,o_,by go_num,F.out,G.out.congr (fun x _=> ?_)⟩;by_cases p:x<i
           . simp[p,show x<i+1 by omega]
           . by_cases r:x=i
             . subst r;simp[wit]
             . simp[p,r,show¬x<i+1 by omega]
          case measure=>exact c_
     . have s:i=M.n:=o_;subst s;have u:=α t;have E:=h.below (μ.alloc ι (.cells #[.slice (some ⟨wo.heap.size,0,none⟩) M.n M.n] 38));have ai:=E.own;have ax:=h.cQ;have ar:w.heap.size+1<=(wr.alloc (.cells #[.slice (some ⟨wo.heap.size,0,none⟩) M.n M.n] 38)).heap.size:=s_;have aa:Hid _:=E;have av:=t.lt;clear E h t;go_wp2_with (at_builtin;refine Υ underlying108 ah an ao ap ai ?_;intro g cap w2 aj ag af);go_roundw
       case rel=>
        refine⟨m+1,_,_,_,o_,by go_num,aa.out.app aj ag af (fun x hx=> ?_) (by simp only[Value.ownBlock,ne_eq,Δ];omega) s_⟩;have:=(u.out.alloc (.cells #[.slice (some ⟨wo.heap.size,0,none⟩) M.n M.n] 38)).cell hx;simpa [hx] using this
       case measure=>exact c_
  . have s:m=M.n:=o_;subst s;have HC:Hid _:=L;have b:Hid _:=f;clear f I L;go_wp2_with fail;go_ret;refine⟨ae,d,o,rb,ro,rc,rfl,fun j hj=> ?_,fun j hj i A=>b.out.row j o_ i A⟩;rw[HC.out j o_];exact t8_ _ _ _ _ _ j o_
theorem qs_ (M:γ):∀k i,wit M k i=true↔∃x,Γ x/\x.length=k/\M.acc (M.read i x)=true:=by
 intro k;induction k with
 |zero=>
  intro i;constructor
  . intro h;exact⟨[],by intro c g;simp at g,rfl,h⟩
  . rintro⟨x,_,j,h⟩;have:x=[]:=length_eq_zero_iff.1 j;subst this;exact h
 |succ k ih=>
  intro i;simp only[wit,t7_];constructor
  . rintro⟨c,g,h⟩;obtain⟨x,b,e,f⟩:=(ih _).1 h;refine⟨c::x, ?_,by simp[e],f⟩;intro d a;simp only[mc_]at a;rcases a with rfl|a
    . exact g
    . exact b d a
  . rintro⟨x,b,e,f⟩;cases x with
    |nil=>simp at e
    |cons c x=>exact⟨c,b c i_,(ih _).2 ⟨x,fun d a=>b d (by simp[a]),by simpa using e,f⟩⟩
theorem ab0_ {l:List Nat}(h:¬l.Nodup):∃i j,i<j/\j<l.length/\l.getD i 0=l.getD j 0:=by
 apply cc_;intro d;apply h;rw[List.Nodup,pairwise_iff_getElem];intro i j b a c e;apply d;exact⟨i,j,c,a,by simp[gd_,ge_ b,ge_ a,e]⟩
theorem ab1_ {M:γ}(hM:M.Ok):∀m y,y.length<=m->Γ y->M.b6 y=true->∃x,Γ x/\x.length<=M.n/\M.b6 x=true:=by
 intro m;induction m with
 |zero=>intro y p b c;exact⟨y,b,o_,c⟩
 |succ m ih=>
  intro y p b c;by_cases k:y.length<=M.n
  . exact⟨y,b,k,c⟩
  . have l:¬((List.range (y.length+1)).map fun i=>M.read 0 (y.take i)).Nodup:=by
     intro a;have:=i2_ M.n _ a (by
      intro x h;simp only[mem_map,mem_range]at h;obtain⟨i,_,rfl⟩:=h;exact γ.cU hM 0 (by have:=hM.lo;omega) _ (fun d a=>b d (mem_of_mem_take a)))
     simp at this;omega
    obtain⟨i,j,r,f,e⟩:=ab0_ l;simp only[length_map,length_range]at f;have g:∀q,q<y.length+1->((List.range (y.length+1)).map fun i=>M.read 0 (y.take i)).getD q 0=M.read 0 (y.take q):=by
     intro q o;simp[gd_,o]
    rw[g i o_,g j f]at e;refine ih (y.take i++y.drop j) s_ ?_ ?_
    . intro d a;simp only[mp_]at a;rcases a with a|a
      . exact b d (mem_of_mem_take a)
      . exact b d (mem_of_mem_drop a)
    . unfold γ.b6 at c ⊢;rw[γ.cL,e,<-γ.cL,take_append_drop];exact c
def jy_ (M:γ)(K:Nat)(x:List Nat):Prop:=∀y,Γ y->y.length=K->M.b6 y=true->x=y.take x.length\/hn_ x (y.take x.length)
theorem jy_.step {M:γ}{K:Nat}{x:List Nat}(h:jy_ M K x)(hK:x.length+(k+1)=K){c:Nat}(hno:∀d,d<c->wit M k (M.b7 (M.read 0 x) d)=false):jy_ M K (x++ [c]):=by
 intro y g l a;have n:x.length<y.length:=o_;have f:y.take (x.length+1)=y.take x.length++ [y[x.length]]:=(take_append_getElem n).symm;rw[Μ,ls_,f];have m:x.length=(y.take x.length).length:=s_;rcases h y g l a with e|e
 . rw[<-e];have b:wit M k (M.b7 (M.read 0 x) y[x.length])=true:=by
    refine(qs_ M k _).2 ⟨y.drop (x.length+1),fun d b=>g d (mem_of_mem_drop b),s_, ?_⟩;unfold γ.b6 at a;rw[<-γ.cE,<-γ.cL];have:x++ [y[x.length]]++y.drop (x.length+1)=y:=by
     have i:x++ [y[x.length]]=y.take (x.length+1):=by rw[f,<-e]
     rw[i,take_append_drop]
    rw[this];exact a
   have o:c<=y[x.length]:=by
    apply cc_;intro p;have:=hno y[x.length] o_;rw[b]at this;cases this
   by_cases j:c=y[x.length]
   . left;rw[<-j]
   . right;exact s7_ x _ _ o_
 . right;exact s6_ _ _ m e
theorem jy_.nil (M:γ)(K:Nat):jy_ M K []:=fun y _ _ _=> .inl i_
theorem ab2_ (c:Nat)(h:c<8):IntKind.u8.wrap (IntKind.i64.wrap (97+(c:Int)))=97+(c:Int):=by
 rw[IntKind.wrap_i64];have:(97+(c:Int)+9223372036854775808)%18446744073709551616 - 9223372036854775808=97+(c:Int):=o_;rcases (show c=0\/c=1\/c=2\/c=3\/c=4\/c=5\/c=6\/c=7 by omega)with rfl|rfl|rfl|rfl|rfl|rfl|rfl|rfl<;>rfl
theorem ab3_ (V:ρ)(M:γ)(w:World)(hM:M.Ok)(hV:π w V M):
 Calls prog 35 #[.agg #[.slice (some ⟨V.ba,V.oa,none⟩) M.n V.ca,.slice (some ⟨V.bn,V.on,none⟩) M.n V.cn]] w (kr_ M w):=by
 have l1:=hM.lo;have l2:=hM.hi;obtain⟨W,hW,J,ap,r⟩:=ν w #[.slice (some ⟨V.ba,V.oa,none⟩) M.n V.ca,.slice (some ⟨V.bn,V.on,none⟩) M.n V.cn] 41;have P:=hV.below J;go_enter func35,ntmps35;go_wp2_with fail;rw[<-hW];clear hW;refine(kn_ V M W hM P).mono ?_;rintro e w1 ⟨rfl,u⟩;have ay:=u.size;have O:=(u.block _ o_).trans r;have Y:=η J u;have Q:=P.below u;clear r u P J;obtain⟨U,X,_,_⟩:=β O;go_wp2_with fail;refine(abz_ V M w1 hM Q).mono ?_;rintro e w2 ⟨v,g,an,rb,ro,rc,rfl,l,o⟩;have az:=v.size;have r:=(v.block _ o_).trans O;have Z:=η Y v;have z:=Q.below v;clear U X O v Q Y hV;obtain⟨U,X,_,_⟩:=β r;go_wp2_with fail;go_loop [7] (fun k'=>∃k:Nat,k<=M.n+1/\k'= .int .i64 k/\∀j,j<k->wit M j 0=false) (fun k'=>M.n+1 - (intOf k').toNat)
 case atStart=>exact⟨0,o_,rfl,fun j hj=>absurd hj o_⟩
 case round=>
  obtain⟨k,hk,rfl,C⟩:=hrel;by_cases ac:k<M.n+1
  . have y0:=l k o_;have y1:=o k o_ 0 o_;rw[Nat.add_zero]at y1;obtain⟨wk,N⟩:=δ (wit M k 0);rw[N.out]at y1;have F:Hid _:=C;cases wk
    . have HG:Hid _:=l;have HR:Hid _:=o;have K:Hid _:=z;clear C l o z;go_wp2_with fail;go_round
      case rel=>
       refine⟨k+1,o_,by go_num,fun j hj=> ?_⟩;by_cases e:j=k
       . subst e;exact N.out
       . exact F.out j o_
      case measure=>exact c_
    . have ax:((k:Int)==((M.n:Int)+1))=false:=s_;have HG:Hid _:=l;have HR:Hid _:=o;have K:Hid _:=z;clear C l o z;go_wp2_with fail;go_loopw [7,8,9,10] (fun k' s' t' _ wr=>∃(m:Nat) (t:ByteArray),m<=k/\k'= .int .i64 m/\t'= .string t/\dh_ t/\t.size+m=k/\s'= .int .i64 (M.read 0 (ar_ t))/\wit M m (M.read 0 (ar_ t))=true/\jy_ M k (ar_ t)/\Bl w2 wr)
       (fun k' _ _ _ _=>(intOf k').toNat)
      case atStart=>exact⟨k,⟨#[]⟩,o_,rfl,rfl,by intro c G;simp at G,by simp[ByteArray.size],rfl,N.out,jy_.nil M k,μ⟩
      case round=>
       obtain⟨m,t,hm,rfl,rfl,I,T,rfl,D,R,b⟩:=hrel;have H:=γ.cU hM 0 o_ _ (k7_ I);obtain⟨q,p⟩:=δ (M.read 0 (ar_ t));rw[p.out]at H D ⊢;obtain⟨U,X,_,_⟩:=β ((b.block _ o_).trans r);have HA:Hid _:=R;have HT:Hid _:=I;have HB:Hid _:=b;have ab:Hid _:=T;have aA:t.size<=41:=o_;by_cases ak:m=0
       . subst ak;clear I R b T;go_wp2_with fail;go_ret3
         have hz:=ab.out;refine⟨Z.trans (HB.out.mono o_),.inl ⟨t,rfl,HT.out,o_, ?_,fun y hy hya=> ?_⟩⟩
         . unfold γ.b6;rw[p.out];exact D
         . have al:=(qs_ M y.length 0).2 ⟨y,hy,rfl,hya⟩;have au:k<=y.length:=by
            apply cc_;intro ac;have:=F.out y.length o_;rw[al]at this;cases this
           have ad:(ar_ t).length=k:=by rw[lz_];omega
           by_cases B:y.length=k
           . rcases HA.out y hy B hya with h|h
             . left;rw[h,ad,<-B,take_length]
             . right;right;rw[ad,<-B,take_length]at h;exact⟨o_,h⟩
           . right;left;omega
       . obtain⟨a,rfl⟩:∃a,m=a+1:=⟨m - 1,o_⟩;have aw:((a:Int)+1>0):=o_;have ag:∀c,c<8->wr.cell? ⟨V.rb q,V.ro q+c,none⟩=some (.int .i64 (M.b7 q c)):=fun c G=>(K.out.below b).cT q c H G
         have z0:=(K.out.below b).row q H;have av:wr.cell? ⟨g,a,none⟩=some (.slice (some ⟨rb a,ro a,none⟩) M.n (rc a)):=by
          have s:=HG.out a o_;rw[(bc_ b).1 _ _ (Χ s)];exact s
         have af:∀i,i<M.n->wr.cell? ⟨rb a,ro a+i,none⟩=some (.bool (wit M a i)):=fun i hi=>by
          have s:=HR.out a o_ i hi;rw[(bc_ b).1 _ _ (Χ s)];exact s
         simp only[wit,t7_]at D;have ai:Hid _:=D;have aj:Hid _:=ag;have ah:Hid _:=af;have aB:=t9_ a o_;have aq:=b.size;clear I R b T D ag af;rename World=>wo
         go_wp2_with fail;go_loopw [10] (fun c' wr=>∃(c:Nat) (nq:Nat),c<=8/\c'= .int .i64 c/\(∀d,d<c->wit M a (M.b7 q d)=false)/\wr=wo.drewN nq) (fun c' _=>8 - (intOf c').toNat)
         case atStart=>exact⟨0,0,o_,rfl,fun d A=>absurd A o_,rfl⟩
         case round=>
          obtain⟨c,nq,G,rfl,S,rfl⟩:=hrel;have f:c<8:=by
           obtain⟨d,A,h⟩:=ai.out;apply cc_;intro ac;have:=S d o_;rw[h]at this;cases this
          have u0:=aj.out c f;have ae:=hM.nx q c H f;have u1:=ah.out _ ae;obtain⟨nn,E⟩:=δ (M.b7 q c);rw[E.out]at u0 u1 ae;obtain⟨wc,L⟩:=δ (wit M a nn);rw[L.out]at u1;have aa:Hid _:=S;clear S;cases wc
          . go_wp2_with fail;go_quiet (fail);go_wp2_with fail;go_roundw
            case rel=>
             refine⟨c+1,_,o_,by go_num,fun d A=> ?_,rfl⟩;by_cases e:d=c
             . subst e;rw[E.out];exact L.out
             . exact aa.out d o_
            case measure=>exact c_
          . have ar:∀q,Sem.run prog (convert 110 9 (.slice (some ⟨wo.heap.size,0,none⟩) 1 1)) ((wo.drewN q).alloc (.cells #[.int .u8 (97+(c:Int))] 5))= .ok (.string ⟨#[g2_ c]⟩) ((wo.drewN q).alloc (.cells #[.int .u8 (97+(c:Int))] 5)):=fun q=>xk_ c f (wo.drewN q)
            have ao:=ab2_ c f;go_wp2_with fail;go_quiet (fail);go_wp2_with fail;go_roundw
            case rel=>
             have hz:=ab.out;refine⟨a,t++⟨#[g2_ c]⟩,o_,by go_num,rfl,w9_ _ _ HT.out (xa_ c f), ?_, ?_, ?_, ?_, ?_⟩
             . rw[ByteArray.size_append];show t.size+1+a=k;omega
             . rw[of_,og_ c f,γ.cE,p.out,E.out]
             . rw[of_,og_ c f,γ.cE,p.out,E.out];exact L.out
             . rw[of_,og_ c f];refine jy_.step (k:=a) HA.out (by rw[lz_];omega) (fun d A=> ?_);rw[p.out];exact aa.out d A
             . exact(below_drewN HB.out _).alloc s_ _
            case measure=>simp[intOf]
  . have B:k=M.n+1:=o_;subst B;have F:Hid _:=C;clear C l o z;go_wp2_with fail;go_ret3
    refine⟨Z,.inr ⟨rfl,fun y hy=> ?_⟩⟩;cases hya:M.b6 y with
    |false=>rfl
    |true=>
     obtain⟨x,hx,aC,am⟩:=ab1_ hM y.length y ι hy hya;have h1:=F.out x.length o_;have h2:=(qs_ M x.length 0).2 ⟨x,hx,rfl,am⟩;rw[h1]at h2;cases h2
theorem ab4_ (r:aj_)(A:Nat->Bool)(X:Nat->Nat->Int)(w:World)(h:az_ w r A X)(hok:Ο r X=false):
 Calls prog 35 #[.agg #[.slice r.aa r.na r.ca,.slice r.an r.nn r.cn]] w
  fun e w'=>e= .returned (.tuple #[.string ⟨#[]⟩,.bool false,.int .i64 6])/\Bl w w':=by
 have b:Bl w (w.alloc (.cells #[.slice r.aa r.na r.ca,.slice r.an r.nn r.cn] 41)):=μ.alloc ι _;have a:=lk_ r A X _ (h.below b);rw[hok]at a;clear h hok;go_enter func35,ntmps35;go_wp2_with fail;refine a.mono ?_;rintro e f ⟨rfl,c⟩;have d:Bl w f:=b.trans (c.mono i_);clear a c;go_wp2_with fail;go_ret3
 exact⟨rfl,d⟩
theorem ab5_:∀(l m:List UInt8),(∀c∈l,97<=c.toNat)->(∀c∈m,97<=c.toNat)->l.map (fun c=>c.toNat - 97)=m.map (fun c=>c.toNat - 97)->l=m:=by
 intro l;induction l with
 |nil=>intro m _ _ h;cases m with
  |nil=>rfl
  |cons a m=>simp at h
 |cons a l ih=>
  intro m d f h;cases m with
  |nil=>simp at h
  |cons b m=>
   simp only[map_cons,List.cons.injEq]at h;have g:=d a i_;have i:=f b i_;have e:a=b:=by apply UInt8.toNat_inj.1;omega
   rw[e,ih m (fun c hc=>d c (by simp[hc])) (fun c hc=>f c (by simp[hc])) h.2]
theorem ab6_ {s t:ByteArray}(hs:dh_ s)(ht:dh_ t)(h:ar_ s=ar_ t):s=t:=by
 have:=ab5_ s.data.toList t.data.toList (fun c hc=>(hs c (by simpa using hc)).1) (fun c hc=>(ht c (by simpa using hc)).1) h;cases s;cases t
 simp only[ByteArray.mk.injEq]at*;exact Array.toList_inj.1 this
theorem ab7_ {a b:List Nat}(h:sle a b)(h':sle b a):a=b:=by
 rcases h with h|h
 . exact h
 . rcases h' with h'|h'
   . exact h'.symm
   . exact absurd (zy_ h h') (ala_ a)
theorem ab8_ {M:γ}{w1 w2 w1' w2':World}{e1 e2:Ending}(h1:kr_ M w1 e1 w1')(h2:kr_ M w2 e2 w2'):e1=e2/\∃(s:ByteArray) (b:Bool),e1= .returned (.tuple #[.string s,.bool b,.int .i64 0]):=by
 obtain⟨_,h1⟩:=h1;obtain⟨_,h2⟩:=h2;rcases h1 with ⟨s,rfl,e,_,f,h⟩|⟨rfl,a⟩
 . rcases h2 with ⟨t,rfl,c,_,d,g⟩|⟨rfl,a⟩
   . have:=ab6_ e c (ab7_ (h _ (k7_ c) d) (g _ (k7_ e) f));subst this;exact⟨rfl,s,true,rfl⟩
   . have:=a _ (k7_ e);rw[f]at this;cases this
 . rcases h2 with ⟨t,rfl,c,_,d,g⟩|⟨rfl,a⟩
   . have:=a _ (k7_ c);rw[d]at this;cases this
   . exact⟨rfl,_,false,rfl⟩
theorem ab9_ (r:aj_)(A:Nat->Bool)(X:Nat->Nat->Int)(w:World)(h:az_ w r A X)(hok:Ο r X=false):
 Calls prog 77 #[.agg #[.slice r.aa r.na r.ca,.slice r.an r.nn r.cn]] w
  fun e w'=>e= .returned (.tuple #[.string ⟨#[]⟩,.bool false,.int .i64 6])/\Bl w w':=by
 have b:Bl w (w.alloc (.cells #[.slice r.aa r.na r.ca,.slice r.an r.nn r.cn] 41)):=μ.alloc ι _;have a:=oa_ r A X _ (h.below b);rw[hok]at a;clear h hok;go_enter func77,ntmps77;go_wp2_with fail;refine a.mono ?_;rintro e f ⟨rfl,c⟩;have d:Bl w f:=b.trans (c.mono i_);clear a c;go_wp2_with fail;go_ret3
 exact⟨rfl,d⟩
theorem aca_ (r:aj_)(A:Nat->Bool)(X:Nat->Nat->Int)(w:World)(h:az_ w r A X)(hok:Ο r X=false):
 Calls prog 34 #[.agg #[.slice r.aa r.na r.ca,.slice r.an r.nn r.cn]] w
  fun e w'=>e= .returned (.tuple #[.string ⟨#[]⟩,.bool false,.int .i64 6])/\Bl w w':=by
 have a:Bl w (w.alloc (.cells #[.slice r.aa r.na r.ca,.slice r.an r.nn r.cn] 41)):=μ.alloc ι _;have b:=ab9_ r A X _ (h.below a) hok;clear h hok;go_enter func34,ntmps34;go_wp2_with fail;refine b.mono ?_;rintro e d ⟨rfl,c⟩;go_wp2
 go_ret3
 exact⟨rfl,a.trans (c.mono i_)⟩
end Go.Proofs.YtpngikmcjkjdaaaGreatDoor
