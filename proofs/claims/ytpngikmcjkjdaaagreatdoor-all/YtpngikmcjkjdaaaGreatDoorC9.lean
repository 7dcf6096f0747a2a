import Derived.Test.YtpngikmcjkjdaaaGreatDoorC8
set_option linter.unusedVariables false
set_option linter.unusedSimpArgs false
set_option maxRecDepth 20000
set_option maxHeartbeats 80000000
namespace Go.Proofs.YtpngikmcjkjdaaaGreatDoor
open Go.RowKit Tryz List Nat
variable {av:Bool} {c ca cap cn g i j na nn:Nat} {A:Nat->Bool} {rc rl:Nat->Nat} {D D0:Nat->Nat->Bool} {X:Nat->Nat->Int} {aa an:Option Addr} {w:World}
structure aj_ where
 (aa an:Option Addr)
 (na ca nn cn:Nat)
 (ra:Nat->Option Addr)
 (rl rc:Nat->Nat)
def aj_.val (r:aj_):Value:= .agg #[.slice r.aa r.na r.ca,.slice r.an r.nn r.cn]
structure az_ (w:World)(r:aj_)(A:Nat->Bool)(X:Nat->Nat->Int):Prop where
 la:r.na<=9223372036854775807
 ln:r.nn<=9223372036854775807
 lr:∀i,i<r.nn->r.rl i<=9223372036854775807
 acc:∀i,i<r.na->∃b o,r.aa=some ⟨b,o,none⟩/\w.cell? ⟨b,o+i,none⟩=some (.bool (A i))
 row:∀i,i<r.nn->∃b o,r.an=some ⟨b,o,none⟩/\w.cell? ⟨b,o+i,none⟩=some (.slice (r.ra i) (r.rl i) (r.rc i))
 cT:∀i c,i<r.nn->c<r.rl i->∃b o,r.ra i=some ⟨b,o,none⟩/\w.cell? ⟨b,o+c,none⟩=some (.int .i64 (X i c))
theorem az_.below {w':World}{r:aj_}(h:az_ w r A X)(hb:Bl w w'):az_ w' r A X:=
 ⟨h.la,h.ln,h.lr,fun i hi=>by obtain⟨b,o,e,hc⟩:=h.acc i hi;exact⟨b,o,e,by rw[(bc_ hb).1 _ _ (Χ hc)];exact hc⟩,
  fun i hi=>by obtain⟨b,o,e,hc⟩:=h.row i hi;exact⟨b,o,e,by rw[(bc_ hb).1 _ _ (Χ hc)];exact hc⟩,
  fun i c hi hc=>by obtain⟨b,o,e,hcc⟩:=h.cT i c hi hc;exact⟨b,o,e,by rw[(bc_ hb).1 _ _ (Χ hcc)];exact hcc⟩⟩
def df_ (r:aj_)(X:Nat->Nat->Int):Nat->Bool
 |0=>true
 |k+1=>df_ r X k&&(decide (r.rl k=8)&&dn_ (X k) r.nn 8)
theorem t2_ (r:aj_)(X:Nat->Nat->Int)(k:Nat):df_ r X k=true↔∀i,i<k->r.rl i=8/\∀c,c<8->0<=X i c/\X i c<r.nn:=by
 induction k with
 |zero=>simp[df_]
 |succ k ih=>
  simp only[df_,Bool.and_eq_true,ih,decide_eq_true_eq,rx_];constructor
  . rintro⟨h,a⟩ c hc;by_cases e:c=k
    . subst e;exact a
    . exact h c o_
  . intro h;exact⟨fun c hc=>h c o_,h k o_⟩
theorem n9_ (r:aj_)(X:Nat->Nat->Int)(k m:Nat)(hk:k<=m)(h:df_ r X k=false):df_ r X m=false:=by
 rw[Bool.eq_false_iff]at h ⊢;intro a;apply h;rw[t2_]at a ⊢;exact fun c hc=>a c o_
def Ο (r:aj_)(X:Nat->Nat->Int):Bool:=(decide (1<=r.nn)&&decide (r.nn<=40))&&(decide (r.na=r.nn)&&df_ r X r.nn)
def by_ (r:aj_)(A:Nat->Bool)(X:Nat->Nat->Int):γ:=⟨r.nn,A,fun i c=>(X i c).toNat⟩
theorem fd_ {r:aj_}(h:Ο r X=true):(by_ r A X).Ok:=by
 simp only[Ο,Bool.and_eq_true,decide_eq_true_eq,t2_]at h;refine⟨h.1.1,h.1.2,fun i c hi hc=> ?_⟩;have:=(h.2.2 i hi).2 c hc;simp only[by_];omega
theorem ex_ {r:aj_}(hr:az_ w r A X)(h:Ο r X=true):
 ∃V:ρ,r.val= .agg #[.slice (some ⟨V.ba,V.oa,none⟩) (by_ r A X).n V.ca,.slice (some ⟨V.bn,V.on,none⟩) (by_ r A X).n V.cn]/\π w V (by_ r A X):=by
 simp only[Ο,Bool.and_eq_true,decide_eq_true_eq,t2_]at h;obtain⟨⟨m,q⟩,h3,h4⟩:=h;obtain⟨ba,oa,g,_⟩:=hr.acc 0 o_;obtain⟨bn,on,j,_⟩:=hr.row 0 o_;have f:∀i,∃p:Nat×Nat,i<r.nn->r.ra i=some ⟨p.1,p.2,none⟩:=fun i=>by
  by_cases a:i<r.nn
  . obtain⟨b,o,e,_⟩:=hr.cT i 0 a (by rw[(h4 i a).1];omega);exact⟨(b,o),fun _=>e⟩
  . exact⟨(0,0),fun h=>absurd h a⟩
 refine⟨⟨ba,oa,r.ca,bn,on,r.cn,fun i=>(Classical.choose (f i)).1,fun i=>(Classical.choose (f i)).2,r.rc⟩, ?_,⟨fun i a=> ?_,fun i a=> ?_,fun i c a d=> ?_⟩⟩
 . simp only[aj_.val,by_,g,j,h3]
 . obtain⟨b,o,e,d⟩:=hr.acc i (by rw[h3];exact a);rw[g]at e;cases e;exact d
 . obtain⟨b,o,e,d⟩:=hr.row i a;rw[j]at e;cases e;rw[Classical.choose_spec (f i) a,(h4 i a).1]at d;exact d
 . obtain⟨b,o,e,k⟩:=hr.cT i c a (by rw[(h4 i a).1];exact d);have l:=Classical.choose_spec (f i) a;rw[l]at e;cases e;have:=(h4 i a).2 c d;rw[k];simp only[by_];rw[show(((X i c).toNat:Nat):Int)=X i c by omega]
theorem oa_ (r:aj_)(A:Nat->Bool)(X:Nat->Nat->Int)(w:World)(h:az_ w r A X):
 Calls prog 120 #[.agg #[.slice r.aa r.na r.ca,.slice r.an r.nn r.cn]] w fun e w'=>e= .returned (.bool (Ο r X))/\Bl w w':=by
 have K:=h.ln;have a:Bl w (w.alloc (.cells #[.slice r.aa r.na r.ca,.slice r.an r.nn r.cn] 41)):=μ.alloc ι _;by_cases B:1<=r.nn
 . by_cases z:r.nn<=40
   . by_cases l:r.na=r.nn
     . have e:Ο r X=df_ r X r.nn:=by simp[Ο,B,z,l]
       rw[e];have g:=h.below a;have D:((r.na:Int) !=(r.nn:Int))=false:=by simp[l]
       have E:((r.na:Int)==(r.nn:Int))=true:=by simp[l]
       clear e h l;go_enter func120,ntmps120;go_wp2_with fail;go_loop [5,25] (fun _ i=>∃k:Nat,k<=r.nn/\i= .int .i64 k/\df_ r X k=true) (fun _ i=>r.nn - (intOf i).toNat)
       case atStart=>exact⟨0,o_,rfl,rfl⟩
       case round=>
        obtain⟨k,J,rfl,f⟩:=hrel;by_cases t:k<r.nn
        . obtain⟨b,o,x,F⟩:=g.row k t;have H:=g.lr k t;have j:=fun c=>g.cT k c t
          have m:df_ r X (k+1)=(decide (r.rl k=8)&&dn_ (X k) r.nn 8):=by simp[df_,f]
          clear g;by_cases p:r.rl k=8
          . obtain⟨u,C,y,_⟩:=j 0 o_;have s:∀c,c<8->(w.alloc (.cells #[.slice r.aa r.na r.ca,.slice r.an r.nn r.cn] 41)).cell? ⟨u,C+c,none⟩=some (.int .i64 (X k c)):=fun c hc8=>by
             obtain⟨I,L,v,G⟩:=j c o_;rw[y]at v;cases v;exact G
            have n:=w7_ u C (r.rc k) (X k) r.nn _ s;rw[p,y]at F;have q:df_ r X (k+1)=dn_ (X k) r.nn 8:=by rw[m];simp[p]
            generalize r.an=an at*;subst x;cases hv:dn_ (X k) r.nn 8
            . rw[hv]at n;have d:Hid (df_ r X r.nn=false):=n9_ r X (k+1) _ o_ (by rw[q,hv]);clear m q f j s hv;go_wp2_with (go_at_call 157;refine n.mono ?_;rintro e w' ⟨rfl,rfl⟩);go_ret;exact⟨b6_ d.out.symm,a⟩
            . rw[hv]at n;have d:Hid (df_ r X (k+1)=true):=by unfold Hid;rw[q,hv]
              clear m q f j s hv;go_wp2_with (go_at_call 157;refine n.mono ?_;rintro e w' ⟨rfl,rfl⟩);go_round
              case rel=>exact⟨k+1,o_,by go_num,d.out⟩
              case measure=>exact c_
          . have d:Hid (df_ r X r.nn=false):=n9_ r X (k+1) _ o_ (by rw[m];simp[p]);generalize r.an=an at*;subst x;clear m f j;go_wp2_with (go_at_call 157;refine(af9_ _ _ _ _ _ p H).mono ?_;rintro e w' ⟨rfl,rfl⟩);go_ret;exact⟨b6_ d.out.symm,a⟩
        . have e:k=r.nn:=o_;subst e;have d:=α f;clear f g;go_wp2_with fail;go_ret;exact⟨b6_ d.out.symm,a⟩
     . have e:Ο r X=false:=by simp[Ο,l]
       rw[e];have D:((r.na:Int)==(r.nn:Int))=false:=s_;have E:((r.na:Int) !=(r.nn:Int))=true:=s_;clear e h;go_enter func120,ntmps120;go_wp2_with fail;go_ret;exact⟨rfl,a⟩
   . have e:Ο r X=false:=by simp[Ο,z]
     rw[e];clear e h;go_enter func120,ntmps120;go_wp2_with fail;go_ret;exact⟨rfl,a⟩
 . have e:Ο r X=false:=by simp[Ο,B]
   rw[e];clear e h;go_enter func120,ntmps120;go_wp2_with fail;go_ret;exact⟨rfl,a⟩
theorem aat_ {ra:Nat->Option Addr}(h:az_ w ⟨aa,an,na,ca,nn,cn,ra,rl,rc⟩ A X)(i:Nat)(hi:i<na):
 ∃b o,aa=some ⟨b,o,none⟩/\w.cell? ⟨b,o+i,none⟩=some (.bool (A i)):=h.acc i hi
theorem aau_ {ra:Nat->Option Addr}(h:az_ w ⟨aa,an,na,ca,nn,cn,ra,rl,rc⟩ A X)(i:Nat)(hi:i<nn):
 ∃b o,an=some ⟨b,o,none⟩/\w.cell? ⟨b,o+i,none⟩=some (.slice (ra i) (rl i) (rc i)):=h.row i hi
theorem aav_ {ra:Nat->Option Addr}(h:az_ w ⟨aa,an,na,ca,nn,cn,ra,rl,rc⟩ A X)(i c:Nat)(hi:i<nn)(hc:c<rl i):
 ∃b o,ra i=some ⟨b,o,none⟩/\w.cell? ⟨b,o+c,none⟩=some (.int .i64 (X i c)):=h.cT i c hi hc
theorem aaw_ (aa an bb bn:Option Addr)(na ca cb nn cn dn:Nat)(ra rb:Nat->Option Addr)(rl rc rd:Nat->Nat)(A:Nat->Bool)(X:Nat->Nat->Int)(w:World)
 (h1:az_ w ⟨aa,an,na,ca,nn,cn,ra,rl,rc⟩ A X) (h2:az_ w ⟨bb,bn,na,cb,nn,dn,rb,rl,rd⟩ A X):
 Calls prog 58 #[.agg #[.slice aa na ca,.slice an nn cn],.agg #[.slice bb na cb,.slice bn nn dn]] w fun e w'=>e= .returned (.bool true)/\Bl w w':=by
 have M:na<=9223372036854775807:=h1.la;have N:nn<=9223372036854775807:=h1.ln;obtain⟨W,t,g,y,z⟩:=bl_ w #[.slice aa na ca,.slice an nn cn] 41 #[.slice bb na cb,.slice bn nn dn] 41;have d:=h1.below g;have f:=h2.below g;have x:=α h1.lr;clear h1 h2;obtain⟨S,T,_,_⟩:=β y;obtain⟨U,V,_,_⟩:=β z;have s:((nn:Int) !=(nn:Int))=false:=i_;go_enter func58,ntmps58;go_upto_region 1 with fail;rw[<-t];clear t;go_wp2_with fail;clear s;go_loopw [5] (fun i' wr=>∃i q:Nat,i<=na/\i'= .int .i64 i/\wr=W.drewN q) (fun i' _=>na - (intOf i').toNat)
 case atStart=>exact⟨0,0,o_,rfl,rfl⟩
 case round=>
  obtain⟨i,q,K,rfl,rfl⟩:=hrel;by_cases u:i<na
  . obtain⟨B,H,rfl,k⟩:=aat_ d i u;obtain⟨C,I,rfl,m⟩:=aat_ f i u;have F:(A i !=A i)=false:=i_;clear d f;go_wp2_with fail;go_quiet (fail);go_wp2_with fail;go_roundw
    case rel=>exact⟨i+1,_,o_,by go_num,rfl⟩
    case measure=>exact c_
  . have a:i=na:=o_;subst a;go_wp2_with fail;go_loopw [6] (fun j' wr=>∃j q:Nat,j<=nn/\j'= .int .i64 j/\wr=W.drewN q) (fun j' _=>nn - (intOf j').toNat)
    case atStart=>exact⟨0,_,o_,rfl,rfl⟩
    case round=>
     obtain⟨j,Q,L,rfl,rfl⟩:=hrel;by_cases b:j<nn
     . obtain⟨B,H,rfl,k⟩:=aau_ d j b;obtain⟨C,I,rfl,m⟩:=aau_ f j b;have G:=x.out j b;have n:Hid _:=fun c=>aav_ d j c b
       have r:Hid _:=fun c=>aav_ f j c b
       obtain⟨l,h⟩:=δ (rl j);rw[h.out]at k m G;have s:((l:Int) !=(l:Int))=false:=i_;clear d f;go_wp2_with fail;go_quiet (fail);go_wp2_with fail;go_loopw [7] (fun c' wr=>∃c q:Nat,c<=l/\c'= .int .i64 c/\wr=W.drewN q) (fun c' _=>l - (intOf c').toNat)
       case atStart=>exact⟨0,_,o_,rfl,World.drewN_drewN _ _ _⟩
       case round=>
        obtain⟨c,R,J,rfl,rfl⟩:=hrel;by_cases v:c<l
        . obtain⟨p,o,D,d0⟩:=n.out c (by rw[h.out];exact v);obtain⟨P,O,E,d1⟩:=r.out c (by rw[h.out];exact v);rw[D]at k;rw[E]at m;have F:(X j c !=X j c)=false:=i_;clear n r;go_wp2_with fail;go_quiet (fail);go_wp2_with fail;go_roundw
          case rel=>exact⟨c+1,_,o_,by go_num,rfl⟩
          case measure=>exact c_
        . have a:c=l:=o_;subst a;go_wp2_with fail;go_roundw
          case rel=>exact⟨j+1,_,o_,by go_num,rfl⟩
          case measure=>exact c_
     . have a:j=nn:=o_;subst a;go_wp2_with fail;go_ret;exact⟨rfl,below_drewN g _⟩
theorem lk_ (r:aj_)(A:Nat->Bool)(X:Nat->Nat->Int)(w:World)(h:az_ w r A X):
 Calls prog 75 #[.agg #[.slice r.aa r.na r.ca,.slice r.an r.nn r.cn]] w fun e w'=>e= .returned (.bool (Ο r X))/\Bl w w':=by
 have S:=h.ln;obtain⟨W,l,d,-,j⟩:=ν w #[.slice r.aa r.na r.ca,.slice r.an r.nn r.cn] 41;obtain⟨V,Y,_,_⟩:=β j;by_cases C:1<=r.nn
 . by_cases B:r.nn<=40
   . by_cases m:r.na=r.nn
     . have e:Ο r X=df_ r X r.nn:=by simp[Ο,C,B,m]
       rw[e];have p:=h.below d;have G:((r.na:Int) !=(r.nn:Int))=false:=by simp[m]
       have H:((r.na:Int)==(r.nn:Int))=true:=by simp[m]
       clear e h m j;go_enter func75,ntmps75;go_wp2_with fail;rw[<-l];clear l;go_loop [4] (fun i=>∃k:Nat,k<=r.nn/\i= .int .i64 k/\df_ r X k=true) (fun i=>r.nn - (intOf i).toNat)
       case atStart=>exact⟨0,o_,rfl,rfl⟩
       case round=>
        obtain⟨k,R,rfl,n⟩:=hrel;by_cases D:k<r.nn
        . obtain⟨b,o,x,I⟩:=p.row k D;have q:=fun c=>p.cT k c D
          have s:df_ r X (k+1)=(decide (r.rl k=8)&&dn_ (X k) r.nn 8):=by simp[df_,n]
          clear p;by_cases u:r.rl k=8
          . obtain⟨F,N,y,_⟩:=q 0 o_;have z:∀c,c<8->W.cell? ⟨F,N+c,none⟩=some (.int .i64 (X k c)):=fun c K=>by
             obtain⟨O,U,v,J⟩:=q c o_;rw[y]at v;cases v;exact J
            rw[u,y]at I;have t:Hid (df_ r X (k+1)=dn_ (X k) r.nn 8):=by unfold Hid;rw[s];simp[u]
            have E:=α z;generalize r.an=an at*;subst x;clear s n q z;go_wp2_with fail;go_loop [5] (fun c'=>∃c:Nat,c<=8/\c'= .int .i64 c/\dn_ (X k) r.nn c=true) (fun c'=>8 - (intOf c').toNat)
            case atStart=>exact⟨0,o_,rfl,rfl⟩
            case round=>
             obtain⟨c,K,rfl,f⟩:=hrel;by_cases M:c<8
             . have Z:=E.out c M;have g:dn_ (X k) r.nn (c+1)=(decide (0<=X k c)&&decide (X k c<r.nn)):=by simp[dn_,f]
               by_cases P:X k c<0
               . have a:Hid (df_ r X r.nn=false):=n9_ r X (k+1) _ o_ (by rw[t.out];exact pn_ _ _ (c+1) 8 o_ (by rw[g];simp;omega));clear g f;generalize X k c=xv at*;go_wp2_with fail;go_ret;exact⟨b6_ a.out.symm,d⟩
               . by_cases T:X k c<r.nn
                 . have a:Hid (dn_ (X k) r.nn (c+1)=true):=by unfold Hid;rw[g];simp;omega
                   clear g f;generalize X k c=xv at*;go_wp2_with fail;go_round
                   case rel=>exact⟨c+1,o_,by go_num,a.out⟩
                   case measure=>exact c_
                 . have a:Hid (df_ r X r.nn=false):=n9_ r X (k+1) _ o_ (by rw[t.out];exact pn_ _ _ (c+1) 8 o_ (by rw[g];simp;omega));clear g f;generalize X k c=xv at*;go_wp2_with fail;go_ret;exact⟨b6_ a.out.symm,d⟩
             . have L:c=8:=o_;subst L;have a:Hid (df_ r X (k+1)=true):=by unfold Hid;rw[t.out];exact f
               clear f;go_wp2_with fail;go_round
               case rel=>exact⟨k+1,o_,by go_num,a.out⟩
               case measure=>exact c_
          . have a:Hid (df_ r X r.nn=false):=n9_ r X (k+1) _ o_ (by rw[s];simp[u]);generalize r.an=an at*;subst x;have Q:((r.rl k:Int) !=8)=true:=s_;clear s n q;go_wp2_with fail;go_ret;exact⟨b6_ a.out.symm,d⟩
        . have e:k=r.nn:=o_;subst e;have a:=α n;clear n p;go_wp2_with fail;go_ret;exact⟨b6_ a.out.symm,d⟩
     . have e:Ο r X=false:=by simp[Ο,m]
       rw[e];have G:((r.na:Int)==(r.nn:Int))=false:=s_;have H:((r.na:Int) !=(r.nn:Int))=true:=s_;clear e h j;go_enter func75,ntmps75;go_wp2_with fail;rw[<-l];go_ret;exact⟨rfl,d⟩
   . have e:Ο r X=false:=by simp[Ο,B]
     rw[e];clear e h j;go_enter func75,ntmps75;go_wp2_with fail;rw[<-l];go_ret;exact⟨rfl,d⟩
 . have e:Ο r X=false:=by simp[Ο,C]
   rw[e];clear e h j;go_enter func75,ntmps75;go_wp2_with fail;rw[<-l];go_ret;exact⟨rfl,d⟩
theorem kn_ (V:ρ)(M:γ)(w:World)(hM:M.Ok)(h:π w V M):
 Calls prog 75 #[.agg #[.slice (some ⟨V.ba,V.oa,none⟩) M.n V.ca,.slice (some ⟨V.bn,V.on,none⟩) M.n V.cn]] w
  fun e w'=>e= .returned (.bool true)/\Bl w w':=by
 have p:=hM.lo;have q:=hM.hi;obtain⟨W,g,d,-,f⟩:=ν w #[.slice (some ⟨V.ba,V.oa,none⟩) M.n V.ca,.slice (some ⟨V.bn,V.on,none⟩) M.n V.cn] 41;obtain⟨s,t,_,_⟩:=β f;have a:=h.below d;go_enter func75,ntmps75;go_wp2_with fail;rw[<-g];clear g h f;go_loop [4] (fun i'=>∃i:Nat,i<=M.n/\i'= .int .i64 i) (fun i'=>M.n - (intOf i').toNat)
 case atStart=>exact⟨0,o_,rfl⟩
 case round=>
  obtain⟨i,o,rfl⟩:=hrel;by_cases b:i<M.n
  . have u:=a.row i b;have l:Hid (∀c,c<8->W.cell? ⟨V.rb i,V.ro i+c,none⟩=some (.int .i64 (M.b7 i c))):=fun c=>a.cT i c b
    have k:Hid (∀c,c<8->M.b7 i c<M.n):=fun c=>hM.nx i c b
    clear a;go_wp2_with fail;go_loop [5] (fun c'=>∃c:Nat,c<=8/\c'= .int .i64 c) (fun c'=>8 - (intOf c').toNat)
    case atStart=>exact⟨0,o_,rfl⟩
    case round=>
     obtain⟨c,m,rfl⟩:=hrel;by_cases j:c<8
     . have v:=l.out c j;have r:=k.out c j;generalize M.b7 i c=nv at*;go_wp2_with fail;go_round
       case rel=>exact⟨c+1,o_,by go_num⟩
       case measure=>exact c_
     . go_wp2_with fail;go_round
       case rel=>exact⟨i+1,o_,by go_num⟩
       case measure=>exact c_
  . clear a;go_wp2_with fail;go_ret;exact⟨rfl,d⟩
theorem ko_ (s:ByteArray)(b8:Nat)(w:World)(hs:s.size<=maxLen)(hm:b8<=100000):
 Calls prog 61 #[.string s,.int .i64 b8] w fun e w'=>e= .returned (.bool (decide (s.size<=b8)&&as_ s s.size))/\w'=w:=by
 unfold maxLen at hs;by_cases h:s.size<=b8
 . have e:(decide (s.size<=b8)&&as_ s s.size)=as_ s s.size:=by simp[h]
   rw[e];clear e;go_enter func61,ntmps61;go_wp2_with fail;go_loop [5] (fun i'=>∃i:Nat,i<=s.size/\i'= .int .i64 i/\as_ s i=true) (fun i'=>s.size - (intOf i').toNat)
   case atStart=>exact⟨0,o_,rfl,rfl⟩
   case round=>
    obtain⟨i,m,rfl,b⟩:=hrel;by_cases k:i<s.size
    . have d:=l0_ s i k;have c:as_ s (i+1)=(decide (97<=s[i].toNat)&&decide (s[i].toNat<=104)):=by simp only[as_,b,Bool.true_and,d]
      by_cases g:97<=s[i].toNat
      . by_cases f:s[i].toNat<=104
        . have a:Hid (as_ s (i+1)=true):=by unfold Hid;rw[c];simp[g,f]
          have j:¬((s[i].toNat:Int)<97):=o_;have l:¬((104:Int)<(s[i].toNat:Int)):=o_;clear c d b;go_wp2_with fail;go_round
          case rel=>exact⟨i+1,o_,by go_num,a.out⟩
          case measure=>exact c_
        . have a:Hid (as_ s s.size=false):=rz_ s (i+1) _ o_ (by rw[c];simp[f]);have j:¬((s[i].toNat:Int)<97):=o_;have l:(104:Int)<(s[i].toNat:Int):=o_;clear c d b;go_wp2_with fail;go_ret;exact⟨b6_ a.out.symm,rfl⟩
      . have a:Hid (as_ s s.size=false):=rz_ s (i+1) _ o_ (by rw[c];simp[g]);have j:(s[i].toNat:Int)<97:=o_;clear c d b;go_wp2_with fail;go_ret;exact⟨b6_ a.out.symm,rfl⟩
    . have e:i=s.size:=o_;subst e;have a:=α b;clear b;go_wp2_with fail;go_ret;exact⟨b6_ a.out.symm,rfl⟩
 . have e:(decide (s.size<=b8)&&as_ s s.size)=false:=by simp[h]
   rw[e];clear e;go_enter func61,ntmps61;go_wp2_with fail;go_ret;exact⟨rfl,rfl⟩
theorem aoo_ (c:Nat)(h:c<8):IntKind.i64.wrap (97+(c:Int))=97+(c:Int):=by rw[IntKind.wrap_i64];omega
theorem aop_ (c:Nat)(h:c<8):IntKind.i64.wrap (c:Int)=(c:Int):=by rw[IntKind.wrap_i64];omega
theorem aax_ (V:ρ)(M:γ)(s:ByteArray)(w:World)(hM:M.Ok)(h:π w V M)(hs:dh_ s)(hl:s.size<=1000):
 Calls prog 76 #[.agg #[.slice (some ⟨V.ba,V.oa,none⟩) M.n V.ca,.slice (some ⟨V.bn,V.on,none⟩) M.n V.cn],.string s] w
  fun e w'=>e= .returned (.bool (M.b6 (ar_ s)))/\Bl w w':=by
 have B:=hM.lo;have z:=hM.hi;obtain⟨W,o,j,-,m⟩:=ν w #[.slice (some ⟨V.ba,V.oa,none⟩) M.n V.ca,.slice (some ⟨V.bn,V.on,none⟩) M.n V.cn] 41;obtain⟨D,E,_,_⟩:=β m;have b:=h.below j;go_enter func76,ntmps76;go_wp2_with fail;rw[<-o];clear o h m;go_loopw [5,6] (fun st i' wr=>∃k q:Nat,k<=s.size/\i'= .int .i64 k/\st= .int .i64 (M.read 0 ((ar_ s).take k))/\wr=W.drewN q) (fun _ i' _=>s.size - (intOf i').toNat)
 case atStart=>exact⟨0,0,zero_le _,rfl,rfl,rfl⟩
 case round=>
  obtain⟨k,q,A,rfl,rfl,rfl⟩:=hrel;have f:=γ.cU hM 0 o_ _ (xb_ (k7_ hs) k);by_cases p:k<s.size
  . have y:=po_ hs k p;have l:=w8_ s k p;have d:(s[k].toNat - 97:Nat)<8:=o_;have i:Hid (((M.read 0 ((ar_ s).take (k+1)):Nat):Int)=(M.b7 (M.read 0 ((ar_ s).take k)) (s[k].toNat - 97):Nat)):=by
     unfold Hid;rw[l,γ.cE]
    generalize M.read 0 ((ar_ s).take k)=st at*;have C:=b.row st f;have r:=b.cT st _ f d;obtain⟨a,g⟩:∃c,Hid (s[k].toNat - 97=c):=⟨s[k].toNat - 97,Eq.refl _⟩;have x:(s[k].toNat:Int)=97+(a:Int):=by have:=g.out;omega
    rw[g.out]at r d;have t:IntKind.i64.wrap (97+(a:Int))=97+(a:Int):=aoo_ a d;have u:IntKind.i64.wrap (a:Int)=(a:Int):=aop_ a d;clear l b;go_wp2_with fail;go_quiet (fail);go_wp2_with fail;go_roundw
    case rel=>exact⟨k+1,_,o_,by go_num,by rw[i.out,g.out],rfl⟩
    case measure=>exact c_
  . have e:k=s.size:=o_;subst e;rw[tk_ (by rw[lz_];omega)]at f ⊢;have i:Hid (M.b6 (ar_ s)=M.acc (M.read 0 (ar_ s))):=rfl;generalize M.read 0 (ar_ s)=st at*;have v:=b.acc st f;clear b;go_wp2_with fail;go_ret;exact⟨b6_ i.out.symm,below_drewN j _⟩
def h8_ (R C:Nat->Nat)(k:Nat):List Value:=(List.range k).map fun i=> .slice (some ⟨R i,0,none⟩) 8 (C i)
def Λ (X:Nat->Nat)(k:Nat):List Value:=(List.range k).map fun c:Nat=> .int .i64 ((X c:Nat):Int)
theorem aoq_ (R C:Nat->Nat)(k:Nat):h8_ R C (k+1)=h8_ R C k++ [.slice (some ⟨R k,0,none⟩) 8 (C k)]:=by simp[h8_,range_succ]
theorem kp_ (X:Nat->Nat)(k:Nat):Λ X (k+1)=Λ X k++ [.int .i64 ((X k:Nat):Int)]:=by simp[Λ,range_succ]
structure ak_ (W:World)(b:Nat)(w:World)(va vn:Value)(ka kn:Nat)(A:Nat->Bool)(R C:Nat->Nat)(X:Nat->Nat->Nat):Prop where
 two:cd_ W b 41 4 1 24 1 w va vn ka kn (aa_ A ka) (h8_ R C kn)
 rows:∀i,i<kn->w.ownsRow (b+1) 3 1 (.slice (some ⟨R i,0,none⟩) 8 (C i)) 8 (Λ (X i) 8)
section
variable {W:World} {b:Nat} {w w1 w2:World} {va vn vr:Value} {ka kn:Nat} {A:Nat->Bool} {R C:Nat->Nat} {X:Nat->Nat->Nat} {c:Nat} {x:List Value}
theorem ak_.start (hb:Below b W w)(hk:w.heap[b]? =some (.cells #[.slice none 0 0,.slice none 0 0] 41 (0,0))):ak_ W b w (.slice none 0 0) (.slice none 0 0) 0 0 A R C X:=
 ⟨⟨hb,hk,a8_,a8_,by intro g h;simp[Value.ownBlock]at h⟩,fun i hi=>absurd hi o_⟩
theorem ak_.below (h:ak_ W b w va vn ka kn A R C X)(hb:Bl w w1):ak_ W b w1 va vn ka kn A R C X:=
 ⟨h.two.below hb,fun i hi=>ao_ (h.rows i hi) hb⟩
theorem ak_.acc (h:ak_ W b w va vn ka kn A R C X)(hown:w2.ownsRow (b+1) 4 1 (.slice (some ⟨g,0,none⟩) (ka+1) cap) (ka+1) (aa_ A ka++ [.bool (A ka)]))(hg:w.grownBy w2 va.ownBlock)(hf:va.ownBlock=some g\/g=w.heap.size):
 ak_ W b (w2.setCell ⟨b,0,none⟩ (.slice (some ⟨g,0,none⟩) (ka+1) cap)) (.slice (some ⟨g,0,none⟩) (ka+1) cap) vn (ka+1) kn A R C X:=by
 refine⟨h.two.eE hown hg hf,fun i hi=>ownsRow_setCell_below ((h.rows i hi).kept hg (.inr (fun e=>gn_ (h.rows i hi) h.two.cB d_ _ rfl e.symm))) i_ _⟩
theorem ak_.grown (h:ak_ W b w va vn ka kn A R C X)(hr:w.ownsRow (b+1) 3 1 vr c x)(hd:∀i,i<kn->vr.ownBlock≠some (R i))(hg:w.grownBy w2 vr.ownBlock):ak_ W b w2 va vn ka kn A R C X:=by
 have a:=κ h.two.cg;refine⟨⟨h.two.cz.grown hg o_ (fun k e=>by have:=(hr.lt k e).1;omega), ?_, ?_, ?_,h.two.cX⟩,fun i hi=>(h.rows i hi).kept hg (.inr (fun e=>hd i hi e.symm))⟩
 . rw[hg.block b a (fun e=>by have:=(hr.lt b e.symm).1;omega)];exact h.two.cg
 . refine h.two.cB.kept hg ?_;cases hv:va.ownBlock with
   |none=>exact .inl rfl
   |some k=>exact .inr (fun e=>gn_ h.two.cB hr d_ k hv e.symm)
 . refine h.two.cA.kept hg ?_;cases hv:vn.ownBlock with
   |none=>exact .inl rfl
   |some k=>exact .inr (fun e=>gn_ h.two.cA hr d_ k hv e.symm)
theorem ak_.b7 (h:ak_ W b w va vn ka kn A R C X){gr cr:Nat}(hr:w.ownsRow (b+1) 3 1 (.slice (some ⟨gr,0,none⟩) 8 cr) 8 (Λ (X kn) 8))
 (hown:w2.ownsRow (b+1) 24 1 (.slice (some ⟨g,0,none⟩) (kn+1) cap) (kn+1) (h8_ R C kn++ [.slice (some ⟨gr,0,none⟩) 8 cr])) (hg:w.grownBy w2 vn.ownBlock) (hf:vn.ownBlock=some g\/g=w.heap.size):
 ak_ W b (w2.setCell ⟨b,1,none⟩ (.slice (some ⟨g,0,none⟩) (kn+1) cap)) va (.slice (some ⟨g,0,none⟩) (kn+1) cap) ka (kn+1) A (fun i=>if i=kn then gr else R i) (fun i=>if i=kn then cr else C i) X:=by
 have d:h8_ R C kn++ [.slice (some ⟨gr,0,none⟩) 8 cr]=h8_ (fun i=>if i=kn then gr else R i) (fun i=>if i=kn then cr else C i) (kn+1):=by
  rw[aoq_];congr 1
  . simp only[h8_];apply map_congr_left;intro i c;have:i<kn:=by simpa using c
    rw[if_neg o_,if_neg o_]
  . simp
 refine⟨?_,fun i c=> ?_⟩
 . have:=h.two.eD hown hg hf;rw[d]at this;exact this
 . by_cases e:i=kn
   . subst e;simp only[if_true];exact ownsRow_setCell_below (hr.kept hg (.inr (fun e=>gn_ hr h.two.cA d_ _ rfl e.symm))) i_ _
   . simp only[if_neg e];have a:=h.rows i o_;exact ownsRow_setCell_below (a.kept hg (.inr (fun e=>gn_ a h.two.cA d_ _ rfl e.symm))) i_ _
theorem ak_.done (h:ak_ W b w va vn kn kn A R C X)(hk:0<kn){N:γ}(hn:N.n=kn)(ha:∀i,i<kn->N.acc i=A i)(hx:∀i c,i<kn->c<8->N.b7 i c=X i c):
 ∃V:ρ,va= .slice (some ⟨V.ba,V.oa,none⟩) kn V.ca/\vn= .slice (some ⟨V.bn,V.on,none⟩) kn V.cn/\π w V N/\V.cP (b+1) kn:=by
 obtain⟨l,ca,rfl,j⟩:=Β h.two.cB;obtain⟨m,cn,rfl,k⟩:=Β h.two.cA;obtain⟨d,rfl,f⟩:=j hk;obtain⟨e,rfl,g⟩:=k hk;refine⟨⟨d,0,ca,e,0,cn,R,fun _=>0,C⟩,rfl,rfl,⟨fun i hi=> ?_,fun i hi=> ?_,fun i c hi hc=> ?_⟩,⟨(h.two.cB.lt d rfl).1,(h.two.cA.lt e rfl).1,fun i hi=>((h.rows i hi).lt (R i) rfl).1⟩⟩
 . have a:i<kn:=o_;simp only[Nat.zero_add];rw[f i o_,n8_ _ _ _ a,ha i a]
 . have a:i<kn:=o_;simp only[Nat.zero_add];rw[g i o_];simp[h8_,a]
 . have a:i<kn:=o_;simp only[Nat.zero_add];rw[(h.rows i a).cellAt c o_,hx i c a hc];simp[Λ,hc]
end
theorem qn_ (V:ρ)(M:γ)(w:World)(hM:M.Ok)(hV:π w V M):
 Calls prog 132 #[.agg #[.slice (some ⟨V.ba,V.oa,none⟩) M.n V.ca,.slice (some ⟨V.bn,V.on,none⟩) M.n V.cn]] w
  fun e w'=>∃U:ρ,e= .returned (.agg #[.slice (some ⟨U.ba,U.oa,none⟩) M.n U.ca,.slice (some ⟨U.bn,U.on,none⟩) M.n U.cn])/\π w' U M/\U.cP w.heap.size M.n/\Bl w w':=by
 obtain⟨i4,ag,ao,ap,aq⟩:=info_parts hc_;obtain⟨i3,af,al,am,an⟩:=info_parts e9_;obtain⟨iR,ah,au,av,aw⟩:=info_parts mn_;have l1:=hM.lo;have l2:=hM.hi;obtain⟨W,hW,F,Z,b1,b2⟩:=fe_ w #[.slice (some ⟨V.ba,V.oa,none⟩) M.n V.ca,.slice (some ⟨V.bn,V.on,none⟩) M.n V.cn] 41 #[.slice none 0 0,.slice none 0 0] 41 #[.slice none 0 0,.slice none 0 0] 41
 obtain⟨y0,y1,_,_⟩:=β Z;go_enter func132,ntmps132;go_wp2_with fail;rw[<-hW];clear hW;go_loopw [14] (fun i' wr=>∃i:Nat,∃p,i<=M.n/\i'= .int .i64 (i:Int)/\ak_ W (w.heap.size+1+1) wr p (.slice none 0 0) i 0 M.acc (fun _=>0) (fun _=>0) M.b7) (fun i' _=>M.n - (intOf i').toNat)
 case atStart=>exact⟨0,_,o_,rfl,ak_.start μ b2⟩
 case round=>
  obtain⟨i,p,hi,rfl,a⟩:=hrel;have ab:=η F a.two.cz;obtain⟨x0,x1,f0,f1⟩:=β a.two.cg;have ay:=κ a.two.cg;by_cases E:i<M.n
  . have z0:=(hV.below ab).acc i E;obtain⟨z,y⟩:=δ (M.acc i);rw[y.out]at z0;have q1:(i:Int)<(M.n:Int):=o_;have G:Hid (ak_ W (w.heap.size+1+1) (wr.alloc (.cells #[.bool z] 4)) p (.slice none 0 0) i 0 M.acc (fun _=>0) (fun _=>0) M.b7):=a.below ξ;have m:=G.out.two.cB;obtain⟨oa,Q,aj,_⟩:=Β m;subst aj;have S:∀g f b,b.ownsRow (w.heap.size+1+1+1) 4 1 (.slice (some ⟨g,0,none⟩) (i+1) f) (i+1) (aa_ M.acc i++ [.bool z])->(wr.alloc (.cells #[.bool z] 4)).grownBy b (Value.slice oa i Q).ownBlock->((Value.slice oa i Q).ownBlock=some g\/g=(wr.alloc (.cells #[.bool z] 4)).heap.size)->
     b.cell? ⟨w.heap.size+1+1,0,none⟩=some (.slice oa i Q)/\b.frozen? ⟨w.heap.size+1+1,0,none⟩=false/\Hid (ak_ W (w.heap.size+1+1) (b.setCell ⟨w.heap.size+1+1,0,none⟩ (.slice (some ⟨g,0,none⟩) (i+1) f)) (.slice (some ⟨g,0,none⟩) (i+1) f) (.slice none 0 0) (i+1) 0 M.acc (fun _=>0) (fun _=>0) M.b7):=by
     intro g f b s B hf;rw[<-y.out]at s;obtain⟨e0,_,e2,_⟩:=β (G.out.two.cM B);exact⟨e0,e2,G.out.acc s B hf⟩
    clear a ab hV;go_wp2_with (at_builtin;refine Υ underlying38 ag ao ap aq m ?_;intro g f b o d l;obtain⟨e0,K,HN⟩:=S g f b o d l;clear S o d l);go_roundw
    case rel=>exact⟨i+1,_,o_,by go_num,HN.out⟩
    case measure=>exact c_
  . have r:i=M.n:=o_;have q1:¬(i:Int)<(M.n:Int):=o_;subst r;have HB:=α a;obtain⟨r0,r1,_,_⟩:=β ((a.two.cz.block _ o_).trans Z);clear a;go_wp2_with fail;go_loopw [28] (fun i' wi=>∃i:Nat,∃x R C,i<=M.n/\i'= .int .i64 (i:Int)/\ak_ W (w.heap.size+1+1) wi p x M.n i M.acc R C M.b7) (fun i' _=>M.n - (intOf i').toNat)
    case atStart=>exact⟨0,_,_,_,o_,rfl,HB.out⟩
    case round=>
     obtain⟨i,x,R,C,ax,rfl,a⟩:=hrel;rename World=>wi
     have ac:=η F a.two.cz;by_cases E:i<M.n
     . have q2:(i:Int)<(M.n:Int):=o_;have z1:=(hV.below ac).row i E;have ad:=α a;clear a;go_wp2_with fail;go_loopw [8,34] (fun vr c' wk=>∃c:Nat,c<=8/\c'= .int .i64 (c:Int)/\ak_ W (w.heap.size+1+1) wk p x M.n i M.acc R C M.b7/\wk.ownsRow (w.heap.size+1+1+1) 3 1 vr c (Λ (M.b7 i) c)/\∀j,j<i->vr.ownBlock≠some (R j)) (fun _ c' _=>8 - (intOf c').toNat)
       case atStart=>exact⟨0,o_,rfl,ad.out,a8_,by intro j _ h;simp[Value.ownBlock]at h⟩
       case round=>
        obtain⟨c,hc,rfl,k,t,O⟩:=hrel;rename World=>wk
        have L:=η F k.two.cz;have az:=κ k.two.cg;by_cases ai:c<8
        . have z2:=(hV.below L).cT i c E ai;obtain⟨P,Y⟩:=δ (M.b7 i c);rw[Y.out]at z2;have q:Hid (ak_ W (w.heap.size+1+1) (wk.alloc (.cells #[.int .i64 (P:Int)] 3)) p x M.n i M.acc R C M.b7):=k.below ξ;have T:=α O;have m:=t.alloc (.cells #[.int .i64 (P:Int)] 3);have ae:Hid (∀j,j<i->R j<wk.heap.size):=fun j D=>((k.rows j D).lt (R j) rfl).2
          have q3:(c:Int)<8:=o_;clear k O t L;go_wp2_with (at_builtin;refine Υ underlying24 af al am an m ?_;intro g f b o d l;have J:=α o;have I:=α d;have H:=α l;clear o d l);go_roundw
          case rel=>
           have s:=J.out;rw[show Λ (M.b7 i) c++ [.int .i64 (P:Int)]=Λ (M.b7 i) (c+1)by rw[kp_,Y.out]]at s;refine⟨c+1,o_,by go_num,q.out.grown m T.out I.out,s, ?_⟩;intro j D e;simp only[Value.ownBlock,Δ]at e;rcases H.out with h'|h'
           . exact T.out j D (by subst e;exact h')
           . have:=ae.out j D;simp at h';omega
          case measure=>exact c_
        . have r:c=8:=o_;subst r;obtain⟨ar,cr,rfl,aa⟩:=Β t;obtain⟨A,rfl,_⟩:=aa o_;obtain⟨y2,y3,g2,g3⟩:=β k.two.cg;have q:Hid (ak_ W (w.heap.size+1+1) (wk.alloc (.cells #[.slice (some ⟨A,0,none⟩) 8 cr] 24)) p x M.n i M.acc R C M.b7):=k.below ξ;have m:=q.out.two.cA;obtain⟨na,nc,ak,_⟩:=Β m;subst ak;have HR:Hid ((wk.alloc (.cells #[.slice (some ⟨A,0,none⟩) 8 cr] 24)).ownsRow (w.heap.size+1+1+1) 3 1 (.slice (some ⟨A,0,none⟩) 8 cr) 8 (Λ (M.b7 i) 8)):=t.alloc _;have X:∀b,(wk.alloc (.cells #[.slice (some ⟨A,0,none⟩) 8 cr] 24)).grownBy b (Value.slice na i nc).ownBlock->b.cell? ⟨w.heap.size+1+1,1,none⟩=some (.slice na i nc)/\b.frozen? ⟨w.heap.size+1+1,1,none⟩=false:=fun b B=>by
           obtain⟨_,K,_,e3⟩:=β (q.out.two.cN B);exact⟨K,e3⟩
          have q3:¬((8:Nat):Int)<8:=o_;clear k O t L aa;go_wp2_with (at_builtin;refine Υ underlying39 ah au av aw m ?_;intro g f b o d l;obtain⟨K,e3⟩:=X b d;have J:=α o;have I:=α d;have H:=α l;clear o d l X);go_roundw
          case rel=>exact⟨i+1,_,_,_,o_,by go_num,q.out.b7 HR.out J.out I.out H.out⟩
          case measure=>exact c_
     . have r:i=M.n:=o_;have q2:¬(i:Int)<(M.n:Int):=o_;subst r;obtain⟨U,rfl,rfl,hT,hF⟩:=a.done (N:=M) o_ rfl (fun _ _=>rfl) (fun _ _ _ _=>rfl);have hq:wi.heap[w.heap.size+1]? =some (.cells #[.slice none 0 0,.slice none 0 0] 41 (0,0)):=(a.two.cz.block _ o_).trans b1;obtain⟨aA,aB,p0,p1⟩:=β hq;obtain⟨s0,s1,_,_⟩:=β a.two.cg;have HT:=α hT;have y:=α ac;clear a hT hV;go_wp2_with fail;obtain⟨r1,r2,r3⟩:=Φ (u:= .slice (some ⟨U.ba,U.oa,none⟩) M.n U.ca) (v:= .slice (some ⟨U.bn,U.on,none⟩) M.n U.cn) hq;refine bodyPost_ret (v:= .agg #[.slice (some ⟨U.ba,U.oa,none⟩) M.n U.ca,.slice (some ⟨U.bn,U.on,none⟩) M.n U.cn]) (by simp[results,results132,go_sem,r1,r2]) rfl ?_;exact⟨U,rfl,HT.out.res (N:=w.heap.size+1+1+1) hF o_ _ _,hF.mono o_,av_ y.out o_ _ _⟩
structure i6_ (M:γ)(D:Nat->Nat->Bool):Prop where
 sound:∀x y,x<M.n->y<M.n->D x y=true->e5_ M x y
 symm:∀x y,x<M.n->y<M.n->D x y=D y x
 base:∀x y,x<M.n->y<M.n->M.acc x≠M.acc y->D x y=true
structure fm_ (M:γ)(D0 D:Nat->Nat->Bool)(av:Bool)(i j c:Nat):Prop where
 mono:∀x y,x<M.n->y<M.n->D0 x y=true->D x y=true
 less:av=true->i5_ M.n D<i5_ M.n D0
 same:av=false->∀x y,x<M.n->y<M.n->D x y=D0 x y
 dt:av=false->∀x y c',y<x->x<M.n->c'<8->(x<i\/(x=i/\(y<j\/(y=j/\c'<c))))->D (M.b7 x c') (M.b7 y c')=true->D x y=true
theorem aor_ {M:γ}{x y:Nat}(hc:c<8)(h:e5_ M (M.b7 x c) (M.b7 y c)):e5_ M x y:=by
 obtain⟨z,e,b⟩:=h;refine⟨c::z, ?_,b⟩;intro d a;simp only[mc_]at a;rcases a with rfl|a
 . exact hc
 . exact e d a
theorem i6_.all {M:γ}(h:i6_ M D)(hnx:∀i c,i<M.n->c<8->M.b7 i c<M.n)(hcl:∀x y c',y<x->x<M.n->c'<8->D (M.b7 x c') (M.b7 y c')=true->D x y=true):
 ∀x y,x<M.n->y<M.n->(D x y=true↔e5_ M x y):=by
 have k:∀(z:List Nat),Γ z->∀x y,x<M.n->y<M.n->M.acc (M.read x z)≠M.acc (M.read y z)->D x y=true:=by
  intro z;induction z with
  |nil=>intro _ x y a b e;exact h.base x y a b e
  |cons c z ih=>
   intro g x y a b e;have f:c<8:=g c i_;have j:=ih (fun d e=>g d (by simp[e])) (M.b7 x c) (M.b7 y c) (hnx x c a f) (hnx y c b f) e;rcases Nat.lt_trichotomy x y with hlt|heq|hlt
   . rw[h.symm x y a b];rw[h.symm _ _ (hnx x c a f) (hnx y c b f)]at j;exact hcl y x c hlt b f j
   . subst heq;exact absurd rfl e
   . exact hcl x y c hlt a f j
 intro x y a b;exact⟨h.sound x y a b,fun⟨z,g,e⟩=>k z g x y a b e⟩
theorem i6_.put {M:γ}(h:i6_ M D)(ha:e5_ M i j):i6_ M (upd (upd D i j true) j i true) where
 sound x y hx hy hd:=by
  unfold upd at hd;by_cases a:x=j/\y=i
  . obtain⟨rfl,rfl⟩:=a;obtain⟨z,c,hd⟩:=ha;exact⟨z,c,fun e=>hd e.symm⟩
  . rw[if_neg a]at hd;by_cases b:x=i/\y=j
    . obtain⟨rfl,rfl⟩:=b;exact ha
    . rw[if_neg b]at hd;exact h.sound x y hx hy hd
 symm x y hx hy:=by
  unfold upd;have:=h.symm x y hx hy;by_cases a:x=j/\y=i
  . obtain⟨rfl,rfl⟩:=a;simp
  . by_cases b:x=i/\y=j
    . obtain⟨rfl,rfl⟩:=b;simp
    . rw[if_neg a,if_neg b,if_neg (fun e=>b ⟨e.2,e.1⟩),if_neg (fun e=>a ⟨e.2,e.1⟩)];exact this
 base x y hx hy hd:=by
  unfold upd;split
  . rfl
  . split
    . rfl
    . exact h.base x y hx hy hd
theorem fm_.put {M:γ}(h:fm_ M D0 D av i j c)(hi:i<M.n)(hj:j<M.n)(h0:D i j=false)(c2:Nat):fm_ M D0 (upd (upd D i j true) j i true) true i j c2:=by
 have b:∀x y,x<M.n->y<M.n->D0 x y=true->upd (upd D i j true) j i true x y=true:=by
  intro x y d f a;unfold upd;split
  . rfl
  . split
    . rfl
    . exact h.mono x y d f a
 refine⟨b,fun _=>anm_ b hi hj ?_ ?_,(fun e=>by cases e),(fun e=>by cases e)⟩
 . cases a:D0 i j with
   |false=>rfl
   |true=>rw[h.mono i j hi hj a]at h0;cases h0
 . unfold upd;split
   . rfl
   . simp
theorem fm_.pass {M:γ}(h:fm_ M D0 D av i j c)(hn:D (M.b7 i c) (M.b7 j c)=false):fm_ M D0 D av i j (c+1):=
 ⟨h.mono,h.less,h.same,fun e x y c' hyx hx hc hp hd=>by
  by_cases e2:x=i/\y=j/\c'=c
  . obtain⟨rfl,rfl,rfl⟩:=e2;rw[hn]at hd;cases hd
  . exact h.dt e x y c' hyx hx hc o_ hd⟩
theorem fm_.fg {M:γ}(h:fm_ M D0 D av i j 8):fm_ M D0 D av i (j+1) 0:=
 ⟨h.mono,h.less,h.same,fun e x y c' hyx hx hc hp hd=>h.dt e x y c' hyx hx hc o_ hd⟩
theorem fm_.fe {M:γ}(h:fm_ M D0 D av i j c)(ht:D i j=true):fm_ M D0 D av i (j+1) 0:=
 ⟨h.mono,h.less,h.same,fun e x y c' hyx hx hc hp hd=>by
  by_cases e2:x=i/\y=j
  . obtain⟨rfl,rfl⟩:=e2;exact ht
  . exact h.dt e x y c' hyx hx hc o_ hd⟩
theorem fm_.row {M:γ}(h:fm_ M D0 D av i i 0):fm_ M D0 D av (i+1) 0 0:=
 ⟨h.mono,h.less,h.same,fun e x y c' hyx hx hc hp hd=>h.dt e x y c' hyx hx hc o_ hd⟩
def aos_ (M:γ)(w:World)(e:Ending)(w':World):Prop:=
 Bl w w'/\∃(g:Nat) (rb:Nat->Nat) (D:Nat->Nat->Bool),e= .returned (.slice (some ⟨g,0,none⟩) M.n M.n)/\c4_ w' (w.heap.size+1) g M.n M.n rb D/\∀x y,x<M.n->y<M.n->(D x y=true↔e5_ M x y)
theorem aot_ (V:ρ)(M:γ)(w:World)(hlo:1<=M.n)(hhi:M.n<=100000000)(hnx:∀i c,i<M.n->c<8->M.b7 i c<M.n)(hV:π w V M):
 Calls prog 103 #[.agg #[.slice (some ⟨V.ba,V.oa,none⟩) M.n V.ca,.slice (some ⟨V.bn,V.on,none⟩) M.n V.cn]] w
  (aos_ M w):=by
 have aC:=run_make_row' (P:=prog) 108 38 (.slice none 0 0) 24 underlying108 aaq_ rfl .i64 .i64 M.n o_ o_;have ar:=run_make_row' (P:=prog) 38 4 (.bool false) 1 underlying38 hc_ rfl .i64 .i64 M.n o_ o_;obtain⟨W,Y,BW,-,-⟩:=ν w #[.slice (some ⟨V.ba,V.oa,none⟩) M.n V.ca,.slice (some ⟨V.bn,V.on,none⟩) M.n V.cn] 41;have aw:W.heap.size=w.heap.size+1:=by rw[Y];simp
 have b0:=aw_ Y;have P0:c4_ (W.alloc (.cells (madeCells #[.slice none 0 0] M.n) 38)) (w.heap.size+1) (w.heap.size+1) M.n 0 (fun _=>0) (fun _ _=>false):=
  ⟨(h5_ (ο aw.symm)).congr (fun i _=>i_),fun i v=>absurd v o_,fun i j v=>absurd v o_,ι,fun i v=>absurd v o_⟩
 have B0:Below (w.heap.size+1) W (W.alloc (.cells (madeCells #[.slice none 0 0] M.n) 38)):=μ.alloc o_ _;go_enter func103,ntmps103;go_wp2_with fail;rw[<-Y];clear Y aC;go_loopw [5,6] (fun i' _ wr=>∃(k:Nat) (m:Nat->Nat) (D:Nat->Nat->Bool),k<=M.n/\i'= .int .i64 k/\Below (w.heap.size+1) W wr/\c4_ wr (w.heap.size+1) (w.heap.size+1) M.n k m D/\∀x y,x<k->y<M.n->D x y=(M.acc x !=M.acc y))
  (fun i' _ _=>M.n - (intOf i').toNat)
 case atStart=>exact⟨0,_,_,o_,rfl,B0,P0,fun x y hx=>absurd hx o_⟩
 case round=>
  obtain⟨k,m,D,hk,rfl,d,b,B⟩:=hrel;clear P0 B0;by_cases al:k<M.n
  . have t0:=b.top.cell al;have t1:=b.top.frozen k;rw[if_neg (Nat.lt_irrefl k)]at t0;have A:Hid _:=b;have F:Hid _:=d;have az:=b.top.lt;clear b d;go_wp2_with fail;clear ar t0 t1;rename World=>wo
    have J:c4_ ((wo.alloc (.cells (madeCells #[.bool false] M.n) 4)).setCell ⟨w.heap.size+1,k,none⟩ (.slice (some ⟨wo.heap.size,0,none⟩) M.n M.n)) (w.heap.size+1) (w.heap.size+1) M.n (k+1) (fun i=>if i=k then wo.heap.size else m i) (fun i j=>if i=k then false else D i j):=
     (A.out.below ξ).next (f:=fun _=>false) (h5_ (ο rfl)) (fun i v=>by have:=(A.out.row i v).lt;omega) o_
    have ak:Below (w.heap.size+1) W ((wo.alloc (.cells (madeCells #[.bool false] M.n) 4)).setCell ⟨w.heap.size+1,k,none⟩ (.slice (some ⟨wo.heap.size,0,none⟩) M.n M.n)):=(F.out.alloc o_ _).setCell (p:=⟨w.heap.size+1,k,none⟩) ι _;rw[World.setCell_alloc_past _ _ _ _ az]at J ak;generalize (fun i=>if i=k then wo.heap.size else m i)=rb' at J;have ac:Hid (∀x y,x<k->y<M.n->(fun i j=>if i=k then false else D i j) x y=(M.acc x !=M.acc y)):=fun x y hx hy=>by simp only[if_neg (show x≠k by omega)];exact B x y hx hy
    have ad:Hid (∀y,y<M.n->(fun i j=>if i=k then false else D i j) k y=false):=fun y hy=>i_
    generalize (fun i j=>if i=k then false else D i j)=Dn at J ac ad;clear A F B;go_loopw [6] (fun j' wi=>∃(j:Nat) (z:Nat->Nat->Bool),j<=M.n/\j'= .int .i64 j/\Below (w.heap.size+1) W wi/\c4_ wi (w.heap.size+1) (w.heap.size+1) M.n (k+1) rb' z/\(∀x y,x<k->y<M.n->z x y=(M.acc x !=M.acc y))/\∀y,y<M.n->z k y=if y<j then(M.acc k !=M.acc y)else false)
     (fun j' _=>M.n - (intOf j').toNat)
    case atStart=>exact⟨0,Dn,o_,rfl,ak,J,ac.out,fun y hy=>by simp[ad.out y hy]⟩
    case round=>
     clear J ak ac ad;obtain⟨j,z,hj,rfl,d,b,U,X⟩:=hrel;have s:=η BW d;obtain⟨x0,x1,_,_⟩:=β ((d.block _ o_).trans b0);by_cases am:j<M.n
     . have a0:=(hV.below s).acc k al;have a1:=(hV.below s).acc j am;have t0:=b.top.cell al;rw[if_pos (show k<k+1 by omega)]at t0;have r0:=(b.row k o_).cell am;have r1:=(b.row k o_).frozen j;obtain⟨dv,G⟩:=δ (z k j);rw[G.out]at r0;have A:Hid _:=b;have F:Hid _:=d;have HE:Hid _:=U;have HF:Hid _:=X;have ay:=b.lr k o_;clear b d U X s;go_wp2_with fail;go_region
       go_wp2_with fail;go_roundw
       case rel=>
        refine⟨j+1,upd z k j (M.acc k !=M.acc j),o_,by go_num,F.out.drew.setCell (p:=⟨rb' k,j,none⟩) ay _,(A.out.below (μ.drew)).set o_ _,fun x y hx hy=> ?_,fun y hy=> ?_⟩
        . unfold upd;rw[if_neg o_];exact HE.out x y hx hy
        . unfold upd;by_cases e:y=j
          . subst e;simp
          . rw[if_neg o_,HF.out y hy];by_cases h':y<j
            . rw[if_pos h',if_pos o_]
            . rw[if_neg h',if_neg o_]
       case measure=>exact c_
     . have u:j=M.n:=o_;subst u;have A:Hid _:=b;have F:Hid _:=d;have HE:Hid _:=U;have HF:Hid _:=X;clear b d U X;go_wp2_with fail;go_roundw
       case rel=>
        refine⟨k+1,rb',z,o_,by go_num,F.out,A.out,fun x y hx hy=> ?_⟩;by_cases e:x=k
        . subst e;rw[HF.out y hy,if_pos hy]
        . exact HE.out x y o_ hy
       case measure=>exact c_
  . have u:k=M.n:=o_;subst u;have l:i6_ M D:=by
     refine⟨fun x y hx hy hd=> ?_,fun x y hx hy=> ?_,fun x y hx hy hd=> ?_⟩
     . rw[B x y hx hy]at hd;exact⟨[],by intro c Z;simp at Z,by simpa [γ.read] using hd⟩
     . rw[B x y hx hy,B y x hy hx];cases M.acc x<;>cases M.acc y<;>rfl
     . rw[B x y hx hy];simpa using hd
    clear ar B;go_wp2_with fail;go_loopg [7,8,9,10] (i5_ M.n D+1) (fun gk a _ _ _ wr=>∃(g:Bool) (D:Nat->Nat->Bool),a= .bool g/\Below (w.heap.size+1) W wr/\c4_ wr (w.heap.size+1) (w.heap.size+1) M.n M.n m D/\i6_ M D/\gk=i5_ M.n D+(if g then 1 else 0)/\(g=false->∀x y c',y<x->x<M.n->c'<8->D (M.b7 x c') (M.b7 y c')=true->D x y=true))
    case atStart=>exact⟨true,D,rfl,d,b,l,rfl,fun e=>by cases e⟩
    case round=>
     clear l d b;obtain⟨g,C,rfl,d,b,l,rfl,aq⟩:=hrel;have ap:Hid _:=b;have an:Hid _:=d;have ao:Hid _:=l;have au:Hid _:=aq;clear b d l aq;cases g
     . go_wp2_with fail;go_ret;exact⟨BW.trans (an.out.mono o_),w.heap.size+1,m,C,rfl,ap.out,ao.out.all hnx (au.out (by trivial))⟩
     . go_wp2_with fail;rename World=>wo
       go_loopw [7,8,9,10] (fun a i' _ _ wi=>∃(g:Bool) (i:Nat) (D:Nat->Nat->Bool),a= .bool g/\i<=M.n/\i'= .int .i64 i/\Below (w.heap.size+1) W wi/\c4_ wi (w.heap.size+1) (w.heap.size+1) M.n M.n m D/\i6_ M D/\fm_ M C D g i 0 0)
        (fun _ i' _ _ _=>M.n - (intOf i').toNat)
       case atStart=>exact⟨false,0,C,rfl,o_,rfl,an.out,ap.out,ao.out,⟨fun _ _ _ _ h=>h,(fun e=>by cases e),fun _ _ _ _ _=>rfl,fun _ x y c' h1 h2 h3 h4=>o_⟩⟩
       case round=>
        obtain⟨g,i,N,rfl,v,rfl,d,b,l,t⟩:=hrel;have ah:Hid _:=b;have aa:Hid _:=d;have ae:Hid _:=l;have I:Hid _:=t;clear b d l t;by_cases r:i<M.n
        . go_wp2_with fail;go_loopw [7,9,10] (fun a j' _ wi=>∃(g:Bool) (j:Nat) (D:Nat->Nat->Bool),a= .bool g/\j<=i/\j'= .int .i64 j/\Below (w.heap.size+1) W wi/\c4_ wi (w.heap.size+1) (w.heap.size+1) M.n M.n m D/\i6_ M D/\fm_ M C D g i j 0)
           (fun _ j' _ _=>i - (intOf j').toNat)
          case atStart=>exact⟨g,0,N,rfl,o_,rfl,aa.out,ah.out,ae.out,I.out⟩
          case round=>
           clear ah aa ae I;obtain⟨g,j,D3,rfl,hj,rfl,d,b,l,t⟩:=hrel;have ai:Hid _:=b;have ab:Hid _:=d;have af:Hid _:=l;have aj:Hid _:=t;clear b d l t;by_cases am:j<i
           . go_wp2_with fail;go_loopw [7,10] (fun a c' wi=>∃(g:Bool) (c:Nat) (D:Nat->Nat->Bool),a= .bool g/\c<=8/\c'= .int .i64 c/\Below (w.heap.size+1) W wi/\c4_ wi (w.heap.size+1) (w.heap.size+1) M.n M.n m D/\i6_ M D/\fm_ M C D g i j c)
              (fun _ c' _=>8 - (intOf c').toNat)
             case atStart=>exact⟨g,0,D3,rfl,o_,rfl,ab.out,ai.out,af.out,aj.out⟩
             case round=>
              clear ai ab af aj;obtain⟨g,c,E,rfl,Z,rfl,d,b,l,t⟩:=hrel;have s:=η BW d;have o:j<M.n:=o_;have ti:=b.top.cell r;have tj:=b.top.cell o;rw[if_pos r]at ti;rw[if_pos o]at tj;have aD:=(b.row i r).cell o;obtain⟨dv,G⟩:=δ (E i j);rw[G.out]at aD;have S:Hid _:=b;have O:Hid _:=d;have H:Hid _:=l;have T:Hid _:=t;obtain⟨x0,x1,_,_⟩:=β ((d.block _ o_).trans b0);by_cases K:c<8
              . cases dv
                . have y0:=(hV.below s).row i r;have y1:=(hV.below s).cT i c r K;have y2:=(hV.below s).row j o;have y3:=(hV.below s).cT j c o K;have L:=hnx i c r K;have n2:=hnx j c o K;obtain⟨ni,Q⟩:=δ (M.b7 i c);obtain⟨nj,R⟩:=δ (M.b7 j c);rw[Q.out]at y1 L;rw[R.out]at y3 n2;have tn:=b.top.cell L;rw[if_pos L]at tn;have rn:=(b.row ni L).cell n2;obtain⟨nv,ag⟩:=δ (E ni nj);rw[ag.out]at rn;have aJ:=(b.row j o).cell r;have aH:=(b.row i r).frozen j;have aI:=(b.row j o).frozen i;have aG:¬m i=m j:=b.inj i j r o o_
                  have aE:¬w.heap.size+1=m i:=n5_ b.top (b.row i r) d_;have aF:¬w.heap.size+1=m j:=n5_ b.top (b.row j o) d_;have aA:=b.lr i r;have aB:=b.lr j o;clear b d l t s;cases nv
                  . go_wp2_with fail;go_quiet (fail);go_wp2_with fail;go_roundw
                    case rel=>exact⟨g,c+1,E,rfl,o_,by go_num,below_drewN O.out _,S.out.below (below_drewN μ _),H.out,T.out.pass (by rw[Q.out,R.out];exact ag.out)⟩
                    case measure=>exact c_
                  . go_wp2_with fail;go_quiet (fail);go_wp2_with fail;go_roundw
                    case rel=>
                     have hA:e5_ M i j:=aor_ K (H.out.sound _ _ (by rw[Q.out];exact L) (by rw[R.out];exact n2) (by rw[Q.out,R.out];exact ag.out));refine⟨true,c+1,upd (upd E i j true) j i true,rfl,o_,by go_num, ?_, ?_,H.out.put hA,T.out.put r o G.out _⟩
                     . exact((below_drewN O.out _).setCell (p:=⟨m i,j,none⟩) aA _).setCell (p:=⟨m j,i,none⟩) aB _
                     . exact((S.out.below (below_drewN μ _)).set r true).set o true
                    case measure=>exact c_
                . clear b d l t s;go_wp2_with fail;go_roundw
                  case rel=>exact⟨g,j+1,E,rfl,o_,by go_num,O.out,S.out,H.out,T.out.fe G.out⟩
                  case measure=>exact c_
              . have u:c=8:=o_;subst u;clear b d l t s;go_wp2_with fail;go_roundw
                case rel=>exact⟨g,j+1,E,rfl,o_,by go_num,O.out,S.out,H.out,T.out.fg⟩
                case measure=>exact c_
           . have u:j=i:=o_;subst u;go_wp2_with fail;go_roundw
             case rel=>exact⟨g,j+1,D3,rfl,o_,by go_num,ab.out,ai.out,af.out,aj.out.row⟩
             case measure=>exact c_
        . have u:i=M.n:=o_;subst u;go_wp2_with fail;go_roundg (i5_ M.n N+(if g then 1 else 0))
          case measure=>
           cases g
           . have:i5_ M.n N=i5_ M.n C:=by
              unfold i5_;congr 1
              apply filter_congr;intro q hq;have ax:q<M.n*M.n:=by simpa using hq
              have hn:0<M.n:=o_;rw[I.out.same rfl _ _ (Nat.div_lt_of_lt_mul ax) (mod_lt _ hn)]
             simp;omega
           . have:=I.out.less rfl;simp;omega
          case rel=>
           refine⟨g,N,rfl,aa.out,ah.out,ae.out,rfl,fun e x y c' hyx hx Z hd=>I.out.dt e x y c' hyx hx Z (.inl hx) hd⟩
end Go.Proofs.YtpngikmcjkjdaaaGreatDoor
