import Derived.Test.YtpngikmcjkjdaaaGreatDoorA10
set_option linter.unusedVariables false
set_option linter.unusedSimpArgs false
set_option maxRecDepth 20000
set_option maxHeartbeats 80000000
namespace Go.Proofs.YtpngikmcjkjdaaaGreatDoor
open Go.RowKit Tryz List Nat
variable {ca cn na nn:Nat} {A:Nat->Bool} {rc rl:Nat->Nat} {X:Nat->Nat->Int} {aa an:Option Addr} {w:World}
structure aj_ where
 (aa an:Option Addr)
 (na ca nn cn:Nat)
 (ra:Nat->Option Addr)
 (rl rc:Nat->Nat)
def aj_.val (r:aj_):Value:= .agg #[.slice r.aa r.na r.ca,.slice r.an r.nn r.cn]
structure az_ (w:World)(r:aj_)(A:Nat->Bool)(X:Nat->Nat->Int):Prop where
 la:r.na<=9223372036854775807
 ln:r.nn<=9223372036854775807
 lr:∀i,i<r.nn->r.rl i<=9223372036854775807
 acc:∀i,i<r.na->∃b o,r.aa=some ⟨b,o,none⟩/\w.cell? ⟨b,o+i,none⟩=some (.bool (A i))
 row:∀i,i<r.nn->∃b o,r.an=some ⟨b,o,none⟩/\w.cell? ⟨b,o+i,none⟩=some (.slice (r.ra i) (r.rl i) (r.rc i))
 cel:∀i c,i<r.nn->c<r.rl i->∃b o,r.ra i=some ⟨b,o,none⟩/\w.cell? ⟨b,o+c,none⟩=some (.int .i64 (X i c))
theorem az_.below {w':World}{r:aj_}(h:az_ w r A X)(hb:Bl w w'):az_ w' r A X:=
 ⟨h.la,h.ln,h.lr,fun i hi=>by obtain⟨b,o,e,hc⟩:=h.acc i hi;exact⟨b,o,e,by rw[(bc_ hb).1 _ _ (Ψ hc)];exact hc⟩,
  fun i hi=>by obtain⟨b,o,e,hc⟩:=h.row i hi;exact⟨b,o,e,by rw[(bc_ hb).1 _ _ (Ψ hc)];exact hc⟩,
  fun i c hi hc=>by obtain⟨b,o,e,hcc⟩:=h.cel i c hi hc;exact⟨b,o,e,by rw[(bc_ hb).1 _ _ (Ψ hcc)];exact hcc⟩⟩
def df_ (r:aj_)(X:Nat->Nat->Int):Nat->Bool
 |0=>true
 |k+1=>df_ r X k&&(decide (r.rl k=8)&&dn_ (X k) r.nn 8)
theorem ty_ (r:aj_)(X:Nat->Nat->Int)(k:Nat):df_ r X k=true↔∀i,i<k->r.rl i=8/\∀c,c<8->0<=X i c/\X i c<r.nn:=by
 induction k with
 |zero=>simp[df_]
 |succ k ih=>
  simp only[df_,Bool.and_eq_true,ih,decide_eq_true_eq,rx_];constructor
  . rintro⟨h,a⟩ c hc;by_cases e:c=k
    . subst e;exact a
    . exact h c o_
  . intro h;exact⟨fun c hc=>h c o_,h k o_⟩
theorem n7_ (r:aj_)(X:Nat->Nat->Int)(k m:Nat)(hk:k<=m)(h:df_ r X k=false):df_ r X m=false:=by
 rw[Bool.eq_false_iff]at h ⊢;intro a;apply h;rw[ty_]at a ⊢;exact fun c hc=>a c o_
def Ο (r:aj_)(X:Nat->Nat->Int):Bool:=(decide (1<=r.nn)&&decide (r.nn<=40))&&(decide (r.na=r.nn)&&df_ r X r.nn)
def by_ (r:aj_)(A:Nat->Bool)(X:Nat->Nat->Int):γ:=⟨r.nn,A,fun i c=>(X i c).toNat⟩
theorem fd_ {r:aj_}(h:Ο r X=true):(by_ r A X).Ok:=by
 simp only[Ο,Bool.and_eq_true,decide_eq_true_eq,ty_]at h;refine⟨h.1.1,h.1.2,fun i c hi hc=> ?_⟩;have:=(h.2.2 i hi).2 c hc;simp only[by_];omega
theorem ex_ {r:aj_}(hr:az_ w r A X)(h:Ο r X=true):
 ∃V:ρ,r.val= .agg #[.slice (some ⟨V.ba,V.oa,none⟩) (by_ r A X).n V.ca,.slice (some ⟨V.bn,V.on,none⟩) (by_ r A X).n V.cn]/\π w V (by_ r A X):=by
 simp only[Ο,Bool.and_eq_true,decide_eq_true_eq,ty_]at h;obtain⟨⟨m,q⟩,h3,h4⟩:=h;obtain⟨ba,oa,g,_⟩:=hr.acc 0 o_;obtain⟨bn,on,j,_⟩:=hr.row 0 o_;have f:∀i,∃p:Nat×Nat,i<r.nn->r.ra i=some ⟨p.1,p.2,none⟩:=fun i=>by
  by_cases a:i<r.nn
  . obtain⟨b,o,e,_⟩:=hr.cel i 0 a (by rw[(h4 i a).1];omega);exact⟨(b,o),fun _=>e⟩
  . exact⟨(0,0),fun h=>absurd h a⟩
 refine⟨⟨ba,oa,r.ca,bn,on,r.cn,fun i=>(Classical.choose (f i)).1,fun i=>(Classical.choose (f i)).2,r.rc⟩, ?_,⟨fun i a=> ?_,fun i a=> ?_,fun i c a d=> ?_⟩⟩
 . simp only[aj_.val,by_,g,j,h3]
 . obtain⟨b,o,e,d⟩:=hr.acc i (by rw[h3];exact a);rw[g]at e;cases e;exact d
 . obtain⟨b,o,e,d⟩:=hr.row i a;rw[j]at e;cases e;rw[Classical.choose_spec (f i) a,(h4 i a).1]at d;exact d
 . obtain⟨b,o,e,k⟩:=hr.cel i c a (by rw[(h4 i a).1];exact d);have l:=Classical.choose_spec (f i) a;rw[l]at e;cases e;have:=(h4 i a).2 c d;rw[k];simp only[by_];rw[show(((X i c).toNat:Nat):Int)=X i c by omega]
theorem n8_ (r:aj_)(A:Nat->Bool)(X:Nat->Nat->Int)(w:World)(h:az_ w r A X):
 Calls prog 120 #[.agg #[.slice r.aa r.na r.ca,.slice r.an r.nn r.cn]] w fun e w'=>e= .returned (.bool (Ο r X))/\Bl w w':=by
 have K:=h.ln;have a:Bl w (w.alloc (.cells #[.slice r.aa r.na r.ca,.slice r.an r.nn r.cn] 41)):=μ.alloc ι _;by_cases B:1<=r.nn
 . by_cases z:r.nn<=40
   . by_cases l:r.na=r.nn
     . have e:Ο r X=df_ r X r.nn:=by simp[Ο,B,z,l]
       rw[e];have g:=h.below a;have D:((r.na:Int) !=(r.nn:Int))=false:=by simp[l]
       have E:((r.na:Int)==(r.nn:Int))=true:=by simp[l]
       clear e h l;go_enter func120,ntmps120;go_wp2_with fail;go_loop [5,25] (fun _ i=>∃k:Nat,k<=r.nn/\i= .int .i64 k/\df_ r X k=true) (fun _ i=>r.nn - (intOf i).toNat)
       case atStart=>exact⟨0,o_,rfl,rfl⟩
       case round=>
        obtain⟨k,J,rfl,f⟩:=hrel;by_cases t:k<r.nn
        . obtain⟨b,o,x,F⟩:=g.row k t;have H:=g.lr k t;have j:=fun c=>g.cel k c t
          have m:df_ r X (k+1)=(decide (r.rl k=8)&&dn_ (X k) r.nn 8):=by simp[df_,f]
          clear g;by_cases p:r.rl k=8
          . obtain⟨u,C,y,_⟩:=j 0 o_;have s:∀c,c<8->(w.alloc (.cells #[.slice r.aa r.na r.ca,.slice r.an r.nn r.cn] 41)).cell? ⟨u,C+c,none⟩=some (.int .i64 (X k c)):=fun c hc8=>by
             obtain⟨I,L,v,G⟩:=j c o_;rw[y]at v;cases v;exact G
            have n:=xk_ u C (r.rc k) (X k) r.nn _ s;rw[p,y]at F;have q:df_ r X (k+1)=dn_ (X k) r.nn 8:=by rw[m];simp[p]
            generalize r.an=an at*;subst x;cases hv:dn_ (X k) r.nn 8
            . rw[hv]at n;have d:Hid (df_ r X r.nn=false):=n7_ r X (k+1) _ o_ (by rw[q,hv]);clear m q f j s hv;go_wp2_with (go_at_call 157;refine n.mono ?_;rintro e w' ⟨rfl,rfl⟩);go_ret;exact⟨b6_ d.out.symm,a⟩
            . rw[hv]at n;have d:Hid (df_ r X (k+1)=true):=by unfold Hid;rw[q,hv]
              clear m q f j s hv;go_wp2_with (go_at_call 157;refine n.mono ?_;rintro e w' ⟨rfl,rfl⟩);go_round
              case rel=>exact⟨k+1,o_,by go_num,d.out⟩
              case measure=>exact c_
          . have d:Hid (df_ r X r.nn=false):=n7_ r X (k+1) _ o_ (by rw[m];simp[p]);generalize r.an=an at*;subst x;clear m f j;go_wp2_with (go_at_call 157;refine(aft_ _ _ _ _ _ p H).mono ?_;rintro e w' ⟨rfl,rfl⟩);go_ret;exact⟨b6_ d.out.symm,a⟩
        . have e:k=r.nn:=o_;subst e;have d:=α f;clear f g;go_wp2_with fail;go_ret;exact⟨b6_ d.out.symm,a⟩
     . have e:Ο r X=false:=by simp[Ο,l]
       rw[e];have D:((r.na:Int)==(r.nn:Int))=false:=s_;have E:((r.na:Int) !=(r.nn:Int))=true:=s_;clear e h;go_enter func120,ntmps120;go_wp2_with fail;go_ret;exact⟨rfl,a⟩
   . have e:Ο r X=false:=by simp[Ο,z]
     rw[e];clear e h;go_enter func120,ntmps120;go_wp2_with fail;go_ret;exact⟨rfl,a⟩
 . have e:Ο r X=false:=by simp[Ο,B]
   rw[e];clear e h;go_enter func120,ntmps120;go_wp2_with fail;go_ret;exact⟨rfl,a⟩
theorem aaq_ {ra:Nat->Option Addr}(h:az_ w ⟨aa,an,na,ca,nn,cn,ra,rl,rc⟩ A X)(i:Nat)(hi:i<na):
 ∃b o,aa=some ⟨b,o,none⟩/\w.cell? ⟨b,o+i,none⟩=some (.bool (A i)):=h.acc i hi
theorem aar_ {ra:Nat->Option Addr}(h:az_ w ⟨aa,an,na,ca,nn,cn,ra,rl,rc⟩ A X)(i:Nat)(hi:i<nn):
 ∃b o,an=some ⟨b,o,none⟩/\w.cell? ⟨b,o+i,none⟩=some (.slice (ra i) (rl i) (rc i)):=h.row i hi
theorem aas_ {ra:Nat->Option Addr}(h:az_ w ⟨aa,an,na,ca,nn,cn,ra,rl,rc⟩ A X)(i c:Nat)(hi:i<nn)(hc:c<rl i):
 ∃b o,ra i=some ⟨b,o,none⟩/\w.cell? ⟨b,o+c,none⟩=some (.int .i64 (X i c)):=h.cel i c hi hc
theorem aat_ (aa an bb bn:Option Addr)(na ca cb nn cn dn:Nat)(ra rb:Nat->Option Addr)(rl rc rd:Nat->Nat)(A:Nat->Bool)(X:Nat->Nat->Int)(w:World)
 (h1:az_ w ⟨aa,an,na,ca,nn,cn,ra,rl,rc⟩ A X) (h2:az_ w ⟨bb,bn,na,cb,nn,dn,rb,rl,rd⟩ A X):
 Calls prog 58 #[.agg #[.slice aa na ca,.slice an nn cn],.agg #[.slice bb na cb,.slice bn nn dn]] w fun e w'=>e= .returned (.bool true)/\Bl w w':=by
 have M:na<=9223372036854775807:=h1.la;have N:nn<=9223372036854775807:=h1.ln;obtain⟨W,t,g,y,z⟩:=bl_ w #[.slice aa na ca,.slice an nn cn] 41 #[.slice bb na cb,.slice bn nn dn] 41;have d:=h1.below g;have f:=h2.below g;have x:=α h1.lr;clear h1 h2;obtain⟨S,T,_,_⟩:=β y;obtain⟨U,V,_,_⟩:=β z;have s:((nn:Int) !=(nn:Int))=false:=i_;go_enter func58,ntmps58;go_upto_region 1 with fail;rw[<-t];clear t;go_wp2_with fail;clear s;go_loopw [5] (fun i' wr=>∃i q:Nat,i<=na/\i'= .int .i64 i/\wr=W.drewN q) (fun i' _=>na - (intOf i').toNat)
 case atStart=>exact⟨0,0,o_,rfl,rfl⟩
 case round=>
  obtain⟨i,q,K,rfl,rfl⟩:=hrel;by_cases u:i<na
  . obtain⟨B,H,rfl,k⟩:=aaq_ d i u;obtain⟨C,I,rfl,m⟩:=aaq_ f i u;have F:(A i !=A i)=false:=i_;clear d f;go_wp2_with fail;go_quiet (fail);go_wp2_with fail;go_roundw
    case rel=>exact⟨i+1,_,o_,by go_num,rfl⟩
    case measure=>exact c_
  . have a:i=na:=o_;subst a;go_wp2_with fail;go_loopw [6] (fun j' wr=>∃j q:Nat,j<=nn/\j'= .int .i64 j/\wr=W.drewN q) (fun j' _=>nn - (intOf j').toNat)
    case atStart=>exact⟨0,_,o_,rfl,rfl⟩
    case round=>
     obtain⟨j,Q,L,rfl,rfl⟩:=hrel;by_cases b:j<nn
     . obtain⟨B,H,rfl,k⟩:=aar_ d j b;obtain⟨C,I,rfl,m⟩:=aar_ f j b;have G:=x.out j b;have n:Hid _:=fun c=>aas_ d j c b
       have r:Hid _:=fun c=>aas_ f j c b
       obtain⟨l,h⟩:=δ (rl j);rw[h.out]at k m G;have s:((l:Int) !=(l:Int))=false:=i_;clear d f;go_wp2_with fail;go_quiet (fail);go_wp2_with fail;go_loopw [7] (fun c' wr=>∃c q:Nat,c<=l/\c'= .int .i64 c/\wr=W.drewN q) (fun c' _=>l - (intOf c').toNat)
       case atStart=>exact⟨0,_,o_,rfl,World.drewN_drewN _ _ _⟩
       case round=>
        obtain⟨c,R,J,rfl,rfl⟩:=hrel;by_cases v:c<l
        . obtain⟨p,o,D,d0⟩:=n.out c (by rw[h.out];exact v);obtain⟨P,O,E,d1⟩:=r.out c (by rw[h.out];exact v);rw[D]at k;rw[E]at m;have F:(X j c !=X j c)=false:=i_;clear n r;go_wp2_with fail;go_quiet (fail);go_wp2_with fail;go_roundw
          case rel=>exact⟨c+1,_,o_,by go_num,rfl⟩
          case measure=>exact c_
        . have a:c=l:=o_;subst a;go_wp2_with fail;go_roundw
          case rel=>exact⟨j+1,_,o_,by go_num,rfl⟩
          case measure=>exact c_
     . have a:j=nn:=o_;subst a;go_wp2_with fail;go_ret;exact⟨rfl,below_drewN g _⟩
theorem li_ (r:aj_)(A:Nat->Bool)(X:Nat->Nat->Int)(w:World)(h:az_ w r A X):
 Calls prog 75 #[.agg #[.slice r.aa r.na r.ca,.slice r.an r.nn r.cn]] w fun e w'=>e= .returned (.bool (Ο r X))/\Bl w w':=by
 have S:=h.ln;obtain⟨W,l,d,-,j⟩:=ν w #[.slice r.aa r.na r.ca,.slice r.an r.nn r.cn] 41;obtain⟨V,Y,_,_⟩:=β j;by_cases C:1<=r.nn
 . by_cases B:r.nn<=40
   . by_cases m:r.na=r.nn
     . have e:Ο r X=df_ r X r.nn:=by simp[Ο,C,B,m]
       rw[e];have p:=h.below d;have G:((r.na:Int) !=(r.nn:Int))=false:=by simp[m]
       have H:((r.na:Int)==(r.nn:Int))=true:=by simp[m]
       clear e h m j;go_enter func75,ntmps75;go_wp2_with fail;rw[<-l];clear l;go_loop [4] (fun i=>∃k:Nat,k<=r.nn/\i= .int .i64 k/\df_ r X k=true) (fun i=>r.nn - (intOf i).toNat)
       case atStart=>exact⟨0,o_,rfl,rfl⟩
       case round=>
        obtain⟨k,R,rfl,n⟩:=hrel;by_cases D:k<r.nn
        . obtain⟨b,o,x,I⟩:=p.row k D;have q:=fun c=>p.cel k c D
          have s:df_ r X (k+1)=(decide (r.rl k=8)&&dn_ (X k) r.nn 8):=by simp[df_,n]
          clear p;by_cases u:r.rl k=8
          . obtain⟨F,N,y,_⟩:=q 0 o_;have z:∀c,c<8->W.cell? ⟨F,N+c,none⟩=some (.int .i64 (X k c)):=fun c K=>by
             obtain⟨O,U,v,J⟩:=q c o_;rw[y]at v;cases v;exact J
            rw[u,y]at I;have t:Hid (df_ r X (k+1)=dn_ (X k) r.nn 8):=by unfold Hid;rw[s];simp[u]
            have E:=α z;generalize r.an=an at*;subst x;clear s n q z;go_wp2_with fail;go_loop [5] (fun c'=>∃c:Nat,c<=8/\c'= .int .i64 c/\dn_ (X k) r.nn c=true) (fun c'=>8 - (intOf c').toNat)
            case atStart=>exact⟨0,o_,rfl,rfl⟩
            case round=>
             obtain⟨c,K,rfl,f⟩:=hrel;by_cases M:c<8
             . have Z:=E.out c M;have g:dn_ (X k) r.nn (c+1)=(decide (0<=X k c)&&decide (X k c<r.nn)):=by simp[dn_,f]
               by_cases P:X k c<0
               . have a:Hid (df_ r X r.nn=false):=n7_ r X (k+1) _ o_ (by rw[t.out];exact pl_ _ _ (c+1) 8 o_ (by rw[g];simp;omega));clear g f;generalize X k c=xv at*;go_wp2_with fail;go_ret;exact⟨b6_ a.out.symm,d⟩
               . by_cases T:X k c<r.nn
                 . have a:Hid (dn_ (X k) r.nn (c+1)=true):=by unfold Hid;rw[g];simp;omega
                   clear g f;generalize X k c=xv at*;go_wp2_with fail;go_round
                   case rel=>exact⟨c+1,o_,by go_num,a.out⟩
                   case measure=>exact c_
                 . have a:Hid (df_ r X r.nn=false):=n7_ r X (k+1) _ o_ (by rw[t.out];exact pl_ _ _ (c+1) 8 o_ (by rw[g];simp;omega));clear g f;generalize X k c=xv at*;go_wp2_with fail;go_ret;exact⟨b6_ a.out.symm,d⟩
             . have L:c=8:=o_;subst L;have a:Hid (df_ r X (k+1)=true):=by unfold Hid;rw[t.out];exact f
               clear f;go_wp2_with fail;go_round
               case rel=>exact⟨k+1,o_,by go_num,a.out⟩
               case measure=>exact c_
          . have a:Hid (df_ r X r.nn=false):=n7_ r X (k+1) _ o_ (by rw[s];simp[u]);generalize r.an=an at*;subst x;have Q:((r.rl k:Int) !=8)=true:=s_;clear s n q;go_wp2_with fail;go_ret;exact⟨b6_ a.out.symm,d⟩
        . have e:k=r.nn:=o_;subst e;have a:=α n;clear n p;go_wp2_with fail;go_ret;exact⟨b6_ a.out.symm,d⟩
     . have e:Ο r X=false:=by simp[Ο,m]
       rw[e];have G:((r.na:Int)==(r.nn:Int))=false:=s_;have H:((r.na:Int) !=(r.nn:Int))=true:=s_;clear e h j;go_enter func75,ntmps75;go_wp2_with fail;rw[<-l];go_ret;exact⟨rfl,d⟩
   . have e:Ο r X=false:=by simp[Ο,B]
     rw[e];clear e h j;go_enter func75,ntmps75;go_wp2_with fail;rw[<-l];go_ret;exact⟨rfl,d⟩
 . have e:Ο r X=false:=by simp[Ο,C]
   rw[e];clear e h j;go_enter func75,ntmps75;go_wp2_with fail;rw[<-l];go_ret;exact⟨rfl,d⟩
theorem kn_ (V:ρ)(M:γ)(w:World)(hM:M.Ok)(h:π w V M):
 Calls prog 75 #[.agg #[.slice (some ⟨V.ba,V.oa,none⟩) M.n V.ca,.slice (some ⟨V.bn,V.on,none⟩) M.n V.cn]] w
  fun e w'=>e= .returned (.bool true)/\Bl w w':=by
 have p:=hM.lo;have q:=hM.hi;obtain⟨W,g,d,-,f⟩:=ν w #[.slice (some ⟨V.ba,V.oa,none⟩) M.n V.ca,.slice (some ⟨V.bn,V.on,none⟩) M.n V.cn] 41;obtain⟨s,t,_,_⟩:=β f;have a:=h.below d;go_enter func75,ntmps75;go_wp2_with fail;rw[<-g];clear g h f;go_loop [4] (fun i'=>∃i:Nat,i<=M.n/\i'= .int .i64 i) (fun i'=>M.n - (intOf i').toNat)
 case atStart=>exact⟨0,o_,rfl⟩
 case round=>
  obtain⟨i,o,rfl⟩:=hrel;by_cases b:i<M.n
  . have u:=a.row i b;have l:Hid (∀c,c<8->W.cell? ⟨V.rb i,V.ro i+c,none⟩=some (.int .i64 (M.nxt i c))):=fun c=>a.cel i c b
    have k:Hid (∀c,c<8->M.nxt i c<M.n):=fun c=>hM.nx i c b
    clear a;go_wp2_with fail;go_loop [5] (fun c'=>∃c:Nat,c<=8/\c'= .int .i64 c) (fun c'=>8 - (intOf c').toNat)
    case atStart=>exact⟨0,o_,rfl⟩
    case round=>
     obtain⟨c,m,rfl⟩:=hrel;by_cases j:c<8
     . have v:=l.out c j;have r:=k.out c j;generalize M.nxt i c=nv at*;go_wp2_with fail;go_round
       case rel=>exact⟨c+1,o_,by go_num⟩
       case measure=>exact c_
     . go_wp2_with fail;go_round
       case rel=>exact⟨i+1,o_,by go_num⟩
       case measure=>exact c_
  . clear a;go_wp2_with fail;go_ret;exact⟨rfl,d⟩
theorem ko_ (s:ByteArray)(most:Nat)(w:World)(hs:s.size<=maxLen)(hm:most<=100000):
 Calls prog 61 #[.string s,.int .i64 most] w fun e w'=>e= .returned (.bool (decide (s.size<=most)&&as_ s s.size))/\w'=w:=by
 unfold maxLen at hs;by_cases h:s.size<=most
 . have e:(decide (s.size<=most)&&as_ s s.size)=as_ s s.size:=by simp[h]
   rw[e];clear e;go_enter func61,ntmps61;go_wp2_with fail;go_loop [5] (fun i'=>∃i:Nat,i<=s.size/\i'= .int .i64 i/\as_ s i=true) (fun i'=>s.size - (intOf i').toNat)
   case atStart=>exact⟨0,o_,rfl,rfl⟩
   case round=>
    obtain⟨i,m,rfl,b⟩:=hrel;by_cases k:i<s.size
    . have d:=l1_ s i k;have c:as_ s (i+1)=(decide (97<=s[i].toNat)&&decide (s[i].toNat<=104)):=by simp only[as_,b,Bool.true_and,d]
      by_cases g:97<=s[i].toNat
      . by_cases f:s[i].toNat<=104
        . have a:Hid (as_ s (i+1)=true):=by unfold Hid;rw[c];simp[g,f]
          have j:¬((s[i].toNat:Int)<97):=o_;have l:¬((104:Int)<(s[i].toNat:Int)):=o_;clear c d b;go_wp2_with fail;go_round
          case rel=>exact⟨i+1,o_,by go_num,a.out⟩
          case measure=>exact c_
        . have a:Hid (as_ s s.size=false):=rz_ s (i+1) _ o_ (by rw[c];simp[f]);have j:¬((s[i].toNat:Int)<97):=o_;have l:(104:Int)<(s[i].toNat:Int):=o_;clear c d b;go_wp2_with fail;go_ret;exact⟨b6_ a.out.symm,rfl⟩
      . have a:Hid (as_ s s.size=false):=rz_ s (i+1) _ o_ (by rw[c];simp[g]);have j:(s[i].toNat:Int)<97:=o_;clear c d b;go_wp2_with fail;go_ret;exact⟨b6_ a.out.symm,rfl⟩
    . have e:i=s.size:=o_;subst e;have a:=α b;clear b;go_wp2_with fail;go_ret;exact⟨b6_ a.out.symm,rfl⟩
 . have e:(decide (s.size<=most)&&as_ s s.size)=false:=by simp[h]
   rw[e];clear e;go_enter func61,ntmps61;go_wp2_with fail;go_ret;exact⟨rfl,rfl⟩
theorem anr_ (c:Nat)(h:c<8):IntKind.i64.wrap (97+(c:Int))=97+(c:Int):=by rw[IntKind.wrap_i64];omega
theorem ans_ (c:Nat)(h:c<8):IntKind.i64.wrap (c:Int)=(c:Int):=by rw[IntKind.wrap_i64];omega
theorem aau_ (V:ρ)(M:γ)(s:ByteArray)(w:World)(hM:M.Ok)(h:π w V M)(hs:dh_ s)(hl:s.size<=1000):
 Calls prog 76 #[.agg #[.slice (some ⟨V.ba,V.oa,none⟩) M.n V.ca,.slice (some ⟨V.bn,V.on,none⟩) M.n V.cn],.string s] w
  fun e w'=>e= .returned (.bool (M.accepts (ar_ s)))/\Bl w w':=by
 have B:=hM.lo;have z:=hM.hi;obtain⟨W,o,j,-,m⟩:=ν w #[.slice (some ⟨V.ba,V.oa,none⟩) M.n V.ca,.slice (some ⟨V.bn,V.on,none⟩) M.n V.cn] 41;obtain⟨D,E,_,_⟩:=β m;have b:=h.below j;go_enter func76,ntmps76;go_wp2_with fail;rw[<-o];clear o h m;go_loopw [5,6] (fun st i' wr=>∃k q:Nat,k<=s.size/\i'= .int .i64 k/\st= .int .i64 (M.read 0 ((ar_ s).take k))/\wr=W.drewN q) (fun _ i' _=>s.size - (intOf i').toNat)
 case atStart=>exact⟨0,0,zero_le _,rfl,rfl,rfl⟩
 case round=>
  obtain⟨k,q,A,rfl,rfl,rfl⟩:=hrel;have f:=γ.read_lt hM 0 o_ _ (xo_ (k5_ hs) k);by_cases p:k<s.size
  . have y:=pm_ hs k p;have l:=xl_ s k p;have d:(s[k].toNat - 97:Nat)<8:=o_;have i:Hid (((M.read 0 ((ar_ s).take (k+1)):Nat):Int)=(M.nxt (M.read 0 ((ar_ s).take k)) (s[k].toNat - 97):Nat)):=by
     unfold Hid;rw[l,γ.read_snoc]
    generalize M.read 0 ((ar_ s).take k)=st at*;have C:=b.row st f;have r:=b.cel st _ f d;obtain⟨a,g⟩:∃c,Hid (s[k].toNat - 97=c):=⟨s[k].toNat - 97,Eq.refl _⟩;have x:(s[k].toNat:Int)=97+(a:Int):=by have:=g.out;omega
    rw[g.out]at r d;have t:IntKind.i64.wrap (97+(a:Int))=97+(a:Int):=anr_ a d;have u:IntKind.i64.wrap (a:Int)=(a:Int):=ans_ a d;clear l b;go_wp2_with fail;go_quiet (fail);go_wp2_with fail;go_roundw
    case rel=>exact⟨k+1,_,o_,by go_num,by rw[i.out,g.out],rfl⟩
    case measure=>exact c_
  . have e:k=s.size:=o_;subst e;rw[tk_ (by rw[l0_];omega)]at f ⊢;have i:Hid (M.accepts (ar_ s)=M.acc (M.read 0 (ar_ s))):=rfl;generalize M.read 0 (ar_ s)=st at*;have v:=b.acc st f;clear b;go_wp2_with fail;go_ret;exact⟨b6_ i.out.symm,below_drewN j _⟩
end Go.Proofs.YtpngikmcjkjdaaaGreatDoor
