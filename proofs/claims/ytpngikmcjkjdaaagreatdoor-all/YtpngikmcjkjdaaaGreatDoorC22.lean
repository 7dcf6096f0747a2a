import Derived.Test.YtpngikmcjkjdaaaGreatDoorC16
import Derived.Test.YtpngikmcjkjdaaaGreatDoorC21
set_option linter.unusedVariables false
set_option linter.unusedSimpArgs false
set_option maxRecDepth 20000
set_option maxHeartbeats 80000000
namespace Go.Proofs.YtpngikmcjkjdaaaGreatDoor
open Go.RowKit Tryz List Nat
variable {s:ByteArray} {r:Int}
structure b7_ (E:Ex)(p:ζ):Prop where
 can:E.can
 lang:∀y,E.lang y↔p.norm.lang y
 dw:E.b9<=p.size
 wt:E.nm.length<=p.wt
 dp:E.dep<=p.dp
theorem x9_ (m:Mk)(q:ζ):(m.app q).norm=m.app q.norm:=by cases m<;>rfl
theorem b7_.rep {x:Ex}{q:ζ}(h:b7_ x q){m:Mk}(hm:m.ok):b7_ (x.cR m.lo m.hi) (m.app q):=
 ⟨ad6_ h.can _ _,fun y=>by rw[x9_];exact adv_ x q.norm h.lang m hm y,ady_ x q h.dw m hm,ae8_ x q h.wt m hm,ae9_ x q h.dp m hm⟩
theorem ya_ (p:ζ)(its:List Η):(bv_ p its).norm=bv_ p.norm (its.map fun i=>⟨i.la,i.q.norm,i.m⟩):=by
 induction its generalizing p with
 |nil=>rfl
 |cons i its ih=>
  show(bv_ (.chain p i.pat) its).norm=_
  rw[ih];show bv_ (.chain p.norm i.pat.norm) _=bv_ (.chain p.norm (Η.pat ⟨i.la,i.q.norm,i.m⟩)) _
  rw[show i.pat.norm=Η.pat ⟨i.la,i.q.norm,i.m⟩from x9_ i.m i.q]
theorem b7_.nil:b7_ .nil (bv_ .none []):=⟨trivial,fun y=>Iff.rfl,ι,ι,ι⟩
theorem b7_.cons {r e:Ex}{it:Η}{its:List Η}(hr:b7_ r it.pat)(he:b7_ e (bv_ .none its)):b7_ (r.cF e) (bv_ .none (it::its)):=by
 refine⟨nb_ hr.can he.can,fun y=> ?_, ?_, ?_, ?_⟩
 . rw[lb_,Cat.congr hr.lang he.lang y];show _↔(bv_ (.chain .none it.pat) its).norm.lang y
   rw[ya_,ya_];show Cat it.pat.norm.lang (bv_ .none _).lang y↔(bv_ (.chain .none it.pat.norm) _).lang y
   rw[adz_ (.chain .none it.pat.norm)];exact Cat.congr (fun u=>(l5_ u).symm) (fun _=>Iff.rfl) y
 . have b:=na_ r e;have c:=hr.dw;have a:=he.dw;rw[ra_]at a ⊢;simp only[map_cons,sum_cons,ζ.size]at a ⊢;omega
 . have b:=ne_ r e;have c:=hr.wt;have a:=he.wt;rw[wq_]at a ⊢;simp only[map_cons,sum_cons,ζ.wt]at a ⊢;omega
 . have b:=ru_ r e;have c:=hr.dp;have a:=he.dp;rw[ws_]at a ⊢;simp only[map_cons,sum_cons,ζ.dp]at a ⊢;omega
theorem b7_.alt {e x:Ex}{p q:ζ}(he:b7_ e p)(hx:b7_ x q):b7_ (e.di x) (.alt p q):=by
 refine⟨vh_ he.can hx.can,fun y=> ?_, ?_, ?_, ?_⟩
 . rw[xn_,he.lang y,hx.lang y];exact Iff.rfl
 . have a:=vb_ e x;have b:=he.dw;have c:=hx.dw;simp only[ζ.size];omega
 . have a:=wl_ e x;have b:=he.wt;have c:=hx.wt;simp only[ζ.wt];omega
 . have a:=wn_ e x;have b:=he.dp;have c:=hx.dp;simp only[ζ.dp];omega
def hx_ (p:ζ)(w:World)(e:Ending)(w':World):Prop:=∃g E,e= .returned (.pointer (some ⟨g,0,none⟩))/\Τ w' g E/\b7_ E p/\Bl w w'
theorem hx_.of {E:Ex}{p:ζ}{w w':World}{e:Ending}(h:j5_ E w e w')(hE:b7_ E p):hx_ p w e w':=by
 obtain⟨g,a,b,c⟩:=h;exact⟨g,E,a,b,hE,c⟩
theorem pz_ {S S':Nat->Bool}(h:∀c,c<8->S' c=S c)(h8:∀c,8<=c->S' c=false):b7_ (.one S') (.one S):=by
 have e:S'=fun c=>decide (c<8)&&S c:=by
  funext c;by_cases a:c<8
  . rw[h c a];simp[a]
  . rw[h8 c o_];simp[a]
 exact⟨h8,fun y=>by subst e;exact Iff.rfl,ι,ae2_ _,ι⟩
theorem p0_ (f:Nat->Bool):∀c,8<=c->(decide (c<8)&&f c)=false:=fun c hc=>by
 have:¬c<8:=o_;simp[this]
theorem yb_ (a:ByteArray)(la:List Nat)(q:ζ)(w:World)(hs:a.size<=40)(h:f9_ la q)(ha:txt a=la):θ a 0≠40/\1<=a.size/\Calls prog 154 #[.string a] w (hx_ q w):=by
 have m:a.size=la.length:=by rw[<-bm_,ha]
 rcases h with ⟨c,u,rfl,rfl⟩|⟨rfl,rfl⟩|⟨d,t,l,⟨rfl,rfl⟩|⟨rfl,rfl⟩⟩
 . have g:=(g0_ ha (j:=0) i_).2;refine⟨by rw[g];simp;omega,by rw[m];simp,(we_ a (97+c) w ha o_).mono (fun e w' h=>hx_.of h (pz_ (fun x hx=> ?_) (p0_ _)))⟩;have k:(97+c==46)=false:=s_;have n:(97+c==97+x)=decide (x=c):=by rw[Bool.eq_iff_iff];simp;omega
   rw[k,n];simp[hx]
 . have g:=(g0_ ha (j:=0) i_).2;refine⟨by rw[g];simp,by rw[m];simp,(we_ a 46 w ha o_).mono (fun e w' h=>hx_.of h (pz_ (fun x hx=>by simp[hx]) (p0_ _)))⟩
 . have g:=(g0_ ha (j:=0) i_).2;obtain⟨b,i,rfl⟩:∃b i,d=b::i:=by
    cases d with
    |nil=>exact absurd rfl t
    |cons b i=>exact⟨b,i,rfl⟩
   have s:=l b i_;have p:2<=a.size:=by rw[m];simp;omega
   have o:θ a 1=97+b.f:=by
    have:=(g0_ ha (j:=1) s_).2;rw[this,flatMap_cons];unfold Prt.text;cases b.dash<;>rfl
   refine⟨by rw[g];simp,o_,(wj_ a ((b::i).flatMap Prt.text++ [93]) false w hs (ha.trans i_) p (by rw[o];simp;have:=s.1;omega) (wh_ l)).mono (fun e w' h=>hx_.of h (pz_ (fun x hx=> ?_) (p0_ _)))⟩;have k:=wg_ l x hx;rw[wi_,Bool.false_or,<-k];simp only[hx,decide_true,Bool.true_and];cases ep_ ((b::i).flatMap Prt.text++ [93]) x<;>rfl
 . have g:=(g0_ ha (j:=0) i_).2;have p:2<=a.size:=by rw[m];simp
   have o:θ a 1=94:=by
    have:=(g0_ ha (j:=1) i_).2;rw[this];rfl
   have r:okL (94::d.flatMap Prt.text++ [93]):=⟨fun h=>by simp[σ]at h,wh_ l⟩;refine⟨by rw[g];simp,o_,(wj_ a (94::d.flatMap Prt.text++ [93]) true w hs (ha.trans i_) p (by rw[o];rfl) r).mono (fun e w' h=>hx_.of h (pz_ (fun x hx=> ?_) (p0_ _)))⟩;have k:=wg_ l x hx;have n:ep_ (94::d.flatMap Prt.text++ [93]) x=ep_ (d.flatMap Prt.text++ [93]) x:=by
    show((σ 94&&_&&_)||ep_ (d.flatMap Prt.text++ [93]) x)=_
    rw[show σ 94=false from rfl];simp
   rw[wi_,Bool.false_or,<-k,n];simp only[hx,decide_true,Bool.true_and];cases ep_ (d.flatMap Prt.text++ [93]) x<;>rfl
def sa_ (k:Nat):Prop:=∀(s:ByteArray) (p:ζ) (w:World),s.size<=40->gy_ (dr_ k) (txt s) p->Calls prog 73 #[.string s] w (hx_ p w)
def p1_ (k:Nat):Prop:=∀(y:ByteArray) (la:List Nat) (q:ζ) (w:World),y.size<=40->dr_ k la q->txt y=la->
 (1<=y.size/\θ y 0≠40/\Calls prog 154 #[.string y] w (hx_ q w))\/(θ y 0=40/\2<=y.size/\Calls prog 73 #[.string (y.extract 1 (y.size - 1))] w (hx_ q w))
theorem ahs_:p1_ 0:=fun y la q w hs h ht=>by
 obtain⟨h1,h2,h3⟩:=yb_ y la q w hs h ht;exact .inl ⟨h2,h1,h3⟩
theorem aht_ (k:Nat)(HM:sa_ k):p1_ (k+1):=by
 intro y m q w g h b;rcases h with h|⟨a,rfl,h⟩
 . obtain⟨d,e,f⟩:=yb_ y m q w g h b;exact .inl ⟨e,d,f⟩
 . have i:y.size=a.length+2:=by rw[<-bm_,b];simp
   have c:txt (y.extract 1 (y.size - 1))=a:=by
    rw[lq_];have:=(o8_ (s:=y) (pre:=[40]) (l:=a) (post:=[41]) (by rw[b];simp)).1;rw[i];simp only[ls_]at this;rw[show a.length+2 - 1=1+a.length by omega];exact this
   refine .inr ⟨?_,o_,HM _ _ w ?_ (by rw[c];exact h)⟩
   . have:=(g0_ b (j:=0) i_).2;rw[this];rfl
   . rw[<-bm_,c];omega
theorem ahu_ {its:List Η}{j:Nat}{it:Η}(h:its[j]? =some it):its.drop j=it::its.drop (j+1):=by
 have a:=(gs_.1 h).1;rw[drop_eq_getElem_cons a];rw[ge_ a]at h;simp at h;rw[h]
theorem ahv_ {m:Mk}(h:m.ok):m.lo<=9/\m.hi<=9/\(m.hi<0\/(m.lo:Int)<=m.hi):=by
 cases m with
 |none=>exact⟨by show 1<=9;omega,by show(1:Int)<=9;omega,.inr (by show(1:Int)<=1;omega)⟩
 |star=>exact⟨by show 0<=9;omega,by show(-1:Int)<=9;omega,.inl (by show(-1:Int)<0;omega)⟩
 |plus=>exact⟨by show 1<=9;omega,by show(-1:Int)<=9;omega,.inl (by show(-1:Int)<0;omega)⟩
 |opt=>exact⟨by show 0<=9;omega,by show(1:Int)<=9;omega,.inr (by show(0:Int)<=1;omega)⟩
 |just n=>have a:n<=9:=h;exact⟨a,by show(n:Int)<=9;omega,.inr (by show(n:Int)<=n;omega)⟩
 |more n=>have a:n<=9:=h;exact⟨a,by show(-1:Int)<=9;omega,.inl (by show(-1:Int)<0;omega)⟩
 |span n m=>have a:n<=m/\m<=9:=h;exact⟨by show n<=9;omega,by show(m:Int)<=9;omega,.inr (by show(n:Int)<=m;omega)⟩
theorem ahw_ (k:Nat)(HA:p1_ k)(s:ByteArray)(its:List Η)(w:World)(hs:s.size<=40)(hits:∀i∈its,dr_ k i.la i.q/\i.m.ok)(ht:txt s=its.flatMap Η.text):
 Calls prog 118 #[.string s] w (hx_ (bv_ .none its) w):=by
 have b:=v1_ k s its w hs hits ht;have aD:its.length<=s.size:=by have:=wb_ hits;rw[<-ht,bm_]at this;exact this
 have aB:Hid (∀(j:Nat) (c:Η),its[j]? =some c->dr_ k c.la c.q/\c.m.ok/\c.la.length<=s.size):=by
  intro j c U;have hm:=mem_of_getElem? U;obtain⟨h1,h2⟩:=hits c hm;refine⟨h1,h2, ?_⟩;obtain⟨aT,ah,_,_,_,_,h3,_⟩:=rj_ hits ht (j:=j) (gs_.1 U).1;rw[U]at ah;simp only[Δ]at ah;subst ah;omega
 clear hits ht;go_enter func118,ntmps118;go_wp2_with fail;refine b.mono ?_;clear b;rintro e w1 ⟨v,Ps,rfl,hP,aj,ap⟩;obtain⟨ao,aJ,rfl,_⟩:=Β aj;have ae:Ps.length=its.length:=by have:=congrArg List.length hP;simpa using this
 have HP:=α hP;have aC:=α aj;have aO:=ap.size;obtain⟨n,Z⟩:=δ (its.length);rw[Z.out]at ae aD;rw[ae];clear hP aj ae;have b:=o6_ w1;go_wp2_with fail;refine b.mono ?_;clear b;rintro e w2 ⟨g2,rfl,au,aq⟩;have S0:b7_ .nil (bv_ .none (its.drop n)):=by rw[drop_of_length_le (by rw[Z.out];omega)];exact b7_.nil
 go_wp2_with fail;go_loopw [4,5,6,7,8,9] (fun v' i' _ _ _ _ wr=>∃(j g:Nat) (E:Ex),j<=n/\v'= .pointer (some ⟨g,0,none⟩)/\i'= .int .i64 ((j:Int)- 1)/\Τ wr g E/\Hid (b7_ E (bv_ .none (its.drop j)))/\Bl w1 wr) (fun _ i' _ _ _ _ _=>(intOf i'+1).toNat)
 case atStart=>exact⟨n,g2,.nil,ι,rfl,rfl,au,S0,aq⟩
 case round=>
  clear S0 au aq;obtain⟨j,g3,E,U,rfl,rfl,t,P,f⟩:=hrel;have aP:=f.size;cases j with
  |zero=>
   have hB:=η ap f;have HE:=α t;have aA:=α P;clear t P f;go_wp2_with fail;go_ret;exact⟨g3,E,rfl,HE.out,aA.out,hB⟩
  |succ j=>
   have az:(((j+1:Nat):Int)- 1)=(j:Int):=o_;rw[az];obtain⟨y,c,hy,ς,z,aI⟩:=wc_ HP.out (j:=j) (by rw[Z.out];omega);obtain⟨F,rfl,_,aK,ax,av,aw⟩:=wa_ aC.out hy;obtain⟨S,V,aL⟩:=aB.out j c ς;have e1:=(f.cell (p:=⟨F,j*2,none⟩) ax).trans av;have D:=(f.cell (p:=⟨F,j*2+1,none⟩) ax).trans aw;have ay:F<wr.heap.size:=o_;have ak:y.1.size<=40:=by rw[<-bm_,z];omega
   obtain⟨af,ag,T⟩:=ahv_ V;have an:Hid (∀r e',b7_ r c.pat->b7_ e' (bv_ .none (its.drop (j+1)))->b7_ (r.cF e') (bv_ .none (its.drop j))):=by
    intro r e' h1 h2;rw[ahu_ ς];exact b7_.cons h1 h2
   have Q:Hid (∀x,b7_ x c.q->b7_ (x.cR c.m.lo c.m.hi) c.pat):=fun x hx=>hx.rep V
   have C:=fun w=>k2_ c.m y.2 w V aI
   obtain⟨A,am⟩:=δ (c.m.lo);obtain⟨u,al⟩:=δ (c.m.hi);rw[am.out]at C af T Q;rw[al.out]at C ag T Q;have B:=HA y.1 c.la c.q;clear av aw az hy ς V am al;obtain⟨o,y2⟩:=y;simp only at B C e1 D ak z;rcases B wr ak S z with ⟨aM,ai,b⟩|⟨ab,aN,_⟩
   . have O:=cp_ (s:=o) (a:=0) o_;have t40:((o[0].toNat:Int)==40)=false:=by rw[<-O];simp only[bq_,ne_eq];omega
     have aE:0<o.size:=o_;clear O ai B S z;go_wp2_with fail;refine b.mono ?_;clear b;rintro e W ⟨g4,X,rfl,M,hX,h⟩;have aF:=h.size;have f2:=(h.cell (p:=⟨F,j*2+1,none⟩) ay).trans D;have K:=t.below h;have HX:=α hX;have G:=η f h;clear e1 D t f hX;have b:=C W;go_wp2_with fail;refine b.mono ?_;clear b;rintro e w5 ⟨rfl,d⟩;have aG:=d.size;have b:=vu_ g4 A u X w5 (M.below d) af ag T;have L:=K.below d;have H:=η G d;clear f2 M K G d;go_wp2_with fail;refine b.mono ?_;clear b;rintro e w6 ⟨g6,rfl,N,l⟩;have aH:=l.size;have b:=k1_ g6 g3 (X.cR A u) E w6 N (L.below l);have I:=η H l;have aa:Hid (b7_ ((X.cR A u).cF E) (bv_ .none (its.drop j))):=an.out _ _ (Q.out X HX.out) P.out;clear N L H l;go_wp2_with fail;refine b.mono ?_;clear b;rintro e w7 ⟨g7,rfl,ad,J⟩;have ac:=η I J;clear I J;go_wp2_with fail;go_roundw
     case rel=>exact⟨j,g7,_,o_,rfl,rfl,ad,aa,ac⟩
     case measure=>simp[intOf]<;>omega
   . have O:=cp_ (s:=o) (a:=0) o_;have t40:((o[0].toNat:Int)==40)=true:=by rw[<-O,ab];rfl
     have aE:0<o.size:=o_;rcases B wr.drew ak S z with ⟨_,ai,_⟩|⟨_,_,b⟩
     . exact absurd ab ai
     obtain⟨Y,R⟩:=δ (o.size - 1);have aQ:IntKind.i64.wrap (Y:Int)=(Y:Int):=by rw[<-R.out,IntKind.wrap_i64];omega
     have aR:((o.size:Int)- 1)=(Y:Int):=by rw[<-R.out];omega
     rw[R.out]at b
     have aS:Y<=o.size:=by rw[<-R.out];omega
     clear O ab B S z;go_wp2_with fail;go_region_with (go_at_call 73;refine b.mono ?_;rintro e W ⟨g4,X,rfl,M,hX,ar⟩;have h:Bl wr W:=(Below.refl wr.heap.size wr).drew.trans ar;clear ar)
     all_goals
      have aF:=h.size;have f2:=(h.cell (p:=⟨F,j*2+1,none⟩) ay).trans D;have K:=t.below h;have HX:=α hX;have G:=η f h;clear e1 D t f hX;have b:=C W;go_wp2_with fail;refine b.mono ?_;clear b;rintro e w5 ⟨rfl,d⟩;have aG:=d.size;have b:=vu_ g4 A u X w5 (M.below d) af ag T;have L:=K.below d;have H:=η G d;clear f2 M K G d;go_wp2_with fail;refine b.mono ?_;clear b;rintro e w6 ⟨g6,rfl,N,l⟩;have aH:=l.size;have b:=k1_ g6 g3 (X.cR A u) E w6 N (L.below l);have I:=η H l;have aa:Hid (b7_ ((X.cR A u).cF E) (bv_ .none (its.drop j))):=an.out _ _ (Q.out X HX.out) P.out;clear N L H l;go_wp2_with fail;refine b.mono ?_;clear b;rintro e w7 ⟨g7,rfl,ad,J⟩;have ac:=η I J;clear I J;go_wp2_with fail;go_roundw
      case rel=>exact⟨j,g7,_,o_,rfl,rfl,ad,aa,ac⟩
      case measure=>simp[intOf]<;>omega
theorem yc_ (k:Nat)(HA:p1_ k):sa_ k:=by
 intro s p w hs O;obtain⟨x,b,o⟩:=O.parts;have a:=vw_ s w hs;unfold o7_ at a;rw[o.split]at a;have Z:=α o;obtain⟨c,h⟩:=δ ((x::b).length);have Y:=α o.pat;clear o O;go_enter func73,ntmps73;go_wp2_with fail;refine a.mono ?_;clear a;rintro e u ⟨v,Ls,rfl,z,A,H,ad⟩;obtain⟨ao,aq,rfl,_⟩:=Β A;have N:Ls.length=c:=by have:=congrArg List.length z;simp only[length_map]at this;rw[this];exact h.out
 have B:=α z;have C:=α A;have au:c<=41:=o_;have al:1<=c:=by rw[<-h.out];simp
 have av:=H.size;have D:Hid (∀i,i<c->∃(y:ByteArray) (g:Nat),ao=some ⟨g,0,none⟩/\g<u.heap.size/\u.cell? ⟨g,i,none⟩=some (.string y)/\∀w',Calls prog 118 #[.string y] w' (hx_ ((x::b).getD i ([],.none)).2 w')):=by
  intro i hi;obtain⟨y,ap,hy,ay,an,aj,am⟩:=Z.out.one B.out (i:=i) (by rw[h.out];exact hi);obtain⟨g,t,_,_,ag,r⟩:=rp_ C.out hy;refine⟨y,g,t,ag,r,fun w'=> ?_⟩;rw[am];exact ahw_ k HA y ap w' o_ aj an
 rw[N];clear z A ad N B C;obtain⟨y0,g0,rfl,af,ae,d⟩:=D.out 0 o_;have a:=d u;simp only[getD_cons_zero]at a;clear d;go_wp2_with fail;refine a.mono ?_;clear a;rintro e w2 ⟨g2,T,rfl,L,P,J⟩;have aa:Hid (∀i,1<=i->i<c->∃q,b[i - 1]? =some q/\((x::b).getD i ([],.none)).2=q.2):=by
  intro i h1 h2;have G:i - 1<b.length:=by have:=h.out;simp at this;omega
  refine⟨b[i - 1],by rw[ge_ G], ?_⟩;obtain⟨i,rfl⟩:∃m,i=m+1:=⟨i - 1,o_⟩;rw[getD_cons_succ,gd_,ge_ (by simpa using G)];rfl
 clear ae;go_wp2_with fail;go_loopw [4,5,6] (fun v' i' _ wr=>∃(i g:Nat) (E:Ex),1<=i/\i<=c/\v'= .pointer (some ⟨g,0,none⟩)/\i'= .int .i64 (i:Int)/\Τ wr g E/\Hid (b7_ E (ht_ x.2 (b.take (i - 1))))/\Bl u wr) (fun _ i' _ _=>100 - (intOf i').toNat)
 case atStart=>exact⟨1,g2,T,ι,al,rfl,rfl,L,P,J⟩
 case round=>
  clear L P J;obtain⟨i,F,E,ai,ar,rfl,rfl,n,j,f⟩:=hrel;have aw:=f.size;by_cases Q:i<c
  . have ak:(i:Int)<(c:Int):=o_;obtain⟨y,g,t,ah,r,d⟩:=D.out i Q;simp only[Δ,Addr.mk.injEq]at t;obtain⟨rfl,_⟩:=t;obtain⟨q,R,S⟩:=aa.out i ai Q;rw[S]at d;have a:=d wr;have c0:=(f.cell (p:=⟨g0,i,none⟩) af).trans r;have W:Hid (∀X,b7_ X q.2->b7_ (E.di X) (ht_ x.2 (b.take (i+1 - 1)))):=by
     intro X hX;have e1:b.take (i+1 - 1)=b.take (i - 1)++ [q]:=by
      rw[show i+1 - 1=(i - 1)+1 by omega,take_add_one,R];rfl
     rw[e1];unfold ht_;rw[foldl_append];exact b7_.alt j.out hX
    clear R S d r ah j;go_wp2_with fail;refine a.mono ?_;clear a;rintro e w4 ⟨g4,X,rfl,M,hX,l⟩;have ax:=l.size;have a:=vt_ F g4 E X w4 (n.below l) M;have I:=η f l;have HX:Hid (b7_ (E.di X) (ht_ x.2 (b.take (i+1 - 1)))):=W.out X hX;clear c0 n f l hX M;go_wp2_with fail;refine a.mono ?_;clear a;rintro e w5 ⟨g5,rfl,ac,K⟩;have ab:=η I K;clear I K;go_wp2_with fail;go_roundw
    case rel=>exact⟨i+1,g5,_,o_,o_,rfl,by go_num,ac,HX,ab⟩
    case measure=>simp[intOf]<;>omega
  . have ak:¬(i:Int)<(c:Int):=o_;obtain rfl:i=c:=o_;have U:=α n;have V:Hid (b7_ E p):=by
     unfold Hid;rw[Y.out];have:=j.out;rw[tk_ (by have:=h.out;simp at this;omega)]at this;exact this
    have hB:=η H f;clear n j f;go_wp2_with fail;go_ret;exact⟨F,E,rfl,U.out,V.out,hB⟩
theorem yd_:∀k,sa_ k
 |0=>yc_ 0 ahs_
 |k+1=>yc_ (k+1) (aht_ k (yd_ k))
theorem ahx_ {a:Nat}(h:q7_ s r)(ha:bs_ s a):r=(a:Int):=by
 rcases h with ⟨b,e,rfl⟩|⟨q,c,d,rfl⟩
 . rw[ha.uniq e]
 . exact(ha.dz c d).elim
theorem p2_ {p:ζ}{t:Sp}(h:q7_ s r)(hp:c8_ s= .ok p t)(he:t.a=s.size):r= -1:=by
 obtain⟨q,g,d⟩:=q5_ hp he;rcases h with ⟨b,c,rfl⟩|⟨q,e,f,rfl⟩
 . exact(c.dz (he▸g.at_) d).elim
 . rfl
def ye_ (s:ByteArray)(r:Int):Prop:=(∃i:Nat,r=(i:Int)/\BkT s i=true/\∀j,j<i->BkT s j=false)\/(r= -1/\∀j,BkT s j=false)
theorem ahy_ {p:ζ}{t:Sp}(h:ye_ s r)(hp:c8_ s= .ok p t)(he:t.a=s.size)(hb:t.bk=true):r=(t.sp:Int):=by
 obtain⟨q,g,f⟩:=q5_ hp he;obtain⟨b,d⟩:=g.yes hb;rcases h with ⟨i,rfl,c,e⟩|⟨rfl,c⟩
 . have:i=t.sp:=by
    rcases Nat.lt_trichotomy i t.sp with h|h|h
    . rw[d i h]at c;cases c
    . exact h
    . rw[e _ h]at b;cases b
   rw[this]
 . rw[c]at b;cases b
theorem sb_ {p:ζ}{t:Sp}(h:ye_ s r)(hp:c8_ s= .ok p t)(he:t.a=s.size)(hb:t.bk=false):r= -1:=by
 obtain⟨q,g,e⟩:=q5_ hp he;rcases h with ⟨i,rfl,b,c⟩|⟨rfl,_⟩
 . exfalso;by_cases d:i+1<s.size
   . rw[g.no hb i o_]at b;cases b
   . unfold BkT at b;rw[show decide (i+2<s.size)=false by simp;omega]at b;simp at b
 . rfl
theorem yf_ {b:Int}{er:Int}{pl:Nat}(h:jm_ s b=some (er,pl)):
 (40<s.size/\er=1/\pl=0)\/(s.size<=40/\bs_ s pl/\er=2)\/
 (s.size<=40/\∃p t,c8_ s= .ok p t/\t.a=s.size/\((t.bk=true/\er=3/\pl=t.sp)\/(t.bk=false/\10<p.size/\er=4/\pl=0)\/(t.bk=false/\p.size<=10/\(b<1\/40<b)/\er=8/\pl=0))):=by
 unfold jm_ at h;split at h
 . rename_i h0;simp at h;exact .inl ⟨h0,h.1.symm,h.2.symm⟩
 . rename_i h0;cases hp:c8_ s with
   |no t=>
    rw[hp]at h;simp at h;exact .inr (.inl ⟨o_,h.2▸adb_ hp,h.1.symm⟩)
   |ok p t=>
    rw[hp]at h;simp only at h;split at h
    . rename_i h1;simp at h;exact .inr (.inl ⟨o_,h.2▸adc_ hp h1,h.1.symm⟩)
    . rename_i h1;refine .inr (.inr ⟨o_,p,t,rfl,o_, ?_⟩);split at h
      . rename_i h2;simp at h;exact .inl ⟨h2,h.1.symm,h.2.symm⟩
      . rename_i h2;have c:t.bk=false:=by simpa using h2
        split at h
        . rename_i h3;simp at h;exact .inr (.inl ⟨c,h3,h.1.symm,h.2.symm⟩)
        . rename_i h3;split at h
          . rename_i h4;simp at h;exact .inr (.inr ⟨c,o_,h4,h.1.symm,h.2.symm⟩)
          . simp at h
theorem ahz_ {E:Ex}{p:ζ}(h:b7_ E p)(x:List Nat)(hx:Γ x):E.lang x↔g4_ p x=true:=by
 rw[x6_,h.lang x,aej_ p x hx]
end Go.Proofs.YtpngikmcjkjdaaaGreatDoor
