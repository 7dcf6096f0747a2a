import Derived.Test.YtpngikmcjkjdaaaGreatDoorA18
set_option linter.unusedVariables false
set_option linter.unusedSimpArgs false
set_option maxRecDepth 20000
set_option maxHeartbeats 80000000
namespace Go.Proofs.YtpngikmcjkjdaaaGreatDoor
open Go.RowKit Tryz List Nat
variable {l:List Nat}
def Ex.dep:Ex->Nat
 | .nil=>0
 | .one _=>0
 | .star a=>a.dep+1
 | .thn a b=>max a.dep b.dep+1
 | .alt a b=>max a.dep b.dep+1
def ζ.wt:ζ->Nat
 | .none=>1
 | .one _=>10
 | .chain a b=>a.wt+b.wt+3
 | .alt a b=>a.wt+b.wt+3
 | .rep a lo hi en=>if en then(lo+1)*(a.wt+3)else hi*(a.wt+7)+1
def ζ.dp:ζ->Nat
 | .none=>0
 | .one _=>0
 | .chain a b=>a.dp+b.dp+1
 | .alt a b=>a.dp+b.dp+1
 | .rep a _ _ _=>a.dp+20
theorem wh_ (S:Nat->Bool)(n:Nat):(eo_ S n).length<=n:=by
 induction n with
 |zero=>simp[eo_]
 |succ n ih=>
  simp only[eo_];split
  . rw[Μ,ls_];omega
  . omega
theorem ad5_ (S:Nat->Bool):(Ex.one S).nm.length<=10:=by
 have:=wh_ S 8;simp[Ex.nm];omega
theorem ad6_ (e:Ex):1<=e.nm.length:=by cases e<;>simp[Ex.nm]
theorem rn_ (a b:Ex):(Ex.thn a b).nm.length=a.nm.length+b.nm.length+3:=by simp[Ex.nm];omega
theorem ro_ (a b:Ex):(Ex.alt a b).nm.length=a.nm.length+b.nm.length+3:=by simp[Ex.nm];omega
theorem rp_ (a:Ex):(Ex.star a).nm.length=a.nm.length+3:=by simp[Ex.nm]
theorem nc_ (a b:Ex):(a.thn' b).nm.length<=a.nm.length+b.nm.length+3:=by
 unfold Ex.thn';split
 . omega
 . split
   . omega
   . rw[rn_];omega
theorem wi_ (a b:Ex):(a.alt' b).nm.length<=a.nm.length+b.nm.length+3:=by
 unfold Ex.alt';split
 . omega
 . rw[ro_];omega
theorem ad7_ (a:Ex):a.star'.nm.length<=a.nm.length+3:=by
 unfold Ex.star';split
 . omega
 . rw[rp_];omega
theorem wj_ (x e:Ex)(n:Nat):(x.must e n).nm.length<=n*(x.nm.length+3)+e.nm.length:=by
 induction n with
 |zero=>simp[Ex.must]
 |succ n ih=>have:=nc_ x (x.must e n);simp only[Ex.must];rw[succ_mul];omega
theorem ad8_ (x:Ex)(n:Nat):(x.opts n).nm.length<=n*(x.nm.length+7)+1:=by
 induction n with
 |zero=>simp[Ex.opts,Ex.nm]
 |succ n ih=>
  have a:=nc_ x (x.opts n);have b:=wi_ .nil (x.thn' (x.opts n));have c:(Ex.nil).nm.length=1:=rfl;simp only[Ex.opts];rw[succ_mul];omega
theorem rq_ (a b:Ex):(a.thn' b).dep<=max a.dep b.dep+1:=by
 unfold Ex.thn';split
 . omega
 . split
   . omega
   . simp[Ex.dep]
theorem wk_ (a b:Ex):(a.alt' b).dep<=max a.dep b.dep+1:=by
 unfold Ex.alt';split
 . omega
 . simp[Ex.dep]
theorem ad9_ (a:Ex):a.star'.dep<=a.dep+1:=by
 unfold Ex.star';split
 . omega
 . simp[Ex.dep]
theorem wl_ (x e:Ex)(n:Nat):(x.must e n).dep<=max x.dep e.dep+n:=by
 induction n with
 |zero=>simp[Ex.must];omega
 |succ n ih=>have:=rq_ x (x.must e n);simp only[Ex.must];omega
theorem aea_ (x:Ex)(n:Nat):(x.opts n).dep<=x.dep+2*n:=by
 induction n with
 |zero=>simp[Ex.opts,Ex.dep]
 |succ n ih=>
  have a:=rq_ x (x.opts n);have b:=wk_ .nil (x.thn' (x.opts n));have c:(Ex.nil).dep=0:=rfl;simp only[Ex.opts];omega
theorem wm_ (x:Ex):x.repd 1 1=x:=by
 have:=m7_ (x:=x) (lo:=1) (hi:=1) o_;rw[show((1:Nat):Int)=1 from rfl]at this;rw[this];show x.thn' .nil=x
 unfold Ex.thn';cases x<;>simp[Ex.isNil]
theorem aeb_ (x:Ex)(q:ζ)(h:x.nm.length<=q.wt)(m:Mk)(hm:m.ok):(x.repd m.lo m.hi).nm.length<=(m.app q).wt:=by
 have star:∀lo:Nat,(x.repd lo (-1)).nm.length<=(lo+1)*(q.wt+3):=by
  intro lo;rw[ox_];have h1:=wj_ x x.star' lo;have h2:=ad7_ x;have h3:lo*(x.nm.length+3)<=lo*(q.wt+3):=mul_le_mul_left _ o_;rw[succ_mul];omega
 have span:∀lo hi:Nat,lo<=hi->(x.repd lo hi).nm.length<=hi*(q.wt+7)+1:=by
  intro lo hi hle;rw[m7_ hle];have h1:=wj_ x (x.opts (hi - lo)) lo;have h2:=ad8_ x (hi - lo);have h3:lo*(x.nm.length+3)<=lo*(q.wt+7):=mul_le_mul_left _ o_;have h4:(hi - lo)*(x.nm.length+7)<=(hi - lo)*(q.wt+7):=mul_le_mul_left _ o_;have h5:lo*(q.wt+7)+(hi - lo)*(q.wt+7)=hi*(q.wt+7):=by rw[<-Nat.add_mul,show lo+(hi - lo)=hi by omega]
  omega
 cases m with
 |none=>show(x.repd 1 1).nm.length<=q.wt;rw[wm_];exact h
 |star=>exact star 0
 |plus=>exact star 1
 |opt=>exact span 0 1 o_
 |just n=>exact span n n o_
 |more n=>exact star n
 |span n k=>exact span n k hm.1
theorem aec_ (x:Ex)(q:ζ)(h:x.dep<=q.dp)(m:Mk)(hm:m.ok):(x.repd m.lo m.hi).dep<=(m.app q).dp:=by
 have star:∀lo:Nat,lo<=9->(x.repd lo (-1)).dep<=q.dp+20:=by
  intro lo hl;rw[ox_];have h1:=wl_ x x.star' lo;have h2:=ad9_ x;omega
 have span:∀lo hi:Nat,lo<=hi->hi<=9->(x.repd lo hi).dep<=q.dp+20:=by
  intro lo hi hle hl;rw[m7_ hle];have h1:=wl_ x (x.opts (hi - lo)) lo;have h2:=aea_ x (hi - lo);omega
 cases m with
 |none=>show(x.repd 1 1).dep<=q.dp;rw[wm_];exact h
 |star=>exact star 0 o_
 |plus=>exact star 1 o_
 |opt=>exact span 0 1 o_ o_
 |just n=>exact span n n o_ hm
 |more n=>exact star n hm
 |span n k=>exact span n k hm.1 hm.2
theorem wn_ (p:ζ)(its:List Η):(bv_ p its).wt=p.wt+(its.map fun i=>i.pat.wt+3).sum:=by
 induction its generalizing p with
 |nil=>simp[bv_]
 |cons i its ih=>
  show(bv_ (.chain p i.pat) its).wt=_
  rw[ih];simp only[ζ.wt,map_cons,sum_cons];omega
theorem wo_ (p:ζ)(its:List Η):(bv_ p its).dp=p.dp+(its.map fun i=>i.pat.dp+1).sum:=by
 induction its generalizing p with
 |nil=>simp[bv_]
 |cons i its ih=>
  show(bv_ (.chain p i.pat) its).dp=_
  rw[ih];simp only[ζ.dp,map_cons,sum_cons];omega
theorem aed_ {a b:Nat}(ha:1<=a)(hb:1<=b):2^a+2^b<=2^(a+b):=by
 obtain⟨a,rfl⟩:∃x,a=x+1:=⟨a - 1,o_⟩;obtain⟨b,rfl⟩:∃x,b=x+1:=⟨b - 1,o_⟩;rw[show a+1+(b+1)=(a+b+1)+1 by omega,Nat.pow_succ 2 (a+b+1)];have c:2^(a+1)<=2^(a+b+1):=Nat.pow_le_pow_right o_ o_;have d:2^(b+1)<=2^(a+b+1):=Nat.pow_le_pow_right o_ o_;omega
def WtA (A:List Nat->ζ->Prop):Prop:=∀l q,A l q->1<=l.length/\q.wt+12<=14*2^l.length/\q.dp+2<=25*l.length
theorem aee_ {A:List Nat->ζ->Prop}(hA:WtA A){i:Η}(h:A i.la i.q)(hm:i.m.ok):1<=i.text.length/\i.pat.wt+12<=16*2^i.text.length/\i.pat.dp+2<=25*i.text.length:=by
 obtain⟨b,a,c⟩:=hA _ _ h;obtain⟨la,q,m⟩:=i;simp only at h b a c hm;have f:(Η.text ⟨la,q,m⟩).length=la.length+m.text.length:=by simp[Η.text]
 rw[f];obtain⟨n,l⟩:=af_ (la.length);rw[<-l]at b a c ⊢;obtain⟨P,d⟩:=af_ (2^n);have o:∀k,2^(n+k)=P*2^k:=fun k=>by rw[Nat.pow_add,d]
 rw[o];rw[<-d]at a;have e:∀n W:Nat,n<=9->n*(W+7)<=9*(W+7):=fun n W h=>mul_le_mul_right _ h
 have g:∀n W:Nat,n<=9->(n+1)*(W+3)<=10*(W+3):=fun n W h=>mul_le_mul_right _ o_
 cases m with
 |none=>
  refine⟨o_, ?_, ?_⟩
  . show q.wt+12<=16*(P*2^0);omega
  . show q.dp+2<=25*(n+0);omega
 |star=>
  refine⟨o_, ?_, ?_⟩
  . show(0+1)*(q.wt+3)+12<=16*(P*2^1);omega
  . show q.dp+20+2<=25*(n+1);omega
 |plus=>
  refine⟨o_, ?_, ?_⟩
  . show(1+1)*(q.wt+3)+12<=16*(P*2^1);omega
  . show q.dp+20+2<=25*(n+1);omega
 |opt=>
  refine⟨o_, ?_, ?_⟩
  . show 1*(q.wt+7)+1+12<=16*(P*2^1);omega
  . show q.dp+20+2<=25*(n+1);omega
 |just k=>
  have:=e k q.wt hm;refine⟨o_, ?_, ?_⟩
  . show k*(q.wt+7)+1+12<=16*(P*2^3);omega
  . show q.dp+20+2<=25*(n+3);omega
 |more k=>
  have:=g k q.wt hm;refine⟨o_, ?_, ?_⟩
  . show(k+1)*(q.wt+3)+12<=16*(P*2^4);omega
  . show q.dp+20+2<=25*(n+4);omega
 |span k j=>
  have:=e j q.wt hm.2;refine⟨o_, ?_, ?_⟩
  . show j*(q.wt+7)+1+12<=16*(P*2^5);omega
  . show q.dp+20+2<=25*(n+5);omega
theorem aef_ {A:List Nat->ζ->Prop}(hA:WtA A)(its:List Η)(h:∀i∈its,A i.la i.q/\i.m.ok):its≠ []->1<=(its.flatMap Η.text).length/\(its.map fun i=>i.pat.wt+3).sum+9<=16*2^(its.flatMap Η.text).length/\(its.map fun i=>i.pat.dp+1).sum+1<=25*(its.flatMap Η.text).length:=by
 induction its with
 |nil=>intro h;exact absurd rfl h
 |cons i its a=>
  intro _;obtain⟨d,g,k⟩:=aee_ hA (h i i_).1 (h i i_).2;have a:=a (fun j hj=>h j (by simp[hj]));simp only[flatMap_cons,Μ,map_cons,sum_cons];by_cases b:its=[]
  . subst b;simp only[flatMap_nil,length_nil,map_nil,sum_nil,Nat.add_zero];omega
  . obtain⟨c,e,f⟩:=a b;have:=aed_ d c;refine⟨o_,o_,o_⟩
theorem wp_ {A:List Nat->ζ->Prop}(hA:WtA A){p:ζ}(h:hh_ A l p):p.wt+8<=16*2^l.length/\p.dp<=25*l.length:=by
 obtain⟨b,c,rfl,rfl⟩:=h;rw[wn_,wo_];by_cases a:b=[]
 . subst a;simp[ζ.wt,ζ.dp]
 . obtain⟨d,e,f⟩:=aef_ hA b c a;simp only[ζ.wt,ζ.dp];omega
theorem aeg_ {A:List Nat->ζ->Prop}(hA:WtA A)(xs:List (List Nat×ζ)):∀(n:Nat) (p:ζ),p.wt+8<=16*2^n->p.dp<=25*n->(∀y∈xs,hh_ A y.1 y.2)->(ht_ p xs).wt+8<=16*2^(n+(ee_ xs).length)/\(ht_ p xs).dp<=25*(n+(ee_ xs).length):=by
 induction xs with
 |nil=>intro n p a b _;exact⟨a,b⟩
 |cons y xs ih=>
  intro n p a b c;obtain⟨e,f⟩:=wp_ hA (c y i_);have d:(ee_ (y::xs)).length=1+y.1.length+(ee_ xs).length:=by simp[ee_];omega
  have g:2^n+2^y.1.length<=2^(n+(1+y.1.length)):=by
   rw[show n+(1+y.1.length)=(n+y.1.length)+1 by omega,Nat.pow_succ];have a:2^n<=2^(n+y.1.length):=Nat.pow_le_pow_right o_ o_;have b:2^y.1.length<=2^(n+y.1.length):=Nat.pow_le_pow_right o_ o_;omega
  have:=ih (n+(1+y.1.length)) (.alt p y.2) (by simp only[ζ.wt];omega) (by simp only[ζ.dp];omega) (fun z hz=>c z (by simp[hz]));rw[d,show n+(1+y.1.length+(ee_ xs).length)=n+(1+y.1.length)+(ee_ xs).length by omega];exact this
theorem wq_ {A:List Nat->ζ->Prop}(hA:WtA A){p:ζ}(h:gy_ A l p):p.wt+8<=16*2^l.length/\p.dp<=25*l.length:=by
 obtain⟨x,e,c,d,rfl,rfl⟩:=h;obtain⟨a,b⟩:=wp_ hA c;rw[Μ];exact aeg_ hA e _ _ a b d
theorem ws_:WtA f9_:=by
 have a:∀n,1<=n->10+12<=14*2^n/\0+2<=25*n:=by
  intro n b;have:2^1<=2^n:=Nat.pow_le_pow_right o_ b;omega
 intro l q h;rcases h with ⟨c,e,rfl,rfl⟩|⟨rfl,rfl⟩|⟨g,f,d,⟨rfl,rfl⟩|⟨rfl,rfl⟩⟩
 . exact⟨i_,a _ i_⟩
 . exact⟨i_,a _ i_⟩
 . exact⟨i_,a _ i_⟩
 . exact⟨i_,a _ i_⟩
theorem wu_:∀k,WtA (dq_ k)
 |0=>ws_
 |k+1=>by
  intro l q h;rcases h with h|⟨l',rfl,h⟩
  . exact ws_ l q h
  . obtain⟨h1,h2⟩:=wq_ (wu_ k) h;have e:(40::l'++ [41]).length=l'.length+2:=i_;rw[e,Nat.pow_add];exact⟨o_,o_,o_⟩
theorem aeh_ {e:Ex}:∀d∈e.pds,d.nm.length<=e.nm.length*(e.dep+1):=by
 induction e with
 |nil=>intro d c;simp[Ex.pds]at c
 |one S=>
  intro d c;simp[Ex.pds]at c;subst c;have:=ad6_ (.one S);show 1<=(Ex.one S).nm.length*(0+1);omega
 |alt a b iha ihb=>
  intro d c;simp only[Ex.pds,mp_]at c;rw[ro_];simp only[Ex.dep];rcases c with c|c
  . exact Nat.le_trans (iha d c) (Nat.mul_le_mul o_ o_)
  . exact Nat.le_trans (ihb d c) (Nat.mul_le_mul o_ o_)
 |thn a b iha ihb=>
  intro d c;simp only[Ex.pds,mp_,mem_map]at c;rw[rn_];simp only[Ex.dep];rcases c with ⟨y,f,rfl⟩|c
  . have h:=iha y f;have g:=nc_ y b;have i:a.nm.length*(a.dep+1)<=a.nm.length*(max a.dep b.dep+1+1):=mul_le_mul_left _ o_;have j:(b.nm.length+3)*1<=(b.nm.length+3)*(max a.dep b.dep+1+1):=mul_le_mul_left _ o_;rw[show a.nm.length+b.nm.length+3=a.nm.length+(b.nm.length+3)by omega,Nat.add_mul];omega
  . exact Nat.le_trans (ihb d c) (Nat.mul_le_mul o_ o_)
 |star a iha=>
  intro d c;simp only[Ex.pds,mem_map]at c;obtain⟨y,f,rfl⟩:=c;have h:=iha y f;have g:=nc_ y (.star a);rw[rp_]at g ⊢;simp only[Ex.dep];rw[Nat.add_mul,Nat.mul_add a.nm.length];rw[show 3*(a.dep+1+1)=3*a.dep+6 by omega];omega
theorem lr_ (e:Ex)(c:Nat):(e.behind c).length<=e.letters:=by
 induction e with
 |nil=>simp[Ex.behind]
 |one S=>simp only[Ex.behind,Ex.letters];split<;>simp
 |alt a b iha ihb=>simp only[Ex.behind,Ex.letters,Μ];omega
 |star a iha=>simpa [Ex.behind,Ex.letters] using iha
 |thn a b iha ihb=>
  simp only[Ex.behind,Ex.letters,Μ,length_map];split
  . omega
  . simp;omega
theorem aei_ {e:Ex}:∀d∈e.pds,d.letters<=e.letters*(e.dep+1):=by
 induction e with
 |nil=>intro d c;simp[Ex.pds]at c
 |one S=>intro d c;simp[Ex.pds]at c;subst c;exact zero_le _
 |alt a b iha ihb=>
  intro d c;simp only[Ex.pds,mp_]at c;simp only[Ex.dep,Ex.letters];rcases c with c|c
  . exact Nat.le_trans (iha d c) (Nat.mul_le_mul o_ o_)
  . exact Nat.le_trans (ihb d c) (Nat.mul_le_mul o_ o_)
 |thn a b iha ihb=>
  intro d c;simp only[Ex.pds,mp_,mem_map]at c;simp only[Ex.dep,Ex.letters];rcases c with ⟨y,f,rfl⟩|c
  . have h:=iha y f;have g:=m8_ y b;have i:a.letters*(a.dep+1)<=a.letters*(max a.dep b.dep+1+1):=mul_le_mul_left _ o_;have j:b.letters*1<=b.letters*(max a.dep b.dep+1+1):=mul_le_mul_left _ o_;rw[Nat.add_mul];omega
  . exact Nat.le_trans (ihb d c) (Nat.mul_le_mul o_ o_)
 |star a iha=>
  intro d c;simp only[Ex.pds,mem_map]at c;obtain⟨y,f,rfl⟩:=c;have h:=iha y f;have g:=m8_ y (.star a);simp only[Ex.dep,Ex.letters]at g ⊢;rw[Nat.mul_add a.letters];omega
theorem aej_ {U l:List Ex}(h:l∈gz_ U):l.length<=U.length:=by
 induction U generalizing l with
 |nil=>simp[gz_]at h;subst h;simp
 |cons u U ih=>
  simp only[gz_,mp_,mem_map]at h;rcases h with h|⟨a,h,rfl⟩
  . have:=ih h;simp;omega
  . have:=ih h;simp;omega
structure k3_ (E:Ex):Prop where
 can:E.can
 let_:E.letters<=10
 dp:E.dep<=1000
 wt:E.nm.length<=2^44
theorem k3_.uni {E d:Ex}(h:k3_ E)(hd:d∈jc_ E):d.can/\d.letters<=20000/\d.nm.length<=2^60:=by
 have e:=h.wt;have c:=h.let_;have f:=h.dp;rcases ((j3_ h.can).2 d).1 hd with rfl|h1
 . exact⟨h.can,o_,o_⟩
 . refine⟨oy_ h.can d h1, ?_, ?_⟩
   . have a:=aei_ d h1;have b:E.letters*(E.dep+1)<=10*1001:=Nat.mul_le_mul c o_;omega
   . have a:=aeh_ d h1;have b:E.nm.length*(E.dep+1)<=2^44*1001:=Nat.mul_le_mul e o_;omega
theorem StE.len {E:Ex}{r:List Ex}(hE:k3_ E)(h:StE E r):r.length<=16:=by
 have a:=aej_ (vj_ (j3_ hE.can).1 h.srt h.uni);have b:=vl_ E;have:=hE.let_;omega
theorem StE.asks {E:Ex}{r:List Ex}(hE:k3_ E)(h:StE E r)(c:Nat):r.length<=16/\(∀x∈r,x.letters<=20000)/\∀x∈r,∀d∈x.behind c,d.can/\d.nm.length<=2^60:=by
 refine⟨h.len hE,fun x hx=>(hE.uni (h.uni x hx)).2.1,fun x hx d hd=> ?_⟩;have b:=h.step hE.can c;have a:d∈ga_ r c:=((q7_ c (h.can hE.can)).2 d).2 ⟨x,hx,hd⟩;have:=hE.uni (b.uni d a);exact⟨this.1,this.2.2⟩
theorem aek_ {E:Ex}{p:ζ}{k:Nat}(hc:E.can)(hlt:E.letters<=p.size)(hw:E.nm.length<=p.wt)(hd:E.dep<=p.dp)(hP:gy_ (dq_ k) l p)(hl:l.length<=40)(hs:p.size<=10):k3_ E:=by
 obtain⟨a,b⟩:=wq_ (wu_ k) hP;have c:2^l.length<=2^40:=Nat.pow_le_pow_right o_ hl;refine⟨hc,o_,o_, ?_⟩;omega
theorem lt_ (n:Int)(w:World):
 Calls prog 62 #[.int .i64 n] w fun e w'=>e= .returned (.bool (decide (1<=n)&&decide (n<=40)))/\w'=w:=by
 by_cases a:1<=n
 . by_cases b:n<=40
   . have e:(decide (1<=n)&&decide (n<=40))=true:=by simp[a,b]
     rw[e];go_enter func62,ntmps62;go_wp2_with fail;go_ret;exact⟨b6_ i_,rfl⟩
   . have e:(decide (1<=n)&&decide (n<=40))=false:=by simp[b]
     rw[e];go_enter func62,ntmps62;go_wp2_with fail;go_ret;exact⟨b6_ i_,rfl⟩
 . have e:(decide (1<=n)&&decide (n<=40))=false:=by simp[a]
   rw[e];go_enter func62,ntmps62;go_wp2_with fail;go_ret;exact⟨b6_ i_,rfl⟩
theorem ael_ (how:Int)(a b:Bool)(w:World)(h0:0<=how)(h3:how<=3):
 Calls prog 125 #[.int .i64 how,.bool a,.bool b] w fun e w'=>e= .returned (.bool (fa_ how a b))/\w'=w:=by
 have c:how=0\/how=1\/how=2\/how=3:=o_;rcases c with rfl|rfl|rfl|rfl<;>cases a<;>cases b<;>
  (go_enter func125,ntmps125
   go_wp2_with fail;go_ret;exact⟨by simp[fa_],rfl⟩)
end Go.Proofs.YtpngikmcjkjdaaaGreatDoor
