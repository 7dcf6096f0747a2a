import Derived.Test.YtpngikmcjkjdaaaGreatDoorG0
import Derived.Test.YtpngikmcjkjdaaaGreatDoorG2
set_option linter.unusedVariables false
set_option linter.unusedSimpArgs false
set_option maxRecDepth 20000
set_option maxHeartbeats 80000000
namespace Go.Proofs.YtpngikmcjkjdaaaGreatDoor
open Go.RowKit Tryz
inductive Ex where
 |nil:Ex
 |one (S:Nat->Bool):Ex
 |thn (a b:Ex):Ex
 |alt (a b:Ex):Ex
 |star (a:Ex):Ex
def Ex.isNil:Ex->Bool
 | .nil=>true
 |_=>false
def Ex.lang:Ex->List Nat->Prop
 | .nil=>fun x=>x=[]
 | .one S=>fun x=>∃c,x=[c]/\S c=true
 | .thn a b=>Cat a.lang b.lang
 | .alt a b=>fun x=>a.lang x\/b.lang x
 | .star a=>Star a.lang
def Ex.thn' (a b:Ex):Ex:=if a.isNil then b else if b.isNil then a else .thn a b
def Ex.alt' (a b:Ex):Ex:=if a.isNil&&b.isNil then a else .alt a b
def Ex.star' (a:Ex):Ex:=if a.isNil then a else .star a
theorem Ex.isNil_eq {a:Ex}(h:a.isNil=true):a= .nil:=by cases a<;>simp[Ex.isNil]at h ⊢
theorem e9_ {l:List Nat->Prop}(x:List Nat):Cat (fun x=>x=[]) l x↔l x:=
 ⟨fun⟨u,v,e,hu,hv⟩=>by subst hu;rw[e];exact hv,fun h=>⟨[],x,rfl,rfl,h⟩⟩
theorem go_ {l:List Nat->Prop}(x:List Nat):Cat l (fun x=>x=[]) x↔l x:=
 ⟨fun⟨u,v,e,hu,hv⟩=>by subst hv;rw[e,List.append_nil];exact hu,fun h=>⟨x,[],i_,h,rfl⟩⟩
theorem f4_ (a b:Ex)(x:List Nat):(a.thn' b).lang x↔Cat a.lang b.lang x:=by
 unfold Ex.thn';by_cases h1:a.isNil=true
 . rw[if_pos h1,Ex.isNil_eq h1];exact(e9_ x).symm
 . rw[if_neg h1];by_cases h2:b.isNil=true
   . rw[if_pos h2,Ex.isNil_eq h2];exact(go_ x).symm
   . rw[if_neg h2];exact Iff.rfl
theorem ql_ (a b:Ex)(x:List Nat):(a.alt' b).lang x↔a.lang x\/b.lang x:=by
 unfold Ex.alt';by_cases h:(a.isNil&&b.isNil)=true
 . rw[if_pos h];simp only[Bool.and_eq_true]at h;rw[Ex.isNil_eq h.1,Ex.isNil_eq h.2];simp
 . rw[if_neg h];exact Iff.rfl
theorem wx_ (a:Ex)(x:List Nat):a.star'.lang x↔Star a.lang x:=by
 unfold Ex.star';by_cases h:a.isNil=true
 . rw[if_pos h,Ex.isNil_eq h];exact(se_ (fun x=>Iff.rfl) x).symm
 . rw[if_neg h];exact Iff.rfl
def Ex.empty:Ex->Bool
 | .nil=>true
 | .one _=>false
 | .thn a b=>a.empty&&b.empty
 | .alt a b=>a.empty||b.empty
 | .star _=>true
theorem k3_ (e:Ex):e.empty=true↔e.lang []:=by
 induction e with
 |nil=>simp[Ex.empty,Ex.lang]
 |one S=>simp[Ex.empty,Ex.lang]
 |thn a b iha ihb=>
  simp only[Ex.empty,Bool.and_eq_true,iha,ihb];constructor
  . rintro⟨h1,h2⟩;exact⟨[],[],rfl,h1,h2⟩
  . rintro⟨u,v,e,h1,h2⟩;have:=List.append_eq_nil_iff.1 e.symm;rw[this.1]at h1;rw[this.2]at h2;exact⟨h1,h2⟩
 |alt a b iha ihb=>simp only[Ex.empty,Bool.or_eq_true,iha,ihb];exact Iff.rfl
 |star a _=>exact⟨fun _=> .nil,fun _=>rfl⟩
def Ex.behind:Ex->Nat->List Ex
 | .nil,_=> []
 | .one S,c=>if S c then [.nil]else []
 | .alt a b,c=>a.behind c++b.behind c
 | .star a,c=>(a.behind c).map fun x=>x.thn' (.star a)
 | .thn a b,c=>((a.behind c).map fun x=>x.thn' b)++if a.empty then b.behind c else []
theorem zc_ {l:List Nat->Prop}(c:Nat)(x:List Nat):Star l (c::x)↔∃u v,x=u++v/\l (c::u)/\Star l v:=by
 constructor
 . intro h;generalize hy:c::x=y at h;induction h with
   |nil=>simp at hy
   |cons hu hv ih=>
    rename_i u v;cases u with
    |nil=>exact ih (by simpa using hy)
    |cons d u=>
     simp only[List.cons_append,List.cons.injEq]at hy;obtain⟨rfl,rfl⟩:=hy;exact⟨u,v,rfl,hu,hv⟩
 . rintro⟨u,v,rfl,hu,hv⟩;exact .cons (u:=c::u) hu hv
theorem na_ (e:Ex)(c:Nat)(x:List Nat):e.lang (c::x)↔∃d∈e.behind c,d.lang x:=by
 induction e generalizing x with
 |nil=>simp[Ex.lang,Ex.behind]
 |one S=>
  simp only[Ex.lang,Ex.behind];by_cases h:S c=true
  . rw[if_pos h];simp only[List.mem_singleton,exists_eq_left,Ex.lang,List.cons.injEq];constructor
    . rintro⟨d,⟨_,rfl⟩,_⟩;rfl
    . rintro rfl;exact⟨c,⟨rfl,rfl⟩,h⟩
  . rw[if_neg h];simp only[List.not_mem_nil,false_and,exists_false,iff_false,List.cons.injEq];rintro⟨d,⟨rfl,_⟩,hd⟩;exact h hd
 |alt a b iha ihb=>
  show a.lang (c::x)\/b.lang (c::x)↔_
  rw[iha x,ihb x];simp only[Ex.behind,List.mem_append];constructor
  . rintro(⟨d,h1,h2⟩|⟨d,h1,h2⟩)
    . exact⟨d,.inl h1,h2⟩
    . exact⟨d,.inr h1,h2⟩
  . rintro⟨d,h1|h1,h2⟩
    . exact .inl ⟨d,h1,h2⟩
    . exact .inr ⟨d,h1,h2⟩
 |star a iha=>
  show Star a.lang (c::x)↔_
  rw[zc_];simp only[Ex.behind,List.mem_map];constructor
  . rintro⟨u,v,rfl,hu,hv⟩;obtain⟨d,h1,h2⟩:=(iha u).1 hu;exact⟨_,⟨d,h1,rfl⟩,(f4_ d (.star a) _).2 ⟨u,v,rfl,h2,hv⟩⟩
  . rintro⟨_,⟨d,h1,rfl⟩,h2⟩;obtain⟨u,v,rfl,h3,h4⟩:=(f4_ d (.star a) _).1 h2;exact⟨u,v,rfl,(iha u).2 ⟨d,h1,h3⟩,h4⟩
 |thn a b iha ihb=>
  simp only[Ex.behind,List.mem_append,List.mem_map];constructor
  . rintro⟨u,v,e,hu,hv⟩;cases u with
    |nil=>
     simp only[List.nil_append]at e;subst e;obtain⟨d,h1,h2⟩:=(ihb x).1 hv;exact⟨d,.inr (by rw[if_pos ((k3_ a).2 hu)];exact h1),h2⟩
    |cons d u=>
     simp only[List.cons_append,List.cons.injEq]at e;obtain⟨rfl,rfl⟩:=e;obtain⟨d,h1,h2⟩:=(iha u).1 hu;exact⟨_,.inl ⟨d,h1,rfl⟩,(f4_ d b _).2 ⟨u,v,rfl,h2,hv⟩⟩
  . rintro⟨d,⟨d',h1,rfl⟩|h1,h2⟩
    . obtain⟨u,v,rfl,h3,h4⟩:=(f4_ d' b _).1 h2;exact⟨c::u,v,rfl,(iha u).2 ⟨d',h1,h3⟩,h4⟩
    . by_cases he:a.empty=true
      . rw[if_pos he]at h1;exact⟨[],c::x,rfl,(k3_ a).1 he,(ihb x).2 ⟨d,h1,h2⟩⟩
      . rw[if_neg he]at h1;simp at h1
def Ex.pds:Ex->List Ex
 | .nil=> []
 | .one _=> [.nil]
 | .alt a b=>a.pds++b.pds
 | .thn a b=>(a.pds.map fun x=>x.thn' b)++b.pds
 | .star a=>a.pds.map fun x=>x.thn' (.star a)
def Ex.letters:Ex->Nat
 | .nil=>0
 | .one _=>1
 | .alt a b=>a.letters+b.letters
 | .thn a b=>a.letters+b.letters
 | .star a=>a.letters
theorem wy_ (e:Ex):e.pds.length=e.letters:=by
 induction e with
 |nil=>rfl
 |one S=>rfl
 |alt a b iha ihb=>simp[Ex.pds,Ex.letters,iha,ihb]
 |thn a b iha ihb=>simp[Ex.pds,Ex.letters,iha,ihb]
 |star a iha=>simp[Ex.pds,Ex.letters,iha]
theorem nb_ (x b d:Ex)(c:Nat)(h:d∈(x.thn' b).behind c):(∃y∈x.behind c,d=y.thn' b)\/d∈b.behind c:=by
 unfold Ex.thn' at h;by_cases h1:x.isNil=true
 . rw[if_pos h1]at h;exact .inr h
 . rw[if_neg h1]at h;by_cases h2:b.isNil=true
   . rw[if_pos h2]at h;rw[Ex.isNil_eq h2];refine .inl ⟨d,h, ?_⟩;unfold Ex.thn';by_cases h3:d.isNil=true
     . rw[if_pos h3];exact Ex.isNil_eq h3
     . rw[if_neg h3,if_pos (show Ex.nil.isNil=true from rfl)]
   . rw[if_neg h2]at h;simp only[Ex.behind,List.mem_append,List.mem_map]at h;rcases h with ⟨y,h3,rfl⟩|h3
     . exact .inl ⟨y,h3,rfl⟩
     . by_cases h4:x.empty=true
       . rw[if_pos h4]at h3;exact .inr h3
       . rw[if_neg h4]at h3;simp at h3
theorem ib_ (e:Ex)(c:Nat):∀d∈e.behind c,d∈e.pds:=by
 induction e with
 |nil=>intro d h;simp[Ex.behind]at h
 |one S=>
  intro d h;simp only[Ex.behind]at h;by_cases hs:S c=true
  . rw[if_pos hs]at h;exact h
  . rw[if_neg hs]at h;simp at h
 |alt a b iha ihb=>
  intro d h;simp only[Ex.behind,Ex.pds,List.mem_append]at h ⊢;exact h.imp (iha d) (ihb d)
 |star a iha=>
  intro d h;simp only[Ex.behind,Ex.pds,List.mem_map]at h ⊢;obtain⟨y,h1,rfl⟩:=h;exact⟨y,iha y h1,rfl⟩
 |thn a b iha ihb=>
  intro d h;simp only[Ex.behind,Ex.pds,List.mem_append,List.mem_map]at h ⊢;rcases h with ⟨y,h1,rfl⟩|h1
  . exact .inl ⟨y,iha y h1,rfl⟩
  . by_cases h4:a.empty=true
    . rw[if_pos h4]at h1;exact .inr (ihb d h1)
    . rw[if_neg h4]at h1;simp at h1
theorem wz_ (e:Ex)(c:Nat):∀d∈e.pds,∀d'∈d.behind c,d'∈e.pds:=by
 induction e with
 |nil=>intro d h;simp[Ex.pds]at h
 |one S=>
  intro d h d' h';simp only[Ex.pds,List.mem_singleton]at h;subst h;simp[Ex.behind]at h'
 |alt a b iha ihb=>
  intro d h d' h';simp only[Ex.pds,List.mem_append]at h ⊢;exact h.imp (fun h=>iha d h d' h') (fun h=>ihb d h d' h')
 |star a iha=>
  intro d h d' h';simp only[Ex.pds,List.mem_map]at h ⊢;obtain⟨y,h1,rfl⟩:=h;rcases nb_ y (.star a) d' c h' with ⟨z,h2,rfl⟩|h2
  . exact⟨z,iha y h1 z h2,rfl⟩
  . simp only[Ex.behind,List.mem_map]at h2;obtain⟨z,h3,rfl⟩:=h2;exact⟨z,ib_ a c z h3,rfl⟩
 |thn a b iha ihb=>
  intro d h d' h';simp only[Ex.pds,List.mem_append,List.mem_map]at h ⊢;rcases h with ⟨y,h1,rfl⟩|h1
  . rcases nb_ y b d' c h' with ⟨z,h2,rfl⟩|h2
    . exact .inl ⟨z,iha y h1 z h2,rfl⟩
    . exact .inr (ib_ b c d' h2)
  . exact .inr (ihb d h1 d' h')
theorem je_ {l m n:List Nat->Prop}(x:List Nat):Cat (Cat l m) n x↔Cat l (Cat m n) x:=by
 constructor
 . rintro⟨_,w,rfl,⟨u,v,rfl,hu,hv⟩,hw⟩;exact⟨u,v++w,i_,hu,v,w,rfl,hv,hw⟩
 . rintro⟨u,_,rfl,hu,v,w,rfl,hv,hw⟩;exact⟨u++v,w,i_,⟨u,v,rfl,hu,hv⟩,hw⟩
def Pow (l:List Nat->Prop):Nat->List Nat->Prop
 |0=>fun x=>x=[]
 |n+1=>Cat l (Pow l n)
theorem nu_ {l:List Nat->Prop}(n:Nat)(x:List Nat):Cat (Pow l n) l x↔Pow l (n+1) x:=by
 induction n generalizing x with
 |zero=>exact(e9_ x).trans (go_ x).symm
 |succ n ih=>
  show Cat (Cat l (Pow l n)) l x↔Cat l (Pow l (n+1)) x
  rw[je_];exact Cat.congr (fun _=>Iff.rfl) ih x
theorem pow_add {l:List Nat->Prop}(m n:Nat)(x:List Nat):Cat (Pow l m) (Pow l n) x↔Pow l (m+n) x:=by
 induction m generalizing x with
 |zero=>rw[Nat.zero_add];exact e9_ x
 |succ m ih=>
  rw[show m+1+n=(m+n)+1 by omega];show Cat (Cat l (Pow l m)) (Pow l n) x↔Cat l (Pow l (m+n)) x
  rw[je_];exact Cat.congr (fun _=>Iff.rfl) ih x
theorem s5_ {l:List Nat->Prop}(x:List Nat):Star l x↔∃n,Pow l n x:=by
 constructor
 . intro h;induction h with
   |nil=>exact⟨0,rfl⟩
   |cons hu _ ih=>obtain⟨n,hn⟩:=ih;exact⟨n+1,_,_,rfl,hu,hn⟩
 . rintro⟨n,h⟩;induction n generalizing x with
   |zero=>rw[show x=[]from h];exact .nil
   |succ n ih=>obtain⟨u,v,rfl,hu,hv⟩:=h;exact .cons hu (ih v hv)
theorem jy_ {l:List Nat->Prop}{least:Nat}{en:Bool}(k:Nat)(hk:k<=least)(x:List Nat):d4_ l least en k x↔Pow l k x:=by
 induction k generalizing x with
 |zero=>exact Iff.rfl
 |succ k ih=>
  rw[<-nu_];refine Cat.congr (ih o_) (fun y=> ?_) x;unfold Copy;rw[if_pos o_]
theorem ui_ {l:List Nat->Prop}{least:Nat}(n:Nat)(x:List Nat):d4_ l least false (least+n) x↔∃j,least<=j/\j<=least+n/\Pow l j x:=by
 induction n generalizing x with
 |zero=>
  rw[Nat.add_zero,jy_ least lr__];constructor
  . intro h;exact⟨least,lr__,lr__,h⟩
  . rintro⟨j,h1,h2,h⟩;rw[show least=j by omega];exact h
 |succ n ih=>
  show Cat (d4_ l least false (least+n)) (Copy l least (least+n) false) x↔_
  have hc:∀y,Copy l least (least+n) false y↔y=[]\/l y:=by
   intro y;unfold Copy;rw[if_neg o_,if_neg i_]
  rw[Cat.congr ih hc x];constructor
  . rintro⟨u,v,rfl,⟨j,h1,h2,h3⟩,rfl|hv⟩
    . exact⟨j,h1,o_,by rw[List.append_nil];exact h3⟩
    . exact⟨j+1,o_,o_,(nu_ j _).1 ⟨u,v,rfl,h3,hv⟩⟩
  . rintro⟨j,h1,h2,h3⟩;by_cases hj:j<=least+n
    . exact⟨x,[],i_,⟨j,h1,hj,h3⟩,.inl rfl⟩
    . obtain⟨i,rfl⟩:∃i,j=i+1:=⟨j - 1,o_⟩;obtain⟨u,v,rfl,hu,hv⟩:=(nu_ i x).2 h3;exact⟨u,v,rfl,⟨i,o_,o_,hu⟩,.inr hv⟩
theorem uj_ {l:List Nat->Prop}{least:Nat}(x:List Nat):d4_ l least true (least+1) x↔∃j,least<=j/\Pow l j x:=by
 show Cat (d4_ l least true least) (Copy l least least true) x↔_
 have hc:∀y,Copy l least least true y↔∃n,Pow l n y:=by
  intro y;unfold Copy;rw[if_neg o_,if_pos rfl,s5_]
 rw[Cat.congr (jy_ least lr__) hc x];constructor
 . rintro⟨u,v,rfl,hu,n,hv⟩;exact⟨least+n,o_,(pow_add least n _).1 ⟨u,v,rfl,hu,hv⟩⟩
 . rintro⟨j,h1,h2⟩;obtain⟨n,rfl⟩:∃n,j=least+n:=⟨j - least,o_⟩;obtain⟨u,v,rfl,hu,hv⟩:=(pow_add least n x).2 h2;exact⟨u,v,rfl,hu,n,hv⟩
def Ex.opts (x:Ex):Nat->Ex
 |0=> .nil
 |n+1=>Ex.alt' .nil (x.thn' (x.opts n))
def Ex.must (x e:Ex):Nat->Ex
 |0=>e
 |n+1=>x.thn' (x.must e n)
theorem zd_ (x:Ex)(n:Nat)(y:List Nat):(x.opts n).lang y↔∃j,j<=n/\Pow x.lang j y:=by
 induction n generalizing y with
 |zero=>
  constructor
  . intro h;exact⟨0,lr__,h⟩
  . rintro⟨j,hj,h⟩;rw[show j=0 by omega]at h;exact h
 |succ n ih=>
  simp only[Ex.opts];rw[ql_,f4_,Cat.congr (fun _=>Iff.rfl) ih y];constructor
  . rintro(h|⟨u,v,rfl,hu,j,hj,hv⟩)
    . exact⟨0,o_,h⟩
    . exact⟨j+1,o_,u,v,rfl,hu,hv⟩
  . rintro⟨j,hj,h⟩;cases j with
    |zero=>exact .inl h
    |succ j=>obtain⟨u,v,rfl,hu,hv⟩:=h;exact .inr ⟨u,v,rfl,hu,j,o_,hv⟩
theorem qm_ (x e:Ex)(n:Nat)(y:List Nat):(x.must e n).lang y↔Cat (Pow x.lang n) e.lang y:=by
 induction n generalizing y with
 |zero=>exact(e9_ y).symm
 |succ n ih=>
  simp only[Ex.must];rw[f4_,Cat.congr (fun _=>Iff.rfl) ih y];exact(je_ y).symm
theorem ab2_ (x:Ex)(l:List Nat->Prop)(h:∀y,x.lang y↔l y)(lo n:Nat)(y:List Nat):(x.must (x.opts n) lo).lang y↔d4_ l lo false (lo+n) y:=by
 have hp:∀j y,Pow x.lang j y↔Pow l j y:=by
  intro j;induction j with
  |zero=>intro y;exact Iff.rfl
  |succ j ih=>intro y;exact Cat.congr h ih y
 rw[qm_,ui_,Cat.congr (hp lo) (zd_ x n) y];constructor
 . rintro⟨u,v,rfl,hu,j,hj,hv⟩;exact⟨lo+j,o_,o_,(pow_add lo j _).1 ⟨u,v,rfl,hu,(hp j v).1 hv⟩⟩
 . rintro⟨j,h1,h2,h3⟩;obtain⟨i,rfl⟩:∃i,j=lo+i:=⟨j - lo,o_⟩;obtain⟨u,v,rfl,hu,hv⟩:=(pow_add lo i y).2 h3;exact⟨u,v,rfl,hu,i,o_,(hp i v).2 hv⟩
theorem ab3_ (x:Ex)(l:List Nat->Prop)(h:∀y,x.lang y↔l y)(lo:Nat)(y:List Nat):(x.must x.star' lo).lang y↔d4_ l lo true (lo+1) y:=by
 have hp:∀j y,Pow x.lang j y↔Pow l j y:=by
  intro j;induction j with
  |zero=>intro y;exact Iff.rfl
  |succ j ih=>intro y;exact Cat.congr h ih y
 rw[qm_,uj_];have hs:∀y,x.star'.lang y↔∃n,Pow l n y:=by
  intro y;rw[wx_,s5_];exact⟨fun⟨n,h⟩=>⟨n,(hp n y).1 h⟩,fun⟨n,h⟩=>⟨n,(hp n y).2 h⟩⟩
 rw[Cat.congr (hp lo) hs y];constructor
 . rintro⟨u,v,rfl,hu,n,hv⟩;exact⟨lo+n,o_,(pow_add lo n _).1 ⟨u,v,rfl,hu,hv⟩⟩
 . rintro⟨j,h1,h2⟩;obtain⟨n,rfl⟩:∃n,j=lo+n:=⟨j - lo,o_⟩;obtain⟨u,v,rfl,hu,hv⟩:=(pow_add lo n y).2 h2;exact⟨u,v,rfl,hu,n,hv⟩
end Go.Proofs.YtpngikmcjkjdaaaGreatDoor
