import Derived.Test.YtpngikmcjkjdaaaGreatDoorC14
set_option linter.unusedVariables false
set_option linter.unusedSimpArgs false
set_option maxRecDepth 20000
set_option maxHeartbeats 80000000
namespace Go.Proofs.YtpngikmcjkjdaaaGreatDoor
open Go.RowKit Tryz List Nat
variable {s:ByteArray} {m:Int} {l ps:List Nat} {l':List Nat->Prop} {B a b c f g n q:Nat} {N S:Nat->Bool}
def txt (s:ByteArray):List Nat:=s.data.toList.map UInt8.toNat
def sub (s:ByteArray)(a b:Nat):List Nat:=((txt s).take b).drop a
theorem bm_ (s:ByteArray):(txt s).length=s.size:=by unfold txt;simp
theorem m6_ (h:a<s.size):(txt s)[a]? =some (θ s a):=by
 have b:a<s.data.toList.length:=by rw[Array.length_toList];exact h
 unfold txt θ;rw[getElem?_map,gd_,ge_ b];rfl
theorem j2_ (h1:a<=b)(h2:b<=c):sub s a b++sub s b c=sub s a c:=by
 unfold sub;apply ext_getElem?;intro i;by_cases h:b<=s.size
 . have g:(((txt s).take b).drop a).length=b - a:=by rw[length_drop,length_take,bm_];omega
   by_cases j:i<b - a
   . rw[gl_ o_,getElem?_drop,getElem?_drop,getElem?_take_of_lt o_,getElem?_take_of_lt o_]
   . rw[getElem?_append_right o_,g,getElem?_drop,getElem?_drop,show b+(i - (b - a))=a+i by omega]
 . have e:(txt s).take b=txt s:=tk_ (by rw[bm_];omega);have d:(txt s).take c=txt s:=tk_ (by rw[bm_];omega);have f:(txt s).drop b=[]:=drop_of_length_le (by rw[bm_];omega);rw[e,d,f,append_nil]
theorem ox_ (s:ByteArray)(a:Nat):sub s a a=[]:=by unfold sub;exact drop_of_length_le (by rw[length_take];omega)
theorem jb_ (h:a<s.size):sub s a (a+1)=[θ s a]:=by
 unfold sub;rw[take_succ_eq_append_getElem (by rw[bm_];exact h),drop_append_of_le_length (by rw[length_take,bm_];omega),drop_of_length_le (by rw[length_take];omega),nil_append];have:=m6_ h;rw[ge_ (by rw[bm_];exact h)]at this;simpa using this
theorem hh_ (h:a<b)(hb:b<=s.size):sub s a b=θ s a::sub s (a+1) b:=by
 rw[<-j2_ (show a<=a+1 by omega) (show a+1<=b by omega),jb_ o_];rfl
theorem oy_ (h:a<=b)(hb:b<s.size):sub s a (b+1)=sub s a b++ [θ s b]:=by
 rw[<-j2_ h (show b<=b+1 by omega),jb_ hb]
theorem adm_ (s:ByteArray):sub s 0 s.size=txt s:=by unfold sub;rw[tk_ (by rw[bm_];omega)];rfl
inductive Mk where
 |none:Mk
 |star:Mk
 |plus:Mk
 |opt:Mk
 |just (n:Nat):Mk
 |more (n:Nat):Mk
 |span (n m:Nat):Mk
def Mk.text:Mk->List Nat
 | .none=> []
 | .star=> [42]
 | .plus=> [43]
 | .opt=> [63]
 | .just n=> [123,48+n,125]
 | .more n=> [123,48+n,44,125]
 | .span n m=> [123,48+n,44,48+m,125]
def Mk.app:Mk->ζ->ζ
 | .none=>fun p=>p
 | .star=>fun p=> .rep p 0 1 true
 | .plus=>fun p=> .rep p 1 2 true
 | .opt=>fun p=> .rep p 0 1 false
 | .just n=>fun p=> .rep p n n false
 | .more n=>fun p=> .rep p n (n+1) true
 | .span n m=>fun p=> .rep p n m false
def Mk.ok:Mk->Prop
 | .just n=>n<=9
 | .more n=>n<=9
 | .span n m=>n<=m/\m<=9
 |_=>True
structure Prt where
 f:Nat
 g:Nat
 dash:Bool
def Prt.ok (x:Prt):Prop:=x.f<8/\x.g<8/\(x.dash=false->x.g=x.f)/\x.f<=x.g
def Prt.text (x:Prt):List Nat:=if x.dash then [97+x.f,45,97+x.g]else [97+x.f]
def ln_ (N:Nat->Bool)(l:List Prt):Nat->Bool:=l.foldl (fun N x=>f7_ N x.f x.g) N
def f9_ (l:List Nat)(p:ζ):Prop:=
 (∃c,c<8/\l=[97+c]/\p= .one (fun x=>decide (x=c)))\/(l=[46]/\p= .one (fun _=>true))\/
 (∃ps:List Prt,ps≠ []/\(∀x∈ps,x.ok)/\((l=91::ps.flatMap Prt.text++ [93]/\p= .one (ln_ (fun _=>false) ps))\/(l=91::94::ps.flatMap Prt.text++ [93]/\p= .one (fun c=> !ln_ (fun _=>false) ps c))))
structure Η where
 la:List Nat
 q:ζ
 m:Mk
def Η.text (i:Η):List Nat:=i.la++i.m.text
def Η.pat (i:Η):ζ:=i.m.app i.q
def bv_ (p:ζ)(l:List Η):ζ:=l.foldl (fun p i=> .chain p i.pat) p
def hi_ (A:List Nat->ζ->Prop)(l:List Nat)(p:ζ):Prop:=∃its:List Η,(∀i∈its,A i.la i.q/\i.m.ok)/\l=its.flatMap Η.text/\p=bv_ .none its
def ht_ (p:ζ)(l:List (List Nat×ζ)):ζ:=l.foldl (fun p y=> .alt p y.2) p
def ee_ (l:List (List Nat×ζ)):List Nat:=l.flatMap fun y=>124::y.1
def gy_ (A:List Nat->ζ->Prop)(l:List Nat)(p:ζ):Prop:=∃(x:List Nat×ζ) (xs:List (List Nat×ζ)),hi_ A x.1 x.2/\(∀y∈xs,hi_ A y.1 y.2)/\l=x.1++ee_ xs/\p=ht_ x.2 xs
def dr_:Nat->List Nat->ζ->Prop
 |0=>f9_
 |k+1=>fun l p=>f9_ l p\/∃l',l=40::l'++ [41]/\gy_ (dr_ k) l' p
section
variable {s:ByteArray}
theorem m7_ {pl:Nat}{t:Sp}(h:(a2_ pl f g t).bk=false):t.bk=false/\f<=g:=by
 unfold a2_ at h;by_cases a:g<f
 . rw[if_pos a]at h;simp[Sp.tell]at h
 . rw[if_neg a]at h;exact⟨h,o_⟩
theorem oz_ (h:c7_ s a=true):θ s a=97+(θ s a - 97):=by have:=ja_.1 h;omega
theorem o0_ (h:d0_ s a=true):θ s a=48+(θ s a - 48):=by have:=ou_.1 h;omega
theorem u4_ {t t':Sp}(h:eb_ s t= .ok (f,g) t')(hfg:f<=g):t'.bk=t.bk/\∃x:Prt,x.ok/\x.f=f/\x.g=g/\sub s t.a t'.a=x.text:=by
 unfold eb_ at h;split at h
 . rename_i h1;have b:=jz_ h1;have d:=in_ h1;split at h
   . rename_i h2;obtain⟨c,j⟩:=cs_ h2;split at h
     . rename_i h3;have i:=jz_ h3;have e:=in_ h3;simp only[ψ.ok.injEq,Prod.mk.injEq]at h;obtain⟨⟨rfl,rfl⟩,rfl⟩:=h;refine⟨rfl,⟨_,_,true⟩,⟨b.1,i.1,fun h=>by simp at h,hfg⟩,rfl,rfl, ?_⟩;simp only[go_a,Prt.text,if_true];rw[hh_ o_ o_,hh_ o_ o_,jb_ e,c,<-oz_ h1,<-oz_ h3]
     . simp at h
   . simp only[ψ.ok.injEq,Prod.mk.injEq]at h;obtain⟨⟨rfl,rfl⟩,rfl⟩:=h;refine⟨rfl,⟨_,_,false⟩,⟨b.1,b.1,fun _=>rfl,hfg⟩,rfl,rfl, ?_⟩;simp only[go_a,Prt.text,ft_,if_false];rw[jb_ d,<-oz_ h1]
 . simp at h
theorem u5_ {N':Nat->Bool}{t t':Sp}(h:em_ s n N t= .ok N' t')(hb:t'.bk=false):t.bk=false/\∃ps:List Prt,ps≠ []/\(∀x∈ps,x.ok)/\sub s t.a t'.a=ps.flatMap Prt.text++ [93]/\N'=ln_ N ps:=by
 induction n generalizing N t with
 |zero=>simp[em_]at h
 |succ n ih=>
  simp only[em_]at h;cases hp:eb_ s t with
  |no t1=>rw[hp]at h;simp at h
  |ok x t1=>
   obtain⟨f,g⟩:=x;rw[hp]at h;have w:=my_ hp;simp only at h;split at h
   . rename_i h2;have q:f<=g:=by
      have i:=h;simp only[ψ.ok.injEq]at i;rw[<-i.2]at hb;exact(m7_ (show(a2_ t.a f g t1).bk=false from hb)).2
     obtain⟨b,x,d,rfl,rfl,c⟩:=u4_ hp q;obtain⟨l,u⟩:=cs_ h2;simp only[ψ.ok.injEq]at h;obtain⟨rfl,rfl⟩:=h;have p:(a2_ t.a x.f x.g t1).bk=false:=hb;refine⟨by rw[<-b];exact(m7_ p).1,[x],i_,by simpa using d, ?_,rfl⟩;simp only[go_a,spanF_a];rw[oy_ o_ u,c,l];simp
   . obtain⟨j,ps,v,m,k,o⟩:=ih h;obtain⟨b,x,d,rfl,rfl,c⟩:=u4_ hp (m7_ j).2;refine⟨by rw[<-b];exact(m7_ j).1,x::ps,i_, ?_, ?_, ?_⟩
     . intro y e;rcases mc_.1 e with rfl|e
       . exact d
       . exact m y e
     . simp only[spanF_a]at k;have r:=qv_ h;simp only[spanF_a]at r;rw[<-j2_ (show t.a<=t1.a by omega) (show t1.a<=t'.a by omega),c,k];simp
     . rw[o];rfl
theorem adn_ {t t':Sp}(h:f8_ s t= .ok N t')(hb:t'.bk=false)(hh:ς s (t.a - 1) 91=true)(ha:1<=t.a):t.bk=false/\f9_ (sub s (t.a - 1) t'.a) (.one N):=by
 have l:=ok_ h;obtain⟨j,m⟩:=cs_ hh;unfold f8_ at h;have i:sub s (t.a - 1) t'.a=91::sub s t.a t'.a:=by
  rw[hh_ o_ o_,j,show t.a - 1+1=t.a by omega]
 split at h
 . rename_i h1;obtain⟨k,n⟩:=cs_ h1;cases hp:em_ s (s.size+1) (fun _=>false) t.go with
   |no t1=>rw[hp]at h;simp at h
   |ok x t1=>
    rw[hp]at h;simp only[ψ.ok.injEq]at h;obtain⟨rfl,rfl⟩:=h;obtain⟨c,g,d,e,b,f⟩:=u5_ hp hb;refine⟨c,.inr (.inr ⟨g,d,e,.inr ⟨?_,by rw[f]⟩⟩)⟩;rw[i,hh_ o_ o_,k];simp only[go_a]at b;rw[b];rfl
 . obtain⟨c,g,d,e,b,f⟩:=u5_ h hb;refine⟨c,.inr (.inr ⟨g,d,e,.inl ⟨?_,by rw[f]⟩⟩)⟩;rw[i,b];rfl
def lo_ (s:ByteArray)(A:List Nat->ζ->Prop)(atom:Sp->ψ ζ):Prop:=∀t p t',atom t= .ok p t'->t'.bk=false->t.bk=false/\A (sub s t.a t'.a) p
theorem u6_:lo_ s f9_ (c0_ s):=by
 intro t p e h b;unfold c0_ at h;split at h
 . rename_i h1;cases hp:f8_ s t.go with
   |no t1=>rw[hp]at h;simp at h
   |ok x t1=>
    rw[hp]at h;simp only[ψ.ok.injEq]at h;obtain⟨rfl,rfl⟩:=h;exact adn_ hp b (by simpa using h1) i_
 . split at h
   . rename_i h2;obtain⟨d,c⟩:=cs_ h2;simp only[ψ.ok.injEq]at h;obtain⟨rfl,rfl⟩:=h;exact⟨b,.inr (.inl ⟨by rw[go_a,jb_ c,d],rfl⟩)⟩
   . split at h
     . rename_i h2;have c:=in_ h2;simp only[ψ.ok.injEq]at h;obtain⟨rfl,rfl⟩:=h;exact⟨b,.inl ⟨θ s t.a - 97,(jz_ h2).1,by rw[go_a,jb_ c,<-oz_ h2],rfl⟩⟩
     . simp at h
theorem ado_ {lo co:Nat}{en:Bool}{t t':Sp}(h:cq_ s t= .ok (lo,co,en) t')(hb:t'.bk=false):t.bk=false/\∃m:Mk,m.ok/\(∀p,m.app p= .rep p lo co en)/\123::sub s t.a t'.a=m.text:=by
 unfold cq_ at h;split at h
 . rename_i h1;have l:=lm_ h1;split at h
   . rename_i h2;obtain⟨b,c⟩:=cs_ h2;simp only[ψ.ok.injEq,Prod.mk.injEq]at h;obtain⟨⟨rfl,rfl,rfl⟩,rfl⟩:=h;refine⟨hb,.just (θ s t.a - 48),by show θ s t.a - 48<=9;omega,fun _=>rfl, ?_⟩;simp only[go_a,Mk.text];rw[hh_ o_ o_,jb_ c,b,<-o0_ h1]
   . split at h
     . rename_i h3;obtain⟨d,k⟩:=cs_ h3;split at h
       . rename_i h2;obtain⟨b,c⟩:=cs_ h2;simp only[ψ.ok.injEq,Prod.mk.injEq]at h;obtain⟨⟨rfl,rfl,rfl⟩,rfl⟩:=h;refine⟨hb,.more (θ s t.a - 48),by show θ s t.a - 48<=9;omega,fun _=>rfl, ?_⟩;simp only[go_a,Mk.text];rw[hh_ o_ o_,hh_ o_ o_,jb_ c,b,d,<-o0_ h1]
       . split at h
         . rename_i h4;have n:=lm_ h4;split at h
           . rename_i h5;obtain⟨e,j⟩:=cs_ h5;simp only[ψ.ok.injEq,Prod.mk.injEq]at h;obtain⟨⟨rfl,rfl,rfl⟩,rfl⟩:=h;have f:(a2_ t.a (θ s t.a - 48) (θ s (t.a+1+1)- 48) t.go.go.go).bk=false:=hb;obtain⟨g,i⟩:=m7_ f;refine⟨g,.span (θ s t.a - 48) (θ s (t.a+1+1)- 48),⟨i,o_⟩,fun _=>rfl, ?_⟩;simp only[go_a,spanF_a,Mk.text];rw[hh_ o_ o_,hh_ o_ o_,hh_ o_ o_,jb_ j,e,d,<-o0_ h1,<-o0_ h4]
           . simp at h
         . simp at h
     . simp at h
 . simp at h
theorem adp_ {A:List Nat->ζ->Prop}{atom:Sp->ψ ζ}(ha:lo_ s A atom)(hg:gx_ s B atom){t t':Sp}{p:ζ}(h:fy_ s atom t= .ok p t')(hb:t'.bk=false):t.bk=false/\∃i:Η,A i.la i.q/\i.m.ok/\i.pat=p/\sub s t.a t'.a=i.text:=by
 unfold fy_ at h;cases hp:atom t with
 |no t1=>rw[hp]at h;simp at h
 |ok q t1=>
  rw[hp]at h;obtain⟨D,E,_⟩:=hg _ _ _ hp;simp only at h;have g:∀(b:Nat) (m:Mk),ς s t1.a b=true->m.text=[b]->m.ok->t'=t1.go->p=m.app q->t.bk=false/\∃i:Η,A i.la i.q/\i.m.ok/\i.pat=p/\sub s t.a t'.a=i.text:=by
   intro b m v y w n o;obtain⟨l,z⟩:=cs_ v;subst n;obtain⟨c,d⟩:=ha _ _ _ hp hb;refine⟨c,⟨sub s t.a t1.a,q,m⟩,d,w,o.symm, ?_⟩;unfold Η.text;rw[go_a,oy_ o_ z,l,y]
  split at h
  . rename_i h1;simp only[ψ.ok.injEq]at h;exact g 42 .star h1 rfl trivial h.2.symm h.1.symm
  . split at h
    . rename_i h1;simp only[ψ.ok.injEq]at h;exact g 43 .plus h1 rfl trivial h.2.symm h.1.symm
    . split at h
      . rename_i h1;simp only[ψ.ok.injEq]at h;exact g 63 .opt h1 rfl trivial h.2.symm h.1.symm
      . split at h
        . rename_i h1;obtain⟨k,F⟩:=cs_ h1;cases hc:cq_ s t1.go with
          |no t2=>rw[hc]at h;simp at h
          |ok x t2=>
           obtain⟨G,co,C⟩:=x;rw[hc]at h;simp only[ψ.ok.injEq]at h;obtain⟨rfl,rfl⟩:=h;have u:=qw_ hc;simp only[go_a]at u;obtain⟨c,m,d,r,j⟩:=ado_ hc hb;obtain⟨e,f⟩:=ha _ _ _ hp c;refine⟨e,⟨sub s t.a t1.a,q,m⟩,f,d,r q, ?_⟩;unfold Η.text;simp only[go_a]at j;rw[<-j,<-j2_ (show t.a<=t1.a by omega) (show t1.a<=t2.a by omega),hh_ (show t1.a<t2.a by omega) o_,k]
        . simp only[ψ.ok.injEq]at h;obtain⟨rfl,rfl⟩:=h;obtain⟨e,f⟩:=ha _ _ _ hp hb;exact⟨e,⟨sub s t.a t1.a,q,.none⟩,f,trivial,rfl,by unfold Η.text;simp[Mk.text]⟩
theorem u7_ {A:List Nat->ζ->Prop}{atom:Sp->ψ ζ}(ha:lo_ s A atom)(hg:gx_ s B atom){t t':Sp}{p q:ζ}(hz:t.a<=s.size)(h:cr_ s atom n p t= .ok q t')(hb:t'.bk=false):t.bk=false/\∃its:List Η,(∀i∈its,A i.la i.q/\i.m.ok)/\sub s t.a t'.a=its.flatMap Η.text/\q=bv_ p its:=by
 induction n generalizing p t with
 |zero=>simp[cr_]at h
 |succ n ih=>
  simp only[cr_]at h;split at h
  . simp only[ψ.ok.injEq]at h;obtain⟨rfl,rfl⟩:=h;exact⟨hb,[],i_,by rw[ox_];rfl,rfl⟩
  . cases hp:fy_ s atom t with
    |no t1=>rw[hp]at h;simp at h
    |ok q1 t1=>
     rw[hp]at h;obtain⟨r,u,_⟩:=ol_ hg _ _ _ hp;obtain⟨c,its,d,e,f⟩:=ih o_ h;have v:=ku_ hg o_ h;obtain⟨g,i,j,k,l,o⟩:=adp_ ha hg hp c;refine⟨g,i::its, ?_, ?_, ?_⟩
     . intro y b;rcases mc_.1 b with rfl|b
       . exact⟨j,k⟩
       . exact d y b
     . rw[<-j2_ (show t.a<=t1.a by omega) (show t1.a<=t'.a by omega),o,e];rfl
     . rw[f,<-l];rfl
theorem adq_ {A:List Nat->ζ->Prop}{atom:Sp->ψ ζ}(ha:lo_ s A atom)(hg:gx_ s B atom){t t':Sp}{p q:ζ}(hz:t.a<=s.size)(h:gw_ s atom n p t= .ok q t')(hb:t'.bk=false):t.bk=false/\∃xs:List (List Nat×ζ),(∀y∈xs,hi_ A y.1 y.2)/\sub s t.a t'.a=ee_ xs/\q=ht_ p xs:=by
 induction n generalizing p t with
 |zero=>simp[gw_]at h
 |succ n ih=>
  simp only[gw_]at h;split at h
  . rename_i hh;obtain⟨c,v⟩:=cs_ hh;cases hp:cr_ s atom (s.size+1) .none t.go with
    |no t1=>rw[hp]at h;simp at h
    |ok q1 t1=>
     rw[hp]at h;obtain⟨d,r,_⟩:=ku_ hg z_ hp;simp only[go_a]at d;obtain⟨e,xs,f,g,i⟩:=ih o_ h;have u:=qx_ hg o_ h;obtain⟨j,o,k,l,m⟩:=u7_ ha hg z_ hp e;refine⟨j,(sub s t.go.a t1.a,q1)::xs, ?_, ?_, ?_⟩
     . intro y b;rcases mc_.1 b with rfl|b
       . exact⟨o,k,l,m⟩
       . exact f y b
     . rw[<-j2_ (show t.a<=t1.a by omega) (show t1.a<=t'.a by omega),hh_ (show t.a<t1.a by omega) o_,c,g];rfl
     . rw[i];rfl
  . simp only[ψ.ok.injEq]at h;obtain⟨rfl,rfl⟩:=h;exact⟨hb,[],i_,by rw[ox_];rfl,rfl⟩
theorem u8_ {A:List Nat->ζ->Prop}{atom:Sp->ψ ζ}(ha:lo_ s A atom)(hg:gx_ s B atom){t t':Sp}{q:ζ}(hz:t.a<=s.size)(h:ec_ s atom t= .ok q t')(hb:t'.bk=false):t.bk=false/\gy_ A (sub s t.a t'.a) q:=by
 unfold ec_ at h;cases hp:cr_ s atom (s.size+1) .none t with
 |no t1=>rw[hp]at h;simp at h
 |ok q1 t1=>
  rw[hp]at h;obtain⟨m,n,_⟩:=ku_ hg hz hp;have o:=qx_ hg o_ h;obtain⟨b,l,c,d,e⟩:=adq_ ha hg o_ h hb;obtain⟨f,k,g,i,j⟩:=u7_ ha hg hz hp b;exact⟨f,(sub s t.a t1.a,q1),l,⟨k,g,i,j⟩,c,by rw[<-j2_ (show t.a<=t1.a by omega) (show t1.a<=t'.a by omega),d],e⟩
theorem adr_ (s:ByteArray)(k:Nat):lo_ s (dr_ k) (bh_ s k):=by
 induction k with
 |zero=>exact u6_
 |succ k ih=>
  intro t p n h b;simp only[bh_]at h;split at h
  . rename_i hh;obtain⟨c,m⟩:=cs_ hh;cases hp:ec_ s (bh_ s k) t.go with
    |no t1=>rw[hp]at h;simp at h
    |ok q1 t1=>
     rw[hp]at h;obtain⟨e,l,_⟩:=qy_ (ib_ k) z_ hp;simp only[go_a]at e;simp only at h;split at h
     . rename_i a;obtain⟨d,j⟩:=cs_ a;simp only[ψ.ok.injEq]at h;obtain⟨rfl,rfl⟩:=h;obtain⟨g,i⟩:=u8_ ih (ib_ k) z_ hp b;refine⟨g,.inr ⟨_, ?_,i⟩⟩;rw[go_a,oy_ o_ j,hh_ o_ o_,c,d];rfl
     . simp at h
  . obtain⟨f,a⟩:=u6_ _ _ _ h b;exact⟨f,.inl a⟩
theorem q8_ {p:ζ}{t:Sp}(h:c8_ s= .ok p t)(he:t.a=s.size)(hb:t.bk=false):gy_ (dr_ 6) (txt s) p:=by
 have:=(u8_ (adr_ s 6) (ib_ 6) i_ h hb).2;rw[he,adm_]at this;exact this
end
def b5_:List Nat->Int->List Nat->List (List Nat)
 | [],_,cur=> [cur]
 |c::l,n,cur=>if c=40 then b5_ l (n+1) (cur++ [c])else if c=41 then b5_ l (n - 1) (cur++ [c])else if c=124/\n=0 then cur::b5_ l n []else b5_ l n (cur++ [c])
def cx_:List Nat->Int->Nat->Nat
 | [],_,k=>k
 |c::l,n,k=>if c=40 then cx_ l (n+1) (k+1)else if c=41 then(if n - 1=0 then k else cx_ l (n - 1) (k+1))else cx_ l n (k+1)
def dg_ (m:Int)(l:List Nat):Prop:=∀n cur rest,m<=n->b5_ (l++rest) n cur=b5_ rest n (cur++l)
def en_ (l:List Nat):Prop:=∀n k rest,1<=n->cx_ (l++rest) n k=cx_ rest n (k+l.length)
theorem dg_.nil (m:Int):dg_ m []:=fun n cur rest _=>i_
theorem dg_.app {l':List Nat}(h:dg_ m l)(h':dg_ m l'):dg_ m (l++l'):=fun n cur rest hn=>by rw[ac_,h n cur _ hn,h' n _ rest hn,ac_]
theorem dg_.one (m:Int)(h1:c≠40)(h2:c≠41)(h3:c≠124):dg_ m [c]:=fun n cur rest _=>by
 simp only[cons_append,nil_append,b5_];rw[if_neg h1,if_neg h2,if_neg (fun h=>h3 h.1)]
theorem dg_.fA:dg_ 1 [124]:=fun n cur rest hn=>by
 simp only[cons_append,nil_append,b5_];rw[if_neg o_,if_neg o_,if_neg (fun h=>o_)]
theorem dg_.mono {m':Int}(h:dg_ m l)(hm:m<=m'):dg_ m' l:=fun n cur rest hn=>h n cur rest o_
theorem dg_.par (h:dg_ 1 l):dg_ 0 (40::l++ [41]):=fun n cur rest hn=>by
 rw[show 40::l++ [41]++rest=40::(l++(41::rest))by simp];rw[show b5_ (40::(l++(41::rest))) n cur=b5_ (l++(41::rest)) (n+1) (cur++ [40])by simp[b5_]];rw[h (n+1) _ _ o_];rw[show b5_ (41::rest) (n+1) (cur++ [40]++l)=b5_ rest (n+1 - 1) (cur++ [40]++l++ [41])by simp[b5_]];rw[show n+1 - 1=n by omega];congr 1;simp
theorem en_.nil:en_ []:=fun n k rest _=>i_
theorem en_.app {l':List Nat}(h:en_ l)(h':en_ l'):en_ (l++l'):=fun n k rest hn=>by rw[ac_,h n k _ hn,h' n _ rest hn,Μ,Nat.add_assoc]
theorem en_.one (h1:c≠40)(h2:c≠41):en_ [c]:=fun n k rest _=>by
 simp only[cons_append,nil_append,cx_];rw[if_neg h1,if_neg h2];simp
theorem en_.par (h:en_ l):en_ (40::l++ [41]):=fun n k rest hn=>by
 rw[show 40::l++ [41]++rest=40::(l++(41::rest))by simp];rw[show cx_ (40::(l++(41::rest))) n k=cx_ (l++(41::rest)) (n+1) (k+1)by simp[cx_]];rw[h (n+1) _ _ o_];rw[show cx_ (41::rest) (n+1) (k+1+l.length)=cx_ rest (n+1 - 1) (k+1+l.length+1)by
  simp only[cx_];rw[if_neg o_,if_pos trivial,if_neg o_]]
 rw[show n+1 - 1=n by omega];congr 1;simp;omega
theorem q9_ (m:Int)(h:∀c∈l,c≠40/\c≠41/\c≠124):dg_ m l/\en_ l:=by
 induction l with
 |nil=>exact⟨dg_.nil m,en_.nil⟩
 |cons c l ih=>
  obtain⟨a,b,d⟩:=h c i_;obtain⟨e,f⟩:=ih (fun x hx=>h x (by simp[hx]));exact⟨(dg_.one m a b d).app e,(en_.one a b).app f⟩
theorem Mk.plain {m:Mk}(h:m.ok):∀c∈m.text,c≠40/\c≠41/\c≠124:=by
 intro c a;cases m<;>simp[Mk.text]at a<;>simp[Mk.ok]at h<;>omega
theorem Prt.plain {x:Prt}(h:x.ok):∀c∈x.text,(97<=c/\c<=104)\/c=45:=by
 intro c a;unfold Prt.text at a;obtain⟨b,d,_,_⟩:=h;cases hd:x.dash<;>rw[hd]at a<;>simp at a<;>omega
theorem o1_ {ps:List Prt}(h:∀x∈ps,x.ok):∀c∈ps.flatMap Prt.text,(97<=c/\c<=104)\/c=45:=by
 intro c a;obtain⟨x,b,a⟩:=mem_flatMap.1 a;exact Prt.plain (h x b) c a
theorem f9_.plain {p:ζ}(h:f9_ l p):∀c∈l,c≠40/\c≠41/\c≠124:=by
 intro x a;rcases h with ⟨c,d,rfl,_⟩|⟨rfl,_⟩|⟨e,_,b,⟨rfl,_⟩|⟨rfl,_⟩⟩
 . simp at a;omega
 . simp at a;omega
 . simp only[cons_append,mc_,mp_,not_mem_nil,or_false]at a;rcases a with a|a|a
   . omega
   . have:=o1_ b x a;omega
   . omega
 . simp only[cons_append,mc_,mp_,not_mem_nil,or_false]at a;rcases a with a|a|a|a
   . omega
   . omega
   . have:=o1_ b x a;omega
   . omega
theorem u9_ {α:Type}{f:α->List Nat}{l:List α}(h:∀x∈l,dg_ m (f x)/\en_ (f x)):dg_ m (l.flatMap f)/\en_ (l.flatMap f):=by
 induction l with
 |nil=>exact⟨dg_.nil m,en_.nil⟩
 |cons x l ih=>
  obtain⟨a,b⟩:=h x i_;obtain⟨c,d⟩:=ih (fun y hy=>h y (by simp[hy]));rw[flatMap_cons];exact⟨a.app c,b.app d⟩
def m8_ (A:List Nat->ζ->Prop):Prop:=∀l p,A l p->dg_ 0 l/\en_ l
theorem hi_.flat {A:List Nat->ζ->Prop}(hA:m8_ A){p:ζ}(h:hi_ A l p):dg_ 0 l/\en_ l:=by
 obtain⟨f,c,rfl,_⟩:=h;refine u9_ (fun i hi=> ?_);obtain⟨d,e⟩:=c i hi;obtain⟨f1,f2⟩:=hA _ _ d;obtain⟨a,b⟩:=q9_ 0 (Mk.plain e);exact⟨f1.app a,f2.app b⟩
theorem gy_.flat {A:List Nat->ζ->Prop}(hA:m8_ A){p:ζ}(h:gy_ A l p):dg_ 1 l/\en_ l:=by
 obtain⟨x,i,c,d,rfl,_⟩:=h;obtain⟨f1,f2⟩:=c.flat hA;obtain⟨a,b⟩:=u9_ (m:=1) (f:=fun y:List Nat×ζ=>124::y.1) (l:=i) (fun y hy=>by
  obtain⟨e,g⟩:=(d y hy).flat hA;exact⟨dg_.fA.app (e.mono o_),(en_.one o_ o_).app g⟩)
 exact⟨(f1.mono o_).app a,f2.app b⟩
theorem va_ (k:Nat):m8_ (dr_ k):=by
 induction k with
 |zero=>intro l p h;exact q9_ 0 (f9_.plain h)
 |succ k ih=>
  intro l p h;rcases h with h|⟨c,rfl,h⟩
  . exact q9_ 0 (f9_.plain h)
  . obtain⟨a,b⟩:=h.flat ih;exact⟨a.par,b.par⟩
theorem ads_ {A:List Nat->ζ->Prop}(hA:m8_ A){x:List Nat×ζ}{xs:List (List Nat×ζ)}(h1:hi_ A x.1 x.2)(h2:∀y∈xs,hi_ A y.1 y.2):b5_ (x.1++ee_ xs) 0 []=x.1::xs.map (·.1):=by
 have c:∀(xs:List (List Nat×ζ)) (a:List Nat),(∀y∈xs,hi_ A y.1 y.2)->b5_ (ee_ xs) 0 a=a::xs.map (·.1):=by
  intro xs;induction xs with
  |nil=>intro a _;rfl
  |cons y xs ih=>
   intro a h;have b:=(h y i_).flat hA;show b5_ (124::y.1++ee_ xs) 0 a=_
   rw[show b5_ (124::y.1++ee_ xs) 0 a=a::b5_ (y.1++ee_ xs) 0 []by simp[b5_]];rw[b.1 0 [] _ o_,ih _ (fun z hz=>h z (by simp[hz]))];simp
 rw[(h1.flat hA).1 0 [] _ o_,c xs _ h2];simp
theorem adt_ {A:List Nat->ζ->Prop}(hA:m8_ A){p:ζ}(h:gy_ A l p)(k:Nat)(rest:List Nat):cx_ (40::l++ [41]++rest) 0 k=k+1+l.length:=by
 rw[show 40::l++ [41]++rest=40::(l++(41::rest))by simp];rw[show cx_ (40::(l++(41::rest))) 0 k=cx_ (l++(41::rest)) 1 (k+1)by simp[cx_]];rw[(h.flat hA).2 1 _ _ o_];simp[cx_]
theorem dr_.head {k:Nat}{p:ζ}(h:dr_ k l p):∃c l',l=c::l'/\c≠42/\c≠43/\c≠63/\c≠123:=by
 have a:∀ {l:List Nat} {p:ζ},f9_ l p->∃c l',l=c::l'/\c≠42/\c≠43/\c≠63/\c≠123:=by
  intro l p h;rcases h with ⟨c,d,rfl,_⟩|⟨rfl,_⟩|⟨e,_,b,⟨rfl,_⟩|⟨rfl,_⟩⟩
  . exact⟨_,_,rfl,o_,o_,o_,o_⟩
  . exact⟨_,_,rfl,o_,o_,o_,o_⟩
  . exact⟨_,_,rfl,o_,o_,o_,o_⟩
  . exact⟨_,_,rfl,o_,o_,o_,o_⟩
 cases k with
 |zero=>exact a h
 |succ k=>
  rcases h with h|⟨l',rfl,_⟩
  . exact a h
  . exact⟨_,_,rfl,o_,o_,o_,o_⟩
def Mk.lo:Mk->Nat
 | .none=>1
 | .star=>0
 | .plus=>1
 | .opt=>0
 | .just n=>n
 | .more n=>n
 | .span n _=>n
def Mk.hi:Mk->Int
 | .none=>1
 | .star=> -1
 | .plus=> -1
 | .opt=>1
 | .just n=>n
 | .more _=> -1
 | .span _ m=>m
def Ex.cR (x:Ex)(lo:Nat)(hi:Int):Ex:=if hi<0 then x.cO x.cK lo else x.cO (x.opts (hi - lo).toNat) lo
theorem adu_ {l:List Nat->Prop}(x:List Nat):Pow l 1 x↔l x:=pt_ x
theorem o2_ {x:Ex}{lo:Nat}:x.cR lo (-1)=x.cO x.cK lo:=if_pos d_
theorem m9_ {x:Ex}{lo hi:Nat}(h:lo<=hi):x.cR lo hi=x.cO (x.opts (hi - lo)) lo:=by
 unfold Ex.cR;rw[if_neg o_,show((hi:Int)- (lo:Int)).toNat=hi - lo by omega]
theorem adv_ (x:Ex)(q:ζ)(h:∀y,x.lang y↔q.lang y)(m:Mk)(hm:m.ok)(y:List Nat):(x.cR m.lo m.hi).lang y↔(m.app q).lang y:=by
 have span:∀lo hi:Nat,lo<=hi->((x.cR lo hi).lang y↔fs_ q.lang lo false hi y):=by
  intro lo hi hle;rw[m9_ hle];have:=ag2_ x q.lang h lo (hi - lo) y;rw[show lo+(hi - lo)=hi by omega]at this;exact this
 have more:∀lo:Nat,(x.cR lo (-1)).lang y↔fs_ q.lang lo true (lo+1) y:=by
  intro lo;rw[o2_];exact ag3_ x q.lang h lo y
 cases m with
 |none=>exact(span 1 1 o_).trans ((r5_ 1 o_ y).trans (adu_ y))
 |star=>exact more 0
 |plus=>exact more 1
 |opt=>exact span 0 1 o_
 |just n=>exact span n n o_
 |more n=>exact more n
 |span n m=>exact span n m hm.1
theorem na_ (a b:Ex):(a.cF b).b9<=a.b9+b.b9:=by
 unfold Ex.cF;split
 . omega
 . split
   . omega
   . exact ι
theorem vb_ (a b:Ex):(a.di b).b9<=a.b9+b.b9:=by
 unfold Ex.di;split
 . omega
 . exact ι
theorem adw_ (a:Ex):a.cK.b9<=a.b9:=by
 unfold Ex.cK;split
 . omega
 . exact ι
theorem adx_ (x:Ex)(n:Nat):(x.opts n).b9<=n*x.b9:=by
 induction n with
 |zero=>simp[Ex.opts,Ex.b9]
 |succ n ih=>
  simp only[Ex.opts];have a:=vb_ .nil (x.cF (x.opts n));have b:=na_ x (x.opts n);have c:Ex.nil.b9=0:=rfl;rw[Nat.add_mul];omega
theorem vc_ (x e:Ex)(n:Nat):(x.cO e n).b9<=n*x.b9+e.b9:=by
 induction n with
 |zero=>simp[Ex.cO]
 |succ n ih=>
  simp only[Ex.cO];have a:=na_ x (x.cO e n);rw[Nat.add_mul];omega
theorem ady_ (x:Ex)(q:ζ)(h:x.b9<=q.size)(m:Mk)(hm:m.ok):(x.cR m.lo m.hi).b9<=(m.app q).size:=by
 have star:∀lo,(x.cO x.cK lo).b9<=q.size*(lo+1):=by
  intro lo;have h1:=vc_ x x.cK lo;have h2:=adw_ x;have h3:lo*x.b9<=lo*q.size:=mul_le_mul_left _ h;rw[Nat.mul_add,Nat.mul_comm q.size lo];omega
 have span:∀lo n,(x.cO (x.opts n) lo).b9<=q.size*(lo+n):=by
  intro lo n;have h1:=vc_ x (x.opts n) lo;have h2:=adx_ x n;have h3:lo*x.b9<=lo*q.size:=mul_le_mul_left _ h;have h4:n*x.b9<=n*q.size:=mul_le_mul_left _ h;rw[Nat.mul_add,Nat.mul_comm q.size lo,Nat.mul_comm q.size n];omega
 have span':∀lo hi:Nat,lo<=hi->(x.cR lo hi).b9<=q.size*hi:=by
  intro lo hi hle;rw[m9_ hle];have:=span lo (hi - lo);rw[show lo+(hi - lo)=hi by omega]at this;exact this
 have cK:∀lo:Nat,(x.cR lo (-1)).b9<=q.size*(lo+1):=by
  intro lo;rw[o2_];exact star lo
 cases m with
 |none=>
  have:=span' 1 1 o_;rw[Nat.mul_one]at this;exact this
 |star=>exact cK 0
 |plus=>exact cK 1
 |opt=>exact span' 0 1 o_
 |just n=>exact span' n n o_
 |more n=>exact cK n
 |span n m=>exact span' n m hm.1
theorem adz_ (p:ζ)(its:List Η)(y:List Nat):(bv_ p its).lang y↔Cat p.lang (bv_ .none its).lang y:=by
 induction its generalizing p y with
 |nil=>exact(pt_ y).symm
 |cons i its ih=>
  show(bv_ (.chain p i.pat) its).lang y↔Cat p.lang (bv_ (.chain .none i.pat) its).lang y
  rw[ih (.chain p i.pat) y];have a:∀z,(bv_ (.chain .none i.pat) its).lang z↔Cat i.pat.lang (bv_ .none its).lang z:=by
   intro z;rw[ih (.chain .none i.pat) z];exact Cat.congr (fun u=>l5_ u) (fun _=>Iff.rfl) z
  rw[Cat.congr (fun _=>Iff.rfl) a y];exact pv_ y
theorem ra_ (p:ζ)(its:List Η):(bv_ p its).size=p.size+(its.map fun i=>i.pat.size).sum:=by
 induction its generalizing p with
 |nil=>simp[bv_]
 |cons i its ih=>
  show(bv_ (.chain p i.pat) its).size=_
  rw[ih];simp only[ζ.size,map_cons,sum_cons];omega
theorem vd_ (p:ζ)(xs:List (List Nat×ζ)):(ht_ p xs).size=p.size+(xs.map fun y=>y.2.size).sum:=by
 induction xs generalizing p with
 |nil=>simp[ht_]
 |cons y xs ih=>
  show(ht_ (.alt p y.2) xs).size=_
  rw[ih];simp only[ζ.size,map_cons,sum_cons];omega
def eo_ (S:Nat->Bool):Nat->List UInt8
 |0=> []
 |c+1=>if S c then eo_ S c++ [UInt8.ofNat (97+c)]else eo_ S c
def Ex.nm:Ex->List UInt8
 | .nil=> [45]
 | .one S=>91::eo_ S 8++ [93]
 | .star a=>40::a.nm++ [41,42]
 | .thn a b=>40::a.nm++44::b.nm++ [41]
 | .alt a b=>40::a.nm++124::b.nm++ [41]
def Ex.can:Ex->Prop
 | .nil=>True
 | .one S=>∀c,8<=c->S c=false
 | .star a=>a.can
 | .thn a b=>a.can/\b.can
 | .alt a b=>a.can/\b.can
theorem ve_ (hn:n<=8){x:UInt8}(hx:x∈eo_ S n):∃c,c<n/\S c=true/\x.toNat=97+c:=by
 induction n with
 |zero=>simp[eo_]at hx
 |succ n ih=>
  simp only[eo_]at hx;split at hx
  . rename_i h;rcases mp_.1 hx with hx|hx
    . obtain⟨c,b,a⟩:=ih o_ hx;exact⟨c,o_,a⟩
    . rw[mem_singleton]at hx;subst hx;refine⟨n,o_,h, ?_⟩;rw[UInt8.toNat_ofNat'];omega
  . obtain⟨c,b,a⟩:=ih o_ hx;exact⟨c,o_,a⟩
theorem ad0_ (hc:c<n)(h:S c=true):UInt8.ofNat (97+c)∈eo_ S n:=by
 induction n with
 |zero=>omega
 |succ n ih=>
  simp only[eo_];by_cases e:c=n
  . subst e;rw[if_pos h];simp
  . have:=ih o_;split
    . exact mem_append_left _ this
    . exact this
theorem ad1_ {S':Nat->Bool}(h:eo_ S 8=eo_ S' 8)(hS:∀c,8<=c->S c=false)(hS':∀c,8<=c->S' c=false):S=S':=by
 have f:∀ {S S':Nat->Bool},eo_ S 8=eo_ S' 8->∀c,c<8->S c=true->S' c=true:=by
  intro S S' h c b j;have a:=ad0_ b j;rw[h]at a;obtain⟨d,e,g,i⟩:=ve_ o_ a;rw[UInt8.toNat_ofNat']at i;rw[show c=d by omega];exact g
 funext c;by_cases b:c<8
 . cases a:S c
   . cases e:S' c
     . rfl
     . rw[f h.symm c b e]at a;simp at a
   . rw[f h c b a]
 . rw[hS c o_,hS' c o_]
theorem ad2_ {α:Type}{z:α}{l l' x y:List α}(h:l++z::x=l'++z::y)(h1:z∉l)(h2:z∉l'):l=l'/\x=y:=by
 induction l generalizing l' with
 |nil=>
  cases l' with
  |nil=>simpa using h
  |cons b l'=>simp at h;exact absurd (by simp[h.1]) h2
 |cons a l ih=>
  cases l' with
  |nil=>simp at h;exact absurd (by simp[h.1]) h1
  |cons b l'=>
   simp only[cons_append,List.cons.injEq]at h;obtain⟨c,d⟩:=ih h.2 (fun hz=>h1 (by simp[hz])) (fun hz=>h2 (by simp[hz]));exact⟨by rw[h.1,c],d⟩
theorem vf_ (S:Nat->Bool):(93:UInt8)∉eo_ S 8:=by
 intro h;obtain⟨c,_,_,a⟩:=ve_ o_ h;have:(93:UInt8).toNat=93:=rfl;omega
theorem ad3_ (e:Ex):∀e' x y,e.can->e'.can->e.nm++x=e'.nm++y->e=e'/\x=y:=by
 induction e with
 |nil=>
  intro e' x y _ _ h;cases e'<;>simp[Ex.nm]at h
  exact⟨rfl,h⟩
 |one S=>
  intro e' x y g i h;cases e' with
  |nil=>simp[Ex.nm]at h
  |one S'=>
   simp only[Ex.nm,cons_append,ac_,List.cons.injEq,true_and,nil_append]at h;obtain⟨k,c⟩:=ad2_ h (vf_ S) (vf_ S');exact⟨by rw[ad1_ k g i],c⟩
  |star _=>simp[Ex.nm]at h
  |thn _ _=>simp[Ex.nm]at h
  |alt _ _=>simp[Ex.nm]at h
 |star a iha=>
  intro e' x y g i h;cases e' with
  |nil=>simp[Ex.nm]at h
  |one S'=>simp[Ex.nm]at h
  |star b=>
   simp only[Ex.nm,cons_append,ac_,List.cons.injEq,true_and,nil_append]at h;obtain⟨rfl,c⟩:=iha b _ _ g i h;simp at c;exact⟨rfl,c⟩
  |thn b d=>
   simp only[Ex.nm,cons_append,ac_,List.cons.injEq,true_and,nil_append]at h;obtain⟨rfl,c⟩:=iha b _ _ g i.1 h;simp at c
  |alt b d=>
   simp only[Ex.nm,cons_append,ac_,List.cons.injEq,true_and,nil_append]at h;obtain⟨rfl,c⟩:=iha b _ _ g i.1 h;simp at c
 |thn a b iha ihb=>
  intro e' x y g i h;cases e' with
  |nil=>simp[Ex.nm]at h
  |one S'=>simp[Ex.nm]at h
  |star d=>
   simp only[Ex.nm,cons_append,ac_,List.cons.injEq,true_and,nil_append]at h;obtain⟨rfl,c⟩:=iha d _ _ g.1 i h;simp at c
  |thn d f=>
   simp only[Ex.nm,cons_append,ac_,List.cons.injEq,true_and,nil_append]at h;obtain⟨rfl,c⟩:=iha d _ _ g.1 i.1 h;simp only[List.cons.injEq,true_and]at c;obtain⟨rfl,j⟩:=ihb f _ _ g.2 i.2 c;simp at j;exact⟨rfl,j⟩
  |alt d f=>
   simp only[Ex.nm,cons_append,ac_,List.cons.injEq,true_and,nil_append]at h;obtain⟨rfl,c⟩:=iha d _ _ g.1 i.1 h;simp at c
 |alt a b iha ihb=>
  intro e' x y g i h;cases e' with
  |nil=>simp[Ex.nm]at h
  |one S'=>simp[Ex.nm]at h
  |star d=>
   simp only[Ex.nm,cons_append,ac_,List.cons.injEq,true_and,nil_append]at h;obtain⟨rfl,c⟩:=iha d _ _ g.1 i h;simp at c
  |thn d f=>
   simp only[Ex.nm,cons_append,ac_,List.cons.injEq,true_and,nil_append]at h;obtain⟨rfl,c⟩:=iha d _ _ g.1 i.1 h;simp at c
  |alt d f=>
   simp only[Ex.nm,cons_append,ac_,List.cons.injEq,true_and,nil_append]at h;obtain⟨rfl,c⟩:=iha d _ _ g.1 i.1 h;simp only[List.cons.injEq,true_and]at c;obtain⟨rfl,j⟩:=ihb f _ _ g.2 i.2 c;simp at j;exact⟨rfl,j⟩
theorem vg_ {e e':Ex}(hc:e.can)(hc':e'.can)(h:e.nm=e'.nm):e=e':=(ad3_ e e' [] [] hc hc' (by rw[h])).1
theorem nb_ {a b:Ex}(ha:a.can)(hb:b.can):(a.cF b).can:=by
 unfold Ex.cF;split
 . exact hb
 . split
   . exact ha
   . exact⟨ha,hb⟩
theorem vh_ {a b:Ex}(ha:a.can)(hb:b.can):(a.di b).can:=by
 unfold Ex.di;split
 . exact ha
 . exact⟨ha,hb⟩
theorem ad4_ {a:Ex}(ha:a.can):a.cK.can:=by
 unfold Ex.cK;split
 . exact ha
 . exact ha
theorem ad5_ {x:Ex}(h:x.can)(n:Nat):(x.opts n).can:=by
 induction n with
 |zero=>trivial
 |succ n ih=>exact vh_ trivial (nb_ h ih)
theorem vi_ {x e:Ex}(h:x.can)(he:e.can)(n:Nat):(x.cO e n).can:=by
 induction n with
 |zero=>exact he
 |succ n ih=>exact nb_ h ih
theorem ad6_ {x:Ex}(h:x.can)(lo:Nat)(hi:Int):(x.cR lo hi).can:=by
 unfold Ex.cR;split
 . exact vi_ h (ad4_ h) lo
 . exact vi_ h (ad5_ h _) lo
theorem o3_ {e:Ex}(h:e.can):∀d∈e.pds,d.can:=by
 induction e with
 |nil=>intro d c;simp[Ex.pds]at c
 |one S=>intro d c;simp[Ex.pds]at c;subst c;trivial
 |alt a b iha ihb=>
  intro d c;simp only[Ex.pds,mp_]at c;rcases c with c|c
  . exact iha h.1 d c
  . exact ihb h.2 d c
 |thn a b iha ihb=>
  intro d c;simp only[Ex.pds,mp_,mem_map]at c;rcases c with ⟨y,f,rfl⟩|c
  . exact nb_ (iha h.1 y f) h.2
  . exact ihb h.2 d c
 |star a iha=>
  intro d c;simp only[Ex.pds,mem_map]at c;obtain⟨y,f,rfl⟩:=c;exact nb_ (iha h y f) h
def ds_ (l:List Ex):Prop:=l.Pairwise fun a b=>Op.bytesLess a.nm b.nm=true
def cm_:List Ex->Ex->List Ex
 | [],e=> [e]
 |x::l,e=>if x.nm=e.nm then x::l else if Op.bytesLess e.nm x.nm then e::x::l else x::cm_ l e
theorem o4_ {l:List Ex}{e d:Ex}(hc:e.can)(hl:∀x∈l,x.can):d∈cm_ l e↔d=e\/d∈l:=by
 induction l with
 |nil=>simp[cm_]
 |cons x l ih=>
  simp only[cm_];split
  . rename_i h;have:x=e:=vg_ (hl x i_) hc h;subst this;simp
  . split
    . simp
    . rw[mc_,ih (fun y hy=>hl y (by simp[hy])),mc_];constructor
      . rintro(h|h|h)
        . exact .inr (.inl h)
        . exact .inl h
        . exact .inr (.inr h)
      . rintro(h|h|h)
        . exact .inr (.inl h)
        . exact .inl h
        . exact .inr (.inr h)
theorem vj_ {l:List Ex}{e:Ex}(hc:e.can)(hl:∀x∈l,x.can)(hs:ds_ l):ds_ (cm_ l e):=by
 induction l with
 |nil=>simp[cm_,ds_]
 |cons x l ih=>
  have a:=pairwise_cons.1 hs;simp only[cm_];split
  . exact hs
  . rename_i hne;split
    . rename_i hlt;refine pairwise_cons.2 ⟨fun y hy=> ?_,hs⟩;rcases mc_.1 hy with rfl|hy
      . exact hlt
      . exact nk_ _ _ _ hlt (a.1 y hy)
    . rename_i hlt;have b:Op.bytesLess x.nm e.nm=true:=pp_ _ _ (by simpa using hlt) (fun e=>hne e.symm);refine pairwise_cons.2 ⟨fun y hy=> ?_,ih (fun y hy=>hl y (by simp[hy])) a.2⟩;rcases (o4_ hc (fun y hy=>hl y (by simp[hy]))).1 hy with rfl|hy
      . exact b
      . exact a.1 y hy
def fq_ (out:List Ex)(l:List Ex):List Ex:=l.foldl cm_ out
def ga_ (es:List Ex)(c:Nat):List Ex:=es.foldl (fun out e=>fq_ out (e.behind c)) []
def k0_ (es:List Ex):Bool:=es.any Ex.empty
theorem vk_ {out l:List Ex}(hl:∀x∈l,x.can)(ho:∀x∈out,x.can)(hs:ds_ out):ds_ (fq_ out l)/\∀d,d∈fq_ out l↔d∈out\/d∈l:=by
 induction l generalizing out with
 |nil=>exact⟨hs,fun d=>by simp[fq_]⟩
 |cons x l ih=>
  have a:=hl x i_;have e:∀y∈cm_ out x,y.can:=fun y hy=>by
   rcases (o4_ a ho).1 hy with rfl|hy
   . exact a
   . exact ho y hy
  obtain⟨b,c⟩:=ih (out:=cm_ out x) (fun y hy=>hl y (by simp[hy])) e (vj_ a ho hs);refine⟨b,fun d=> ?_⟩;show d∈fq_ (cm_ out x) l↔_
  rw[c d,o4_ a ho,mc_];constructor
  . rintro((h|h)|h)
    . exact .inr (.inl h)
    . exact .inl h
    . exact .inr (.inr h)
  . rintro(h|h|h)
    . exact .inl (.inr h)
    . exact .inl (.inl h)
    . exact .inr h
theorem vl_ {e:Ex}(h:e.can)(c:Nat):∀d∈e.behind c,d.can:=fun d hd=>o3_ h d (pu_ e c d hd)
theorem rb_ {es:List Ex}(c:Nat)(hc:∀x∈es,x.can):ds_ (ga_ es c)/\∀d,d∈ga_ es c↔∃e∈es,d∈e.behind c:=by
 have n:∀(es a:List Ex),(∀x∈es,x.can)->(∀x∈a,x.can)->ds_ a->ds_ (es.foldl (fun a e=>fq_ a (e.behind c)) a)/\∀d,d∈es.foldl (fun a e=>fq_ a (e.behind c)) a↔d∈a\/∃e∈es,d∈e.behind c:=by
  intro es;induction es with
  |nil=>intro a _ _ i;exact⟨i,fun d=>i_⟩
  |cons e es ih=>
   intro a hc k i;have j:=hc e i_;obtain⟨g,f⟩:=vk_ (vl_ j c) k i;obtain⟨l,m⟩:=ih (fq_ a (e.behind c)) (fun y hy=>hc y (by simp[hy])) (fun y hy=>by
    rcases (f y).1 hy with hy|hy
    . exact k y hy
    . exact vl_ j c y hy) g
   refine⟨l,fun d=> ?_⟩;rw[foldl_cons,m d,f d];constructor
   . rintro((h|h)|⟨x,b,h⟩)
     . exact .inl h
     . exact .inr ⟨e,i_,h⟩
     . exact .inr ⟨x,by simp[b],h⟩
   . rintro(h|⟨x,b,h⟩)
     . exact .inl (.inl h)
     . rcases mc_.1 b with rfl|b
       . exact .inl (.inr h)
       . exact .inr ⟨x,b,h⟩
 obtain⟨g,f⟩:=n es [] hc i_ (by simp[ds_]);exact⟨g,fun d=>by rw[ga_,f d];simp⟩
def gz_:List Ex->List (List Ex)
 | []=> [[]]
 |a::l=>gz_ l++(gz_ l).map (a::·)
theorem ad7_ (l:List Ex):(gz_ l).length=2^l.length:=by
 induction l with
 |nil=>rfl
 |cons a l ih=>simp only[gz_,Μ,length_map,ih,length_cons,Nat.pow_succ];omega
theorem vm_ {U l:List Ex}(hU:ds_ U)(hl:ds_ l)(h:∀d∈l,d∈U):l∈gz_ U:=by
 induction U generalizing l with
 |nil=>
  cases l with
  |nil=>simp[gz_]
  |cons a l=>exact absurd (h a i_) i_
 |cons u U ih=>
  have p:=pairwise_cons.1 hU;simp only[gz_,mp_,mem_map];cases l with
  |nil=>exact .inl (ih p.2 (by simp[ds_]) i_)
  |cons a l=>
   have q:=pairwise_cons.1 hl;rcases mc_.1 (h a i_)with h1|h1
   . subst h1;refine .inr ⟨l,ih p.2 q.2 (fun d hd=> ?_),rfl⟩;rcases mc_.1 (h d (by simp[hd]))with h2|h2
     . subst h2;have:=q.1 d hd;rw[l1_]at this;simp at this
     . exact h2
   . refine .inl (ih p.2 hl (fun d hd=> ?_));rcases mc_.1 (h d hd)with h2|h2
     . subst h2;rcases mc_.1 hd with h3|h3
       . subst h3;exact h1
       . have c:=q.1 d h3;have b:=p.1 a h1;rw[l2_ c]at b;simp at b
     . exact h2
def jc_ (E:Ex):List Ex:=fq_ [] (E::E.pds)
theorem j3_ {E:Ex}(hE:E.can):ds_ (jc_ E)/\∀d,d∈jc_ E↔d=E\/d∈E.pds:=by
 obtain⟨a,b⟩:=vk_ (out:=[]) (l:=E::E.pds) (fun x hx=>by
  rcases mc_.1 hx with rfl|hx
  . exact hE
  . exact o3_ hE x hx) i_ (by simp[ds_])
 exact⟨a,fun d=>by rw[jc_,b d];simp⟩
theorem vn_ (l:List Ex)(e:Ex):(cm_ l e).length<=l.length+1:=by
 induction l with
 |nil=>simp[cm_]
 |cons x l ih=>
  simp only[cm_];split
  . simp
  . split
    . simp
    . simp;omega
theorem ad8_ (out l:List Ex):(fq_ out l).length<=out.length+l.length:=by
 induction l generalizing out with
 |nil=>simp[fq_]
 |cons x l ih=>
  have a:=ih (cm_ out x);have b:=vn_ out x;show(fq_ (cm_ out x) l).length<=_
  simp only[length_cons];omega
theorem vo_ (E:Ex):(jc_ E).length<=E.b9+1:=by
 have:=ad8_ [] (E::E.pds);simp only[length_nil,length_cons,agx_]at this;unfold jc_;omega
def gb_ (E:Ex):List (List Ex):=[E]::gz_ (jc_ E)
theorem ad9_ (E:Ex)(h:E.b9<=10):(gb_ E).length<=2049:=by
 have a:=vo_ E;have b:2^(jc_ E).length<=2^11:=Nat.pow_le_pow_right o_ o_;simp only[gb_,length_cons,ad7_];omega
noncomputable instance:DecidableEq Ex:=fun a b=>Classical.propDecidable (a=b)
noncomputable def jd_ (E:Ex)(r:List Ex):Nat:=(gb_ E).idxOf r
def al_ (E:Ex)(q:Nat):List Ex:=(gb_ E).getD q []
structure StE (E:Ex)(r:List Ex):Prop where
 dx:ds_ r
 ep:∀d∈r,d∈jc_ E
theorem StE.can {E:Ex}{r:List Ex}(hE:E.can)(h:StE E r):∀d∈r,d.can:=fun d hd=>by
 rcases ((j3_ hE).2 d).1 (h.ep d hd)with rfl|h1
 . exact hE
 . exact o3_ hE d h1
theorem StE.first {E:Ex}(hE:E.can):StE E [E]:=⟨by simp[ds_],fun d hd=>by simp at hd;subst hd;exact((j3_ hE).2 d).2 (.inl rfl)⟩
theorem StE.mem {E:Ex}{r:List Ex}(hE:E.can)(h:StE E r):r∈gb_ E:=mem_cons_of_mem _ (vm_ (j3_ hE).1 h.dx h.ep)
theorem StE.step {E:Ex}{r:List Ex}(hE:E.can)(h:StE E r)(c:Nat):StE E (ga_ r c):=by
 obtain⟨b,f⟩:=rb_ (es:=r) c (h.can hE);refine⟨b,fun d a=> ?_⟩;obtain⟨e,g,a⟩:=(f d).1 a;refine((j3_ hE).2 d).2 (.inr ?_);rcases ((j3_ hE).2 e).1 (h.ep e g)with rfl|h3
 . exact pu_ e c d a
 . exact agy_ E c e h3 d a
theorem aea_ {U l:List Ex}(hU:ds_ U)(h:l∈gz_ U):ds_ l/\∀d∈l,d∈U:=by
 induction U generalizing l with
 |nil=>simp[gz_]at h;subst h;simp[ds_]
 |cons u U ih=>
  have p:=pairwise_cons.1 hU;simp only[gz_,mp_,mem_map]at h;rcases h with h|⟨c,h,rfl⟩
  . obtain⟨b,a⟩:=ih p.2 h;exact⟨b,fun d hd=>by simp[a d hd]⟩
  . obtain⟨b,a⟩:=ih p.2 h;refine⟨pairwise_cons.2 ⟨fun d hd=>p.1 d (a d hd),b⟩,fun d hd=> ?_⟩;rcases mc_.1 hd with rfl|hd
    . simp
    . simp[a d hd]
theorem o5_ {E:Ex}(hE:E.can)(q:Nat)(hq:q<(gb_ E).length):StE E (al_ E q):=by
 have c:al_ E q∈gb_ E:=by
  unfold al_;rw[gd_,ge_ hq];exact getElem_mem hq
 rcases mc_.1 c with h|h
 . rw[h];exact StE.first hE
 . obtain⟨a,b⟩:=aea_ (j3_ hE).1 h;exact⟨a,b⟩
theorem rc_ {E:Ex}{r:List Ex}(h:r∈gb_ E):al_ E (jd_ E r)=r/\jd_ E r<(gb_ E).length:=by
 have a:jd_ E r<(gb_ E).length:=ix_ h;refine⟨?_,a⟩;unfold al_;rw[gd_,ge_ a];simp[jd_]
theorem aeb_ (E:Ex):jd_ E [E]=0:=by unfold jd_ gb_;simp
noncomputable def Ρ (E:Ex)(q c:Nat):Nat:=jd_ E (ga_ (al_ E q) c)
def f0_ (E:Ex)(q:Nat):Prop:=q<(gb_ E).length/\jd_ E (al_ E q)=q
theorem vp_ {E:Ex}{r:List Ex}(h:r∈gb_ E):f0_ E (jd_ E r):=⟨(rc_ h).2,by rw[(rc_ h).1]⟩
theorem aec_ (E:Ex):f0_ E 0:=by
 have:=vp_ (E:=E) (r:=[E]) (by simp[gb_]);rw[aeb_]at this;exact this
theorem aed_ {E:Ex}(hE:E.can)(hq:f0_ E q)(c:Nat):f0_ E (Ρ E q c):=vp_ (((o5_ hE q hq.1).step hE c).mem hE)
theorem rd_ {E:Ex}(hE:E.can)(hq:f0_ E q)(c:Nat):al_ E (Ρ E q c)=ga_ (al_ E q) c:=(rc_ (((o5_ hE q hq.1).step hE c).mem hE)).1
theorem vq_ {E:Ex}(hl:E.b9<=10){p:Nat}(h:Κ (f0_ E) (Ρ E) ps p):ps.length<=2049:=by
 have:=i2_ (gb_ E).length ps h.nd (fun x hx=>(h.inr x hx).1);have:=ad9_ E hl;omega
noncomputable def dm_ (E:Ex)(ps:List Nat):γ where
 n:=ps.length
 acc k:=k0_ (al_ E (ps.getD k 0))
 b7:=pn (Ρ E) ps
theorem aee_ {E:Ex}(h:Κ (f0_ E) (Ρ E) ps (8*ps.length)):d4_ (dm_ E ps) where
 pos:=h.len
 nx i c hi hc:=by
  have:=(h.dt (8*i+c) (by have:i<ps.length:=hi;omega)).2;rw[show(8*i+c)/8=i by omega,show(8*i+c)%8=c by omega]at this;exact ix_ this
 step p hp:=h.num p hp
 row i hi:=h.row i (by have:i<ps.length:=hi;omega)
 all:=h.cm
theorem aef_ {E:Ex}(hE:E.can)(h:Κ (f0_ E) (Ρ E) ps (8*ps.length))(k:Nat)(hk:k<ps.length)(x:List Nat)(hx:Γ x):
 (dm_ E ps).read k x<ps.length/\al_ E (ps.getD ((dm_ E ps).read k x) 0)=x.foldl ga_ (al_ E (ps.getD k 0)):=by
 induction x generalizing k with
 |nil=>exact⟨hk,rfl⟩
 |cons c x ih=>
  have g:c<8:=hx c i_;have f:Γ x:=fun d hd=>hx d (by simp[hd])
  have a:=(h.dt (8*k+c) o_).2;rw[show(8*k+c)/8=k by omega,show(8*k+c)%8=c by omega]at a;have e:(dm_ E ps).b7 k c<ps.length:=ix_ a;have b:ps.getD ((dm_ E ps).b7 k c) 0=Ρ E (ps.getD k 0) c:=i3_ ps _ a;simp only[γ.read,foldl_cons];have:=ih _ e f;rw[b,rd_ hE (h.inr _ (fj_ ps k hk)) c]at this;exact this
theorem aeg_ {E:Ex}(hE:E.can)(x:List Nat)(r:List Ex)(h:StE E r):k0_ (x.foldl ga_ r)=true↔∃d∈r,d.lang x:=by
 induction x generalizing r with
 |nil=>
  simp only[foldl_nil,k0_,any_eq_true,r3_]
 |cons c x ih=>
  rw[foldl_cons,ih _ (h.step hE c)];obtain⟨_,g⟩:=rb_ (es:=r) c (h.can hE);constructor
  . rintro⟨d,a,b⟩;obtain⟨e,f,a⟩:=(g d).1 a;exact⟨e,f,(xo_ e c x).2 ⟨d,a,b⟩⟩
  . rintro⟨e,f,b⟩;obtain⟨d,a,b⟩:=(xo_ e c x).1 b;exact⟨d,(g d).2 ⟨e,f,a⟩,b⟩
theorem aeh_ {E:Ex}(hE:E.can)(h:Κ (f0_ E) (Ρ E) ps (8*ps.length))(x:List Nat)(hx:Γ x):(dm_ E ps).b6 x=true↔E.lang x:=by
 have:=aef_ hE h 0 h.len x hx;rw[h.hd]at this;simp only[γ.b6];show k0_ (al_ E (ps.getD ((dm_ E ps).read 0 x) 0))=true↔_
 rw[this.2,show al_ E 0=[E]from rfl,aeg_ hE x [E] (StE.first hE)];simp
def ζ.norm:ζ->ζ
 | .none=> .none
 | .one S=> .one (fun c=>decide (c<8)&&S c)
 | .chain a b=> .chain a.norm b.norm
 | .alt a b=> .alt a.norm b.norm
 | .rep a lo co en=> .rep a.norm lo co en
theorem re_ {u v:List Nat}(h:Γ (u++v)):Γ u/\Γ v:=⟨fun c hc=>h c (by simp[hc]),fun c hc=>h c (by simp[hc])⟩
theorem vr_ {l m m':List Nat->Prop}(h:∀x,Γ x->(l x↔l' x))(h':∀x,Γ x->(m x↔m' x))(x:List Nat)(hx:Γ x):Cat l m x↔Cat l' m' x:=by
 constructor
 . rintro⟨u,v,rfl,a,b⟩;obtain⟨c,d⟩:=re_ hx;exact⟨u,v,rfl,(h u c).1 a,(h' v d).1 b⟩
 . rintro⟨u,v,rfl,a,b⟩;obtain⟨c,d⟩:=re_ hx;exact⟨u,v,rfl,(h u c).2 a,(h' v d).2 b⟩
theorem vs_ {l:List Nat->Prop}(h:∀x,Γ x->(l x->l' x))(x:List Nat)(hx:Γ x)(hs:e3_ l x):e3_ l' x:=by
 induction hs with
 |nil=>exact .nil
 |cons hu _ ih=>
  obtain⟨a,b⟩:=re_ hx;exact .cons (h _ a hu) (ih b)
theorem aei_ {l:List Nat->Prop}(h:∀x,Γ x->(l x↔l' x))(lo:Nat)(en:Bool)(k:Nat)(x:List Nat)(hx:Γ x):fs_ l lo en k x↔fs_ l' lo en k x:=by
 induction k generalizing x with
 |zero=>exact Iff.rfl
 |succ k ih=>
  refine vr_ ih (fun y hy=> ?_) x hx;unfold fi_;split
  . exact h y hy
  . split
    . exact⟨vs_ (fun z hz=>(h z hz).1) y hy,vs_ (fun z hz=>(h z hz).2) y hy⟩
    . rw[h y hy]
theorem aej_ (p:ζ)(x:List Nat)(hx:Γ x):p.norm.lang x↔p.lang x:=by
 induction p generalizing x with
 |none=>exact Iff.rfl
 |one S=>
  constructor
  . rintro⟨c,rfl,h⟩;simp at h;exact⟨c,rfl,h.2⟩
  . rintro⟨c,rfl,h⟩;exact⟨c,rfl,by have:c<8:=hx c i_;simp[this,h]⟩
 |chain a b iha ihb=>exact vr_ iha ihb x hx
 |alt a b iha ihb=>
  show a.norm.lang x\/b.norm.lang x↔a.lang x\/b.lang x
  rw[iha x hx,ihb x hx]
 |rep a lo co en iha=>exact aei_ iha lo en co x hx
end Go.Proofs.YtpngikmcjkjdaaaGreatDoor
