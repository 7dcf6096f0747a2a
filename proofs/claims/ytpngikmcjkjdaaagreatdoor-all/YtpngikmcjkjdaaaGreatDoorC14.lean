import Derived.Test.YtpngikmcjkjdaaaGreatDoorC11
set_option linter.unusedVariables false
set_option linter.unusedSimpArgs false
set_option maxRecDepth 20000
set_option maxHeartbeats 80000000
namespace Go.Proofs.YtpngikmcjkjdaaaGreatDoor
open Go.RowKit Tryz List Nat
variable {s:ByteArray} {a b c d d' q q':Nat}
def σ (c:Nat):Bool:=decide (97<=c)&&decide (c<=104)
def br_ (c:Nat):Bool:=decide (48<=c)&&decide (c<=57)
def ai_ (q d c:Nat):Nat×Nat:=
 if σ c||c==46 then(1,d)
 else if c==91 then(3,d)
 else if c==40&&decide (d<6)then(0,d+1)
 else if c==41&&decide (0<d)then(1,d - 1)
 else if c==124 then(0,d)
 else if q==1&&(c==42||c==43||c==63)then(2,d)
 else if q==1&&c==123 then(8,d)
 else(12,d)
def b0_ (q c:Nat):Nat:=
 if c==94&&q==3 then 4
 else if σ c&&q==6 then 7
 else if σ c then 5
 else if c==45&&q==5 then 6
 else if c==93&&(q==5||q==7)then 1
 else 12
def ca_ (q c:Nat):Nat:=
 if br_ c&&q==8 then 9
 else if br_ c&&q==10 then 11
 else if c==44&&q==9 then 10
 else if c==125&&q !=8 then 2
 else 12
def aut (q d c:Nat):Nat×Nat:=if q<=2 then ai_ q d c else if q<=7 then(b0_ q c,d)else(ca_ q c,d)
inductive At (s:ByteArray):Nat->Nat->Nat->Prop where
 |zero:At s 0 0 0
 |step {a q d q' d':Nat} (h:At s a q d) (hlt:a<s.size) (ha:aut q d (θ s a)=(q',d')) (hq:q'≠12):At s (a+1) q' d'
theorem At.eq (h:At s a q d)(h':At s a q' d'):q=q'/\d=d':=by
 induction h generalizing q' d' with
 |zero=>cases h';exact⟨rfl,rfl⟩
 |step _ _ ha _ ih=>
  cases h' with
  |step h1 _ ha' _=>
   obtain⟨rfl,rfl⟩:=ih h1;rw[ha]at ha';simpa using ha'
theorem At.back (h:At s a q d)(hb:b<a):∃q' d' q'' d'',At s b q' d'/\aut q' d' (θ s b)=(q'',d'')/\q''≠12/\b<s.size:=by
 induction h with
 |zero=>omega
 |step h1 hlt ha hq ih=>
  rename_i a _ _ _ _;by_cases e:b=a
  . subst e;exact⟨_,_,_,_,h1,ha,hq,hlt⟩
  . exact ih o_
theorem At.le (h:At s a q d):a<=s.size:=by cases h with
 |zero=>omega
 |step _ hlt _ _=>omega
def bs_ (s:ByteArray)(a:Nat):Prop:=∃q d,At s a q d/\((a<s.size/\(aut q d (θ s a)).1=12)\/(a=s.size/\(2<q\/0<d)))
theorem bs_.mk (h:At s a q d)(h1:a<s.size->(aut q d (θ s a)).1=12)(h2:a=s.size->2<q\/0<d):bs_ s a:=by
 have:=h.le;by_cases e:a<s.size
 . exact⟨q,d,h,.inl ⟨e,h1 e⟩⟩
 . exact⟨q,d,h,.inr ⟨o_,h2 o_⟩⟩
theorem bs_.uniq (ha:bs_ s a)(hb:bs_ s b):a=b:=by
 have f:∀ {a b:Nat},bs_ s a->bs_ s b->¬a<b:=by
  intro a b ⟨q,d,h,c⟩ ⟨q2,d2,e,h2'⟩ hlt;obtain⟨o,k,p,l,g,i,j,n⟩:=e.back hlt;obtain⟨rfl,rfl⟩:=h.eq g;rcases c with ⟨_,c⟩|⟨c,_⟩
  . rw[i]at c;exact j c
  . omega
 have m:=f ha hb;have e:=f hb ha;omega
theorem bs_.dz (ha:bs_ s a)(h:At s s.size q 0)(hq:q<=2):False:=by
 obtain⟨n,j,c,d⟩:=ha;have m:=c.le;by_cases i:a<s.size
 . obtain⟨p,d2,o,k,e,f,g,l⟩:=h.back i;obtain⟨rfl,rfl⟩:=c.eq e;rcases d with ⟨_,b⟩|⟨b,_⟩
   . rw[f]at b;exact g b
   . omega
 . have:a=s.size:=o_;subst this;obtain⟨rfl,rfl⟩:=h.eq c;rcases d with ⟨b,_⟩|⟨_,b|b⟩<;>omega
def BkT (s:ByteArray)(i:Nat):Bool:=
 (decide (i+2<s.size)&&(θ s (i+1)==45)&&decide (θ s (i+2)<θ s i))||
 (br_ (θ s i)&&decide (i+2<s.size)&&(θ s (i+1)==44)&&(θ s (i+2) !=125)&&decide (θ s (i+2)<θ s i))
theorem BkT.off {i:Nat}(h:θ s (i+1)≠45)(h':θ s (i+1)≠44):BkT s i=false:=by
 unfold BkT;rw[show(θ s (i+1)==45)=false by simpa using h,show(θ s (i+1)==44)=false by simpa using h'];simp
structure b1_ (s:ByteArray)(t:Sp)(q d:Nat):Prop where
 at_:At s t.a q d
 yes:t.bk=true->BkT s t.sp=true/\∀j,j<t.sp->BkT s j=false
 no:t.bk=false->∀j,j+1<t.a->BkT s j=false
theorem b1_.le {t:Sp}(h:b1_ s t q d):t.a<=s.size:=h.at_.le
theorem b1_.step {t:Sp}(h:b1_ s t q d)(hlt:t.a<s.size)(ha:aut q d (θ s t.a)=(q',d'))(hq:q'≠12)(h1:θ s t.a≠45)(h2:θ s t.a≠44):b1_ s t.go q' d':=by
 refine⟨h.at_.step hlt ha hq,h.yes,fun hb j hj=> ?_⟩;simp only[go_a]at hj;by_cases e:j+1=t.a
 . exact BkT.off (by rw[e];exact h1) (by rw[e];exact h2)
 . exact h.no hb j o_
theorem cs_ (h:ς s a b=true):θ s a=b/\a<s.size:=by
 unfold ς at h;rw[Bool.and_eq_true,decide_eq_true_eq,beq_iff_eq]at h;exact⟨h.2,h.1⟩
theorem fz_ (h:ς s a b=false)(hb:0<b):θ s a≠b:=by
 intro e;by_cases c:a<s.size
 . unfold ς at h;unfold θ at e;rw[e,decide_eq_true c]at h;simp at h
 . rw[mx_ c]at e;omega
theorem ja_ :σ c=true↔97<=c/\c<=104:=by unfold σ;simp
theorem ou_ :br_ c=true↔48<=c/\c<=57:=by unfold br_;simp
theorem ux_ :σ c=false↔c<97\/104<c:=by unfold σ;simp;omega
theorem uy_ :br_ c=false↔c<48\/57<c:=by unfold br_;simp;omega
def uz_ (q c:Nat):Prop:=(q=3/\c≠94)\/q=4\/(q=5/\c≠45/\c≠93)\/(q=7/\c≠93)
theorem ac5_ {s:ByteArray}{t:Sp}{q d:Nat}(h:b1_ s t q d)(hq:uz_ q (θ s t.a)):
 match eb_ s t with
 | .no t'=>bs_ s t'.a
 | .ok (f,g) t'=>∃q',b1_ s (a2_ t.a f g t') q' d/\((q'=5/\θ s t'.a≠45)\/q'=7):=by
 have I:3<=q/\q<=7:=by rcases hq with h|h|h|h<;>omega
 unfold eb_;by_cases b:c7_ s t.a=true
 . rw[if_pos b];have w:=ja_.1 b;have F:=in_ b;have y:aut q d (θ s t.a)=(5,d):=by
    unfold aut b0_;rw[if_neg o_,if_pos o_];have:σ (θ s t.a)=true:=b;rw[this];have B:(q==6)=false:=by rcases hq with h|h|h|h<;>simp<;>omega
    have C:(θ s t.a==94)=false:=s_;simp[B,C]
   have m:=h.step F y o_ o_ o_;by_cases k:ς s (t.a+1) 45=true
   . rw[if_pos k];obtain⟨i,G⟩:=cs_ k;have z:aut 5 d (θ s (t.a+1))=(6,d):=by rw[i];unfold aut b0_ σ;simp
     have n:At s (t.a+1+1) 6 d:=m.at_.step G z o_;by_cases c:c7_ s (t.a+1+1)=true
     . rw[if_pos c];have l:=ja_.1 c;have v:=in_ c;have A:aut 6 d (θ s (t.a+1+1))=(7,d):=by
        unfold aut b0_;have:σ (θ s (t.a+1+1))=true:=c;simp[this]
       have o:At s (t.a+1+1+1) 7 d:=n.step v A o_;refine⟨7, ?_,.inr rfl⟩;have p:∀j,j+1<t.a+1->t.bk=false->BkT s j=false:=fun j hj hb=>m.no hb j hj
       have E:BkT s (t.a+1)=false:=BkT.off (by rw[show t.a+1+1=t.a+2 from rfl]at l ⊢;omega) (by rw[show t.a+1+1=t.a+2 from rfl]at l ⊢;omega);have r:BkT s t.a=decide (θ s (t.a+1+1)<θ s t.a):=by
        unfold BkT;rw[i,show t.a+2=t.a+1+1 from rfl];simp only[v,decide_true,Bool.true_and];have:br_ (θ s t.a)=false:=uy_.2 o_;simp[this]
       unfold a2_;by_cases u:θ s (t.a+1+1)- 97<θ s t.a - 97
       . rw[if_pos u];refine⟨o,fun _=> ?_,fun hb=>by simp[Sp.tell]at hb⟩;show BkT s (if t.bk then t.sp else t.a)=true/\∀j,j<(if t.bk then t.sp else t.a)->_
         cases hb:t.bk
         . simp only[ft_,if_false];exact⟨by rw[r];simp;omega,fun j hj=>p j o_ hb⟩
         . simp only[if_true];exact h.yes hb
       . rw[if_neg u];refine⟨o,h.yes,fun hb j hj=> ?_⟩;have D:t.bk=false:=hb;simp only[go_a]at hj;by_cases e:j=t.a
         . subst e;rw[r];simp;omega
         . by_cases x:j=t.a+1
           . subst x;exact E
           . exact p j o_ D
     . rw[if_neg c];have l:σ (θ s (t.a+1+1))=false:=Bool.eq_false_iff.2 c;refine bs_.mk n (fun _=> ?_) (fun _=> .inl o_);unfold aut b0_;simp[l]
   . rw[if_neg k];have i:=fz_ (by simpa using k) o_;refine⟨5, ?_,.inl ⟨rfl,i⟩⟩;unfold a2_;rw[if_neg o_];exact m
 . rw[if_neg b];have w:σ (θ s t.a)=false:=Bool.eq_false_iff.2 b;refine bs_.mk h.at_ (fun _=> ?_) (fun _=> .inl o_);unfold aut b0_;rw[if_neg o_,if_pos o_];rcases hq with ⟨rfl,h⟩|rfl|⟨rfl,h,H⟩|⟨rfl,h⟩<;>simp[w, *]
theorem u0_ {s:ByteArray}{n:Nat}{N:Nat->Bool}{t:Sp}{q d:Nat}(h:b1_ s t q d)(hq:uz_ q (θ s t.a))(hn:s.size - t.a<n):
 match em_ s n N t with
 | .no t'=>bs_ s t'.a
 | .ok N' t'=>b1_ s t' 1 d:=by
 induction n generalizing N t q with
 |zero=>omega
 |succ n ih=>
  have e:=ac5_ h hq;simp only[em_];cases hr:eb_ s t with
  |no t1=>rw[hr]at e;exact e
  |ok x t1=>
   obtain⟨f,g⟩:=x;have m:=my_ hr;rw[hr]at e;obtain⟨o,i,j⟩:=e;simp only;by_cases c:ς s t1.a 93=true
   . rw[if_pos c];obtain⟨b,l⟩:=cs_ c;refine i.step (by simpa using l) ?_ o_ s_ s_;simp only[spanF_a];rw[b];rcases j with ⟨rfl,_⟩|rfl
     . unfold aut b0_ σ;simp
     . unfold aut b0_ σ;simp
   . rw[if_neg c];have b:=fz_ (by simpa using c) o_;refine ih i ?_ s_;simp only[spanF_a];rcases j with ⟨rfl,k⟩|rfl
     . exact .inr (.inr (.inl ⟨rfl,k,b⟩))
     . exact .inr (.inr (.inr ⟨rfl,b⟩))
theorem ac6_ {s:ByteArray}{t:Sp}{d:Nat}(h:b1_ s t 3 d):
 match f8_ s t with
 | .no t'=>bs_ s t'.a
 | .ok N t'=>b1_ s t' 1 d:=by
 unfold f8_;by_cases b:ς s t.a 94=true
 . rw[if_pos b];obtain⟨c,f⟩:=cs_ b;have e:b1_ s t.go 4 d:=h.step f (by rw[c];unfold aut b0_;simp) o_ o_ o_;have:=u0_ (n:=s.size+1) (N:=fun _=>false) e (.inr (.inl rfl)) o_;cases hr:em_ s (s.size+1) (fun _=>false) t.go with
   |no t1=>rw[hr]at this;exact this
   |ok x t1=>rw[hr]at this;exact this
 . rw[if_neg b];have c:=fz_ (by simpa using b) o_;exact u0_ h (.inl ⟨rfl,c⟩) o_
theorem ac7_ {s:ByteArray}{t:Sp}{d:Nat}(h:b1_ s t 8 d):
 match cq_ s t with
 | .no t'=>bs_ s t'.a
 | .ok x t'=>b1_ s t' 2 d:=by
 unfold cq_;by_cases c:d0_ s t.a=true
 . rw[if_pos c];have E:=ou_.1 c;have I:=uk_ c;have C:br_ (θ s t.a)=true:=c;have i:b1_ s t.go 9 d:=h.step I (by unfold aut ca_;simp[C]) o_ o_ o_;by_cases k:ς s (t.a+1) 125=true
   . rw[if_pos k];obtain⟨q,J⟩:=cs_ k;exact i.step J (by show aut 9 d (θ s (t.a+1))=_;rw[q];unfold aut ca_ br_;simp) o_ (by show θ s (t.a+1)≠45;omega) (by show θ s (t.a+1)≠44;omega)
   . rw[if_neg k];have q:=fz_ (by simpa using k) o_;by_cases l:ς s (t.a+1) 44=true
     . rw[if_pos l];obtain⟨g,K⟩:=cs_ l;have p:At s (t.a+1+1) 10 d:=i.at_.step K (by show aut 9 d (θ s (t.a+1))=_;rw[g];unfold aut ca_ br_;simp) o_;have w:∀j,j+1<t.a+1->t.bk=false->BkT s j=false:=fun j hj hb=>i.no hb j hj
       by_cases m:ς s (t.a+1+1) 125=true
       . rw[if_pos m];obtain⟨b,L⟩:=cs_ m;have F:At s (t.a+1+1+1) 2 d:=p.step L (by rw[b];unfold aut ca_ br_;simp) o_;refine⟨F,h.yes,fun hb j hj=> ?_⟩;have v:t.bk=false:=hb;simp only[go_a]at hj;by_cases e:j=t.a
         . subst e;unfold BkT;rw[g,show t.a+2=t.a+1+1 from rfl,b];simp
         . by_cases u:j=t.a+1
           . subst u;exact BkT.off (by rw[b];omega) (by rw[b];omega)
           . exact w j o_ v
       . rw[if_neg m];have b:=fz_ (by simpa using m) o_;by_cases f:d0_ s (t.a+1+1)=true
         . rw[if_pos f];have o:=ou_.1 f;have D:=uk_ f;have H:br_ (θ s (t.a+1+1))=true:=f;have y:At s (t.a+1+1+1) 11 d:=p.step D (by unfold aut ca_;simp[H]) o_;have z:b1_ s (a2_ t.a (θ s t.a - 48) (θ s (t.a+1+1)- 48) t.go.go.go) 11 d:=by
            have G:BkT s (t.a+1)=false:=BkT.off (by rw[show t.a+1+1=t.a+2 from rfl]at o ⊢;omega) (by rw[show t.a+1+1=t.a+2 from rfl]at o ⊢;omega);have A:BkT s t.a=decide (θ s (t.a+1+1)<θ s t.a):=by
             unfold BkT;rw[g,C,show t.a+2=t.a+1+1 from rfl];have:(θ s (t.a+1+1) !=125)=true:=by simpa using b
             rw[this];simp[D]
            unfold a2_;by_cases B:θ s (t.a+1+1)- 48<θ s t.a - 48
            . rw[if_pos B];refine⟨y,fun _=> ?_,fun hb=>by simp[Sp.tell]at hb⟩;show BkT s (if t.bk then t.sp else t.a)=true/\∀j,j<(if t.bk then t.sp else t.a)->_
              cases hb:t.bk
              . simp only[ft_,if_false];exact⟨by rw[A];simp;omega,fun j hj=>w j o_ hb⟩
              . simp only[if_true];exact h.yes hb
            . rw[if_neg B];refine⟨y,h.yes,fun hb j hj=> ?_⟩;have v:t.bk=false:=hb;simp only[go_a]at hj;by_cases e:j=t.a
              . subst e;rw[A];simp;omega
              . by_cases u:j=t.a+1
                . subst u;exact G
                . exact w j o_ v
           by_cases n:ς s (t.a+1+1+1) 125=true
           . rw[if_pos n];obtain⟨r,M⟩:=cs_ n;exact z.step (by simpa using M) (by simp only[spanF_a,go_a];rw[r];unfold aut ca_ br_;simp) o_ (by simp only[spanF_a,go_a];omega) (by simp only[spanF_a,go_a];omega)
           . rw[if_neg n];have r:=fz_ (by simpa using n) o_;refine bs_.mk z.at_ (fun _=> ?_) (fun _=> .inl o_);simp only[spanF_a,go_a];unfold aut ca_;simp[r]
         . rw[if_neg f];have o:br_ (θ s (t.a+1+1))=false:=Bool.eq_false_iff.2 f;refine bs_.mk p (fun _=> ?_) (fun _=> .inl o_);unfold aut ca_;simp[o,b]
     . rw[if_neg l];have g:=fz_ (by simpa using l) o_;refine bs_.mk i.at_ (fun _=> ?_) (fun _=> .inl o_);simp only[go_a];unfold aut ca_;simp[q,g]
 . rw[if_neg c];have E:br_ (θ s t.a)=false:=Bool.eq_false_iff.2 c;refine bs_.mk h.at_ (fun _=> ?_) (fun _=> .inl o_);unfold aut ca_;simp[E]
def m3_ (q c:Nat):Prop:=q=1->c≠42/\c≠43/\c≠63/\c≠123
def m4_ (s:ByteArray)(k:Nat)(atom:Sp->ψ ζ):Prop:=∀t q d,d+k=6->b1_ s t q d->q<=2->m3_ q (θ s t.a)->ea_ s t.a=false->
 match atom t with
 | .no t'=>bs_ s t'.a
 | .ok p t'=>b1_ s t' 1 d
theorem ac8_ (h:ea_ s a=false):θ s a≠124/\θ s a≠41/\a<s.size:=by
 unfold ea_ at h;simp at h;exact⟨h.1.2,h.2,o_⟩
theorem u1_ (h:ea_ s a=true):s.size<=a\/θ s a=124\/θ s a=41:=by
 unfold ea_ at h;simp at h;omega
theorem u2_ {s:ByteArray}{t:Sp}{q d:Nat}(h:b1_ s t q d)(hq:q<=2)(hm:m3_ q (θ s t.a))(he:ea_ s t.a=false)(hd:θ s t.a=40->6<=d):
 match c0_ s t with
 | .no t'=>bs_ s t'.a
 | .ok p t'=>b1_ s t' 1 d:=by
 obtain⟨n,o,u⟩:=ac8_ he;unfold c0_;by_cases g:ς s t.a 91=true
 . rw[if_pos g];obtain⟨j,w⟩:=cs_ g;have r:b1_ s t.go 3 d:=h.step w (by rw[j];unfold aut ai_ σ;rw[if_pos hq];simp) o_ o_ o_;have:=ac6_ r;cases hr:f8_ s t.go with
   |no t1=>rw[hr]at this;exact this
   |ok x t1=>rw[hr]at this;exact this
 . rw[if_neg g];have j:=fz_ (by simpa using g) o_;by_cases i:ς s t.a 46=true
   . rw[if_pos i];obtain⟨k,y⟩:=cs_ i;exact h.step y (by rw[k];unfold aut ai_ σ;rw[if_pos hq];simp) o_ o_ o_
   . rw[if_neg i];have k:=fz_ (by simpa using i) o_;by_cases b:c7_ s t.a=true
     . rw[if_pos b];have m:=ja_.1 b;have v:σ (θ s t.a)=true:=b;exact h.step u (by unfold aut ai_;rw[if_pos hq];simp[v]) o_ o_ o_
     . rw[if_neg b];have m:σ (θ s t.a)=false:=Bool.eq_false_iff.2 b;refine bs_.mk h.at_ (fun _=> ?_) (fun e=>o_);unfold aut ai_;rw[if_pos hq,m];generalize θ s t.a=c at*;have z:(c==46)=false:=by simpa using k
       have A:(c==91)=false:=by simpa using j
       have B:(c==40&&decide (d<6))=false:=by
        by_cases l:c=40
        . have:=hd l;simp;omega
        . simp[l]
       have C:(c==41)=false:=by simpa using o
       have D:(c==124)=false:=by simpa using n
       have E:(q==1&&(c==42||c==43||c==63))=false:=by
        by_cases f:q=1
        . have:=hm f;simp;intro _;omega
        . simp[f]
       have F:(q==1&&c==123)=false:=by
        by_cases f:q=1
        . have:=hm f;simp;intro _;omega
        . simp[f]
       simp[z,A,B,C,D,E,F]
theorem ac9_ {s:ByteArray}{k:Nat}{atom:Sp->ψ ζ}(ha:m4_ s k atom){t:Sp}{q d:Nat}(hd:d+k=6)(h:b1_ s t q d)(hq:q<=2)(hm:m3_ q (θ s t.a))(he:ea_ s t.a=false):
 match fy_ s atom t with
 | .no t'=>bs_ s t'.a
 | .ok p t'=>∃q',b1_ s t' q' d/\q'<=2/\m3_ q' (θ s t'.a):=by
 have f:=ha t q d hd h hq hm he;unfold fy_;cases hr:atom t with
 |no t1=>rw[hr]at f;exact f
 |ok p t1=>
  rw[hr]at f;have e:b1_ s t1 1 d:=f;simp only;by_cases g:ς s t1.a 42=true
  . rw[if_pos g];obtain⟨b,c⟩:=cs_ g;exact⟨2,e.step c (by rw[b];unfold aut ai_ σ;simp) o_ o_ o_,o_,fun h=>o_⟩
  . rw[if_neg g];by_cases i:ς s t1.a 43=true
    . rw[if_pos i];obtain⟨b,c⟩:=cs_ i;exact⟨2,e.step c (by rw[b];unfold aut ai_ σ;simp) o_ o_ o_,o_,fun h=>o_⟩
    . rw[if_neg i];by_cases j:ς s t1.a 63=true
      . rw[if_pos j];obtain⟨b,c⟩:=cs_ j;exact⟨2,e.step c (by rw[b];unfold aut ai_ σ;simp) o_ o_ o_,o_,fun h=>o_⟩
      . rw[if_neg j];by_cases l:ς s t1.a 123=true
        . rw[if_pos l];obtain⟨b,c⟩:=cs_ l;have m:b1_ s t1.go 8 d:=e.step c (by rw[b];unfold aut ai_ σ;simp) o_ o_ o_;have:=ac7_ m;cases hc:cq_ s t1.go with
          |no t2=>rw[hc]at this;exact this
          |ok x t2=>
           obtain⟨o,co,n⟩:=x;rw[hc]at this;exact⟨2,this,o_,fun h=>o_⟩
        . rw[if_neg l];exact⟨1,e,o_,fun _=>⟨fz_ (by simpa using g) o_,fz_ (by simpa using i) o_,fz_ (by simpa using j) o_,fz_ (by simpa using l) o_⟩⟩
theorem u3_ {s:ByteArray}{k B:Nat}{atom:Sp->ψ ζ}(ha:m4_ s k atom)(hg:gx_ s B atom){n:Nat}{p:ζ}{t:Sp}{q d:Nat}(hd:d+k=6)(h:b1_ s t q d)(hq:q<=2)(hm:m3_ q (θ s t.a))(hn:s.size - t.a<n):
 match cr_ s atom n p t with
 | .no t'=>bs_ s t'.a
 | .ok p' t'=>∃q',b1_ s t' q' d/\q'<=2/\ea_ s t'.a=true:=by
 induction n generalizing p t q with
 |zero=>omega
 |succ n ih=>
  simp only[cr_];by_cases b:ea_ s t.a=true
  . rw[if_pos b];exact⟨q,h,hq,b⟩
  . rw[if_neg b];have c:=ac9_ ha hd h hq hm (by simpa using b);cases hr:fy_ s atom t with
    |no t1=>rw[hr]at c;exact c
    |ok p1 t1=>
     rw[hr]at c;obtain⟨j,e,g,f⟩:=c;have i:=ol_ hg _ _ _ hr;exact ih e g f o_
theorem ada_ {s:ByteArray}{k B:Nat}{atom:Sp->ψ ζ}(ha:m4_ s k atom)(hg:gx_ s B atom){n:Nat}{p:ζ}{t:Sp}{q d:Nat}(hd:d+k=6)(h:b1_ s t q d)(hq:q<=2)(he:ea_ s t.a=true)(hn:s.size - t.a<n):
 match gw_ s atom n p t with
 | .no t'=>bs_ s t'.a
 | .ok p' t'=>∃q',b1_ s t' q' d/\q'<=2/\ea_ s t'.a=true/\θ s t'.a≠124:=by
 induction n generalizing p t q with
 |zero=>omega
 |succ n ih=>
  simp only[gw_];by_cases b:ς s t.a 124=true
  . rw[if_pos b];obtain⟨e,m⟩:=cs_ b;have f:b1_ s t.go 0 d:=h.step m (by rw[e];unfold aut ai_ σ;rw[if_pos hq];simp) o_ o_ o_;have c:=u3_ (n:=s.size+1) (p:= .none) ha hg hd f o_ (fun h=>o_) o_;cases hr:cr_ s atom (s.size+1) .none t.go with
    |no t1=>rw[hr]at c;exact c
    |ok p1 t1=>
     rw[hr]at c;obtain⟨o,g,l,i⟩:=c;have j:=ku_ hg z_ hr;simp only[go_a]at j;exact ih g l i o_
  . rw[if_neg b];exact⟨q,h,hq,he,fz_ (by simpa using b) o_⟩
theorem ov_ {s:ByteArray}{k B:Nat}{atom:Sp->ψ ζ}(ha:m4_ s k atom)(hg:gx_ s B atom){t:Sp}{d:Nat}(hd:d+k=6)(h:b1_ s t 0 d):
 match ec_ s atom t with
 | .no t'=>bs_ s t'.a
 | .ok p' t'=>∃q',b1_ s t' q' d/\q'<=2/\ea_ s t'.a=true/\θ s t'.a≠124:=by
 unfold ec_;have b:=u3_ (n:=s.size+1) (p:= .none) ha hg hd h o_ (fun h=>o_) o_;cases hr:cr_ s atom (s.size+1) .none t with
 |no t1=>rw[hr]at b;exact b
 |ok p1 t1=>
  rw[hr]at b;obtain⟨g,c,f,e⟩:=b;exact ada_ ha hg hd c f e o_
theorem q3_ (s:ByteArray)(k:Nat):m4_ s k (bh_ s k):=by
 induction k with
 |zero=>
  intro t q d r h f l j;exact u2_ h f l j (fun _=>o_)
 |succ k ih=>
  intro t q d r h f l j;simp only[bh_];by_cases b:ς s t.a 40=true
  . rw[if_pos b];obtain⟨n,w⟩:=cs_ b;have o:b1_ s t.go 0 (d+1):=h.step w (by rw[n];unfold aut ai_ σ;rw[if_pos f];simp;omega) o_ o_ o_;have g:=ov_ ih (ib_ k) o_ o;cases hr:ec_ s (bh_ s k) t.go with
    |no t1=>rw[hr]at g;exact g
    |ok p1 t1=>
     rw[hr]at g;obtain⟨y,m,v,u,p⟩:=g;simp only;by_cases c:ς s t1.a 41=true
     . rw[if_pos c];obtain⟨i,x⟩:=cs_ c;exact m.step x (by rw[i];unfold aut ai_ σ;rw[if_pos v];simp) o_ o_ o_
     . rw[if_neg c];have i:=fz_ (by simpa using c) o_;rcases u1_ u with h3|h3|h3
       . exact bs_.mk m.at_ (fun h=>o_) (fun _=> .inr o_)
       . exact absurd h3 p
       . exact absurd h3 i
  . rw[if_neg b];exact u2_ h f l j (fun e=>absurd e (fz_ (by simpa using b) o_))
def c8_ (s:ByteArray):ψ ζ:=ec_ s (bh_ s 6) ⟨0,false,0⟩
theorem q4_ (s:ByteArray):b1_ s ⟨0,false,0⟩ 0 0:=⟨.zero,fun h=>by simp at h,fun _ j hj=>by simp at hj⟩
theorem adb_ {t:Sp}(h:c8_ s= .no t):bs_ s t.a:=by
 have:=ov_ (q3_ s 6) (ib_ 6) o_ (q4_ s);rw[show ec_ s (bh_ s 6) ⟨0,false,0⟩= .no t from h]at this;exact this
theorem adc_ {p:ζ}{t:Sp}(h:c8_ s= .ok p t)(hne:t.a≠s.size):bs_ s t.a:=by
 have:=ov_ (q3_ s 6) (ib_ 6) o_ (q4_ s);rw[show ec_ s (bh_ s 6) ⟨0,false,0⟩= .ok p t from h]at this;obtain⟨q,g,d,c,b⟩:=this;refine bs_.mk g.at_ (fun _=> ?_) (fun e=>absurd e hne);rcases u1_ c with h3|h3|h3
 . omega
 . exact absurd h3 b
 . rw[h3];unfold aut ai_ σ;rw[if_pos d];simp
theorem q5_ {p:ζ}{t:Sp}(h:c8_ s= .ok p t)(he:t.a=s.size):∃q,b1_ s t q 0/\q<=2:=by
 have:=ov_ (q3_ s 6) (ib_ 6) o_ (q4_ s);rw[show ec_ s (bh_ s 6) ⟨0,false,0⟩= .ok p t from h]at this;obtain⟨q,g,b,_,_⟩:=this;exact⟨q,g,b⟩
theorem c9_ (c:Nat)(w:World)(hc:c<256):Calls prog 146 #[.int .u8 (c:Int)] w fun e w'=>e= .returned (.bool (σ c))/\w=w':=by
 by_cases b:97<=c
 . by_cases d:c<=104
   . have a:σ c=true:=by unfold σ;simp[b,d]
     rw[a];have t1:(97:Int)<=(c:Int):=o_;have t2:(c:Int)<=104:=o_;clear b d a;go_enter func146,ntmps146;go_wp2_with fail;go_ret;exact⟨rfl,rfl⟩
   . have a:σ c=false:=by unfold σ;simp[b,d]
     rw[a];have t1:(97:Int)<=(c:Int):=o_;have t2:¬(c:Int)<=104:=o_;clear b d a;go_enter func146,ntmps146;go_wp2_with fail;go_ret;exact⟨rfl,rfl⟩
 . have a:σ c=false:=by unfold σ;simp[b]
   rw[a];have t1:¬(97:Int)<=(c:Int):=o_;clear b a;go_enter func146,ntmps146;go_wp2_with fail;go_ret;exact⟨rfl,rfl⟩
theorem kz_ (c:Nat)(w:World)(hc:c<256):Calls prog 110 #[.int .u8 (c:Int)] w fun e w'=>e= .returned (.bool (br_ c))/\w=w':=by
 by_cases b:48<=c
 . by_cases d:c<=57
   . have a:br_ c=true:=by unfold br_;simp[b,d]
     rw[a];have t1:(48:Int)<=(c:Int):=o_;have t2:(c:Int)<=57:=o_;clear b d a;go_enter func110,ntmps110;go_wp2_with fail;go_ret;exact⟨rfl,rfl⟩
   . have a:br_ c=false:=by unfold br_;simp[b,d]
     rw[a];have t1:(48:Int)<=(c:Int):=o_;have t2:¬(c:Int)<=57:=o_;clear b d a;go_enter func110,ntmps110;go_wp2_with fail;go_ret;exact⟨rfl,rfl⟩
 . have a:br_ c=false:=by unfold br_;simp[b]
   rw[a];have t1:¬(48:Int)<=(c:Int):=o_;clear b a;go_enter func110,ntmps110;go_wp2_with fail;go_ret;exact⟨rfl,rfl⟩
theorem add_ (q d c:Nat)(w:World)(hc:c<256)(hd:d<=1000000)(hq:q<=12):
 Calls prog 107 #[.int .i64 (q:Int),.int .i64 (d:Int),.int .u8 (c:Int)] w fun e w'=>e= .returned (.tuple #[.int .i64 ((ai_ q d c).1:Int),.int .i64 ((ai_ q d c).2:Int)])/\w=w':=by
 by_cases g:97<=c/\c<=104
 . have f:σ c=true:=ja_.2 g;have b:ai_ q d c=(1,d):=by unfold ai_;simp[f]
   rw[b];have a:=c9_ c w hc;rw[f]at a;clear b f g;go_enter func107,ntmps107;go_wp2_with (go_at_call 146;refine a.mono ?_;rintro e w' ⟨rfl,rfl⟩)
   all_goals
    go_ret2;exact⟨i_,rfl⟩
 have f:σ c=false:=ux_.2 o_;by_cases s:c=46
 . subst s;have b:ai_ q d 46=(1,d):=by unfold ai_ σ;simp
   rw[b];have a:=c9_ 46 w o_;rw[show σ 46=false from rfl]at a;simp only[show((46:Nat):Int)=46 from rfl]at a ⊢;clear b f g;go_enter func107,ntmps107;go_wp2_with (go_at_call 146;refine a.mono ?_;rintro e w' ⟨rfl,rfl⟩)
   all_goals
    go_ret2;exact⟨by first|rfl|simp|(simp;omega),rfl⟩
 by_cases u:c=91
 . subst u;have b:ai_ q d 91=(3,d):=by unfold ai_ σ;simp
   rw[b];have a:=c9_ 91 w o_;rw[show σ 91=false from rfl]at a;simp only[show((91:Nat):Int)=91 from rfl]at a ⊢;clear b f g;go_enter func107,ntmps107;go_wp2_with (go_at_call 146;refine a.mono ?_;rintro e w' ⟨rfl,rfl⟩)
   all_goals
    go_ret2;exact⟨by first|rfl|simp|(simp;omega),rfl⟩
 by_cases n:c=40
 . subst n;by_cases i:d<6
   . have v:(d:Int)<6:=o_;have b:ai_ q d 40=(0,d+1):=by unfold ai_ σ;simp[i]
     rw[b];have a:=c9_ 40 w o_;rw[show σ 40=false from rfl]at a;simp only[show((40:Nat):Int)=40 from rfl]at a ⊢;clear b f g;go_enter func107,ntmps107;go_wp2_with (go_at_call 146;refine a.mono ?_;rintro e w' ⟨rfl,rfl⟩)
     all_goals
      go_ret2;exact⟨by first|rfl|simp|(simp;omega),rfl⟩
   . have v:¬(d:Int)<6:=o_;have b:ai_ q d 40=(12,d):=by unfold ai_ σ;simp[i]
     rw[b];have a:=c9_ 40 w o_;rw[show σ 40=false from rfl]at a;simp only[show((40:Nat):Int)=40 from rfl]at a ⊢;clear b f g;go_enter func107,ntmps107;go_wp2_with (go_at_call 146;refine a.mono ?_;rintro e w' ⟨rfl,rfl⟩)
     all_goals
      go_ret2;exact⟨by first|rfl|simp|(simp;omega),rfl⟩
 by_cases o:c=41
 . subst o;by_cases i:0<d
   . have v:(0:Int)<(d:Int):=o_;obtain⟨d,rfl⟩:∃m,d=m+1:=⟨d - 1,o_⟩;have b:ai_ q (d+1) 41=(1,d):=by unfold ai_ σ;simp
     rw[b];have a:=c9_ 41 w o_;rw[show σ 41=false from rfl]at a;simp only[show((41:Nat):Int)=41 from rfl]at a ⊢;clear b f g;go_enter func107,ntmps107;go_wp2_with (go_at_call 146;refine a.mono ?_;rintro e w' ⟨rfl,rfl⟩)
     all_goals
      go_ret2;exact⟨by first|rfl|simp|(simp;omega),rfl⟩
   . have v:¬(0:Int)<(d:Int):=o_;have b:ai_ q d 41=(12,d):=by unfold ai_ σ;simp[i]
     rw[b];have a:=c9_ 41 w o_;rw[show σ 41=false from rfl]at a;simp only[show((41:Nat):Int)=41 from rfl]at a ⊢;clear b f g;go_enter func107,ntmps107;go_wp2_with (go_at_call 146;refine a.mono ?_;rintro e w' ⟨rfl,rfl⟩)
     all_goals
      go_ret2;exact⟨by first|rfl|simp|(simp;omega),rfl⟩
 by_cases l:c=124
 . subst l;have b:ai_ q d 124=(0,d):=by unfold ai_ σ;simp
   rw[b];have a:=c9_ 124 w o_;rw[show σ 124=false from rfl]at a;simp only[show((124:Nat):Int)=124 from rfl]at a ⊢;clear b f g;go_enter func107,ntmps107;go_wp2_with (go_at_call 146;refine a.mono ?_;rintro e w' ⟨rfl,rfl⟩)
   all_goals
    go_ret2;exact⟨by first|rfl|simp|(simp;omega),rfl⟩
 by_cases p:c=42
 . subst p;by_cases h:q=1
   . subst h;have b:ai_ 1 d 42=(2,d):=by unfold ai_ σ;simp
     rw[b];have a:=c9_ 42 w o_;rw[show σ 42=false from rfl]at a;simp only[show((42:Nat):Int)=42 from rfl]at a ⊢;clear b f g;go_enter func107,ntmps107;go_wp2_with (go_at_call 146;refine a.mono ?_;rintro e w' ⟨rfl,rfl⟩)
     all_goals
      go_ret2;exact⟨by first|rfl|simp|(simp;omega),rfl⟩
   . have j:((q:Int)==1)=false:=s_;have b:ai_ q d 42=(12,d):=by unfold ai_ σ;simp[h]
     rw[b];have a:=c9_ 42 w o_;rw[show σ 42=false from rfl]at a;simp only[show((42:Nat):Int)=42 from rfl]at a ⊢;clear b f g;go_enter func107,ntmps107;go_wp2_with (go_at_call 146;refine a.mono ?_;rintro e w' ⟨rfl,rfl⟩)
     all_goals
      go_ret2;exact⟨by first|rfl|simp|(simp;omega),rfl⟩
 by_cases r:c=43
 . subst r;by_cases h:q=1
   . subst h;have b:ai_ 1 d 43=(2,d):=by unfold ai_ σ;simp
     rw[b];have a:=c9_ 43 w o_;rw[show σ 43=false from rfl]at a;simp only[show((43:Nat):Int)=43 from rfl]at a ⊢;clear b f g;go_enter func107,ntmps107;go_wp2_with (go_at_call 146;refine a.mono ?_;rintro e w' ⟨rfl,rfl⟩)
     all_goals
      go_ret2;exact⟨by first|rfl|simp|(simp;omega),rfl⟩
   . have j:((q:Int)==1)=false:=s_;have b:ai_ q d 43=(12,d):=by unfold ai_ σ;simp[h]
     rw[b];have a:=c9_ 43 w o_;rw[show σ 43=false from rfl]at a;simp only[show((43:Nat):Int)=43 from rfl]at a ⊢;clear b f g;go_enter func107,ntmps107;go_wp2_with (go_at_call 146;refine a.mono ?_;rintro e w' ⟨rfl,rfl⟩)
     all_goals
      go_ret2;exact⟨by first|rfl|simp|(simp;omega),rfl⟩
 by_cases t:c=63
 . subst t;by_cases h:q=1
   . subst h;have b:ai_ 1 d 63=(2,d):=by unfold ai_ σ;simp
     rw[b];have a:=c9_ 63 w o_;rw[show σ 63=false from rfl]at a;simp only[show((63:Nat):Int)=63 from rfl]at a ⊢;clear b f g;go_enter func107,ntmps107;go_wp2_with (go_at_call 146;refine a.mono ?_;rintro e w' ⟨rfl,rfl⟩)
     all_goals
      go_ret2;exact⟨by first|rfl|simp|(simp;omega),rfl⟩
   . have j:((q:Int)==1)=false:=s_;have b:ai_ q d 63=(12,d):=by unfold ai_ σ;simp[h]
     rw[b];have a:=c9_ 63 w o_;rw[show σ 63=false from rfl]at a;simp only[show((63:Nat):Int)=63 from rfl]at a ⊢;clear b f g;go_enter func107,ntmps107;go_wp2_with (go_at_call 146;refine a.mono ?_;rintro e w' ⟨rfl,rfl⟩)
     all_goals
      go_ret2;exact⟨by first|rfl|simp|(simp;omega),rfl⟩
 by_cases k:c=123
 . subst k;by_cases h:q=1
   . subst h;have b:ai_ 1 d 123=(8,d):=by unfold ai_ σ;simp
     rw[b];have a:=c9_ 123 w o_;rw[show σ 123=false from rfl]at a;simp only[show((123:Nat):Int)=123 from rfl]at a ⊢;clear b f g;go_enter func107,ntmps107;go_wp2_with (go_at_call 146;refine a.mono ?_;rintro e w' ⟨rfl,rfl⟩)
     all_goals
      go_ret2;exact⟨by first|rfl|simp|(simp;omega),rfl⟩
   . have j:((q:Int)==1)=false:=s_;have b:ai_ q d 123=(12,d):=by unfold ai_ σ;simp[h]
     rw[b];have a:=c9_ 123 w o_;rw[show σ 123=false from rfl]at a;simp only[show((123:Nat):Int)=123 from rfl]at a ⊢;clear b f g;go_enter func107,ntmps107;go_wp2_with (go_at_call 146;refine a.mono ?_;rintro e w' ⟨rfl,rfl⟩)
     all_goals
      go_ret2;exact⟨by first|rfl|simp|(simp;omega),rfl⟩
 have b:ai_ q d c=(12,d):=by
  unfold ai_;rw[f];simp[s,u,n,o,l,p,r,t,k]
 rw[b];have a:=c9_ c w hc;rw[f]at a;have t46:((c:Int)==46)=false:=s_;have t91:((c:Int)==91)=false:=s_;have t40:((c:Int)==40)=false:=s_;have t41:((c:Int)==41)=false:=s_;have t124:((c:Int)==124)=false:=s_;have t42:((c:Int)==42)=false:=s_;have t43:((c:Int)==43)=false:=s_;have t63:((c:Int)==63)=false:=s_;have t123:((c:Int)==123)=false:=s_;clear b f g s u n o l p r t k;by_cases h:q=1
 . subst h;go_enter func107,ntmps107;go_wp2_with (go_at_call 146;refine a.mono ?_;rintro e w' ⟨rfl,rfl⟩)
   all_goals
    go_ret2;exact⟨i_,rfl⟩
 . have j:((q:Int)==1)=false:=s_;go_enter func107,ntmps107;go_wp2_with (go_at_call 146;refine a.mono ?_;rintro e w' ⟨rfl,rfl⟩)
   all_goals
    go_ret2;exact⟨i_,rfl⟩
theorem ade_ (q c:Nat)(w:World)(hc:c<256)(hq:q<=12):
 Calls prog 108 #[.int .i64 (q:Int),.int .u8 (c:Int)] w fun e w'=>e= .returned (.int .i64 (b0_ q c:Int))/\w=w':=by
 by_cases f:97<=c/\c<=104
 . have d:σ c=true:=ja_.2 f;have a:=c9_ c w hc;rw[d]at a;have t94:((c:Int)==94)=false:=s_;have h:(c==94)=false:=s_;by_cases k:q=6
   . subst k;have b:b0_ 6 c=7:=by unfold b0_;simp[d,h]
     rw[b];clear b d f h;go_enter func108,ntmps108;go_wp2_with (go_at_call 146;refine a.mono ?_;rintro e w' ⟨rfl,rfl⟩)
     all_goals
      go_ret;exact⟨by first|rfl|simp,rfl⟩
   . have l:((q:Int)==6)=false:=s_;have b:b0_ q c=5:=by unfold b0_;simp[d,h,k]
     rw[b];clear b d f h k;go_enter func108,ntmps108;go_wp2_with (go_at_call 146;refine a.mono ?_;rintro e w' ⟨rfl,rfl⟩)
     all_goals
      go_ret;exact⟨by first|rfl|simp,rfl⟩
 have d:σ c=false:=ux_.2 o_;by_cases h:c=94
 . subst h;by_cases g:q=3
   . subst g;have b:b0_ 3 94=4:=by unfold b0_ σ;simp
     rw[b];have a:=c9_ 94 w o_;rw[show σ 94=false from rfl]at a;simp only[show((94:Nat):Int)=94 from rfl]at a ⊢;clear b d f;go_enter func108,ntmps108;go_wp2_with (go_at_call 146;refine a.mono ?_;rintro e w' ⟨rfl,rfl⟩)
     all_goals
      go_ret;exact⟨by first|rfl|simp,rfl⟩
   . have m:((q:Int)==3)=false:=s_;have b:b0_ q 94=12:=by unfold b0_ σ;simp[g]
     rw[b];have a:=c9_ 94 w o_;rw[show σ 94=false from rfl]at a;simp only[show((94:Nat):Int)=94 from rfl]at a ⊢;clear b d f;go_enter func108,ntmps108;go_wp2_with (go_at_call 146;refine a.mono ?_;rintro e w' ⟨rfl,rfl⟩)
     all_goals
      go_ret;exact⟨by first|rfl|simp,rfl⟩
 by_cases i:c=45
 . subst i;by_cases g:q=5
   . subst g;have b:b0_ 5 45=6:=by unfold b0_ σ;simp
     rw[b];have a:=c9_ 45 w o_;rw[show σ 45=false from rfl]at a;simp only[show((45:Nat):Int)=45 from rfl]at a ⊢;clear b d f;go_enter func108,ntmps108;go_wp2_with (go_at_call 146;refine a.mono ?_;rintro e w' ⟨rfl,rfl⟩)
     all_goals
      go_ret;exact⟨by first|rfl|simp,rfl⟩
   . have m:((q:Int)==5)=false:=s_;have b:b0_ q 45=12:=by unfold b0_ σ;simp[g]
     rw[b];have a:=c9_ 45 w o_;rw[show σ 45=false from rfl]at a;simp only[show((45:Nat):Int)=45 from rfl]at a ⊢;clear b d f;go_enter func108,ntmps108;go_wp2_with (go_at_call 146;refine a.mono ?_;rintro e w' ⟨rfl,rfl⟩)
     all_goals
      go_ret;exact⟨by first|rfl|simp,rfl⟩
 by_cases j:c=93
 . subst j;by_cases g:q=5
   . subst g;have b:b0_ 5 93=1:=by unfold b0_ σ;simp
     rw[b];have a:=c9_ 93 w o_;rw[show σ 93=false from rfl]at a;simp only[show((93:Nat):Int)=93 from rfl]at a ⊢;clear b d f;go_enter func108,ntmps108;go_wp2_with (go_at_call 146;refine a.mono ?_;rintro e w' ⟨rfl,rfl⟩)
     all_goals
      go_ret;exact⟨by first|rfl|simp,rfl⟩
   . have m:((q:Int)==5)=false:=s_;by_cases l:q=7
     . subst l;have b:b0_ 7 93=1:=by unfold b0_ σ;simp
       rw[b];have a:=c9_ 93 w o_;rw[show σ 93=false from rfl]at a;simp only[show((93:Nat):Int)=93 from rfl]at a ⊢;clear b d f g;go_enter func108,ntmps108;go_wp2_with (go_at_call 146;refine a.mono ?_;rintro e w' ⟨rfl,rfl⟩)
       all_goals
        go_ret;exact⟨by first|rfl|simp,rfl⟩
     . have n:((q:Int)==7)=false:=s_;have b:b0_ q 93=12:=by unfold b0_ σ;simp[g,l]
       rw[b];have a:=c9_ 93 w o_;rw[show σ 93=false from rfl]at a;simp only[show((93:Nat):Int)=93 from rfl]at a ⊢;clear b d f;go_enter func108,ntmps108;go_wp2_with (go_at_call 146;refine a.mono ?_;rintro e w' ⟨rfl,rfl⟩)
       all_goals
        go_ret;exact⟨by first|rfl|simp,rfl⟩
 have b:b0_ q c=12:=by
  unfold b0_;rw[d];simp[h,i,j]
 rw[b];have a:=c9_ c w hc;rw[d]at a;have t94:((c:Int)==94)=false:=s_;have t45:((c:Int)==45)=false:=s_;have t93:((c:Int)==93)=false:=s_;clear b d f h i j;go_enter func108,ntmps108;go_wp2_with (go_at_call 146;refine a.mono ?_;rintro e w' ⟨rfl,rfl⟩)
 all_goals
  go_ret;exact⟨by first|rfl|simp,rfl⟩
theorem adf_ (q c:Nat)(w:World)(hc:c<256)(hq:q<=12):
 Calls prog 109 #[.int .i64 (q:Int),.int .u8 (c:Int)] w fun e w'=>e= .returned (.int .i64 (ca_ q c:Int))/\w=w':=by
 by_cases f:48<=c/\c<=57
 . have d:br_ c=true:=ou_.2 f;have a:=kz_ c w hc;rw[d]at a;have t44:((c:Int)==44)=false:=s_;have t125:((c:Int)==125)=false:=s_;have h:(c==44)=false:=s_;have g:(c==125)=false:=s_;by_cases j:q=8
   . subst j;have b:ca_ 8 c=9:=by unfold ca_;simp[d]
     rw[b];clear b d f h g;go_enter func109,ntmps109;go_wp2_with (go_at_call 110;refine a.mono ?_;rintro e w' ⟨rfl,rfl⟩)
     all_goals
      go_ret;exact⟨by first|rfl|simp,rfl⟩
   . have n:((q:Int)==8)=false:=s_;by_cases k:q=10
     . subst k;have b:ca_ 10 c=11:=by unfold ca_;simp[d]
       rw[b];clear b d f h g j;go_enter func109,ntmps109;go_wp2_with (go_at_call 110;refine a.mono ?_;rintro e w' ⟨rfl,rfl⟩)
       all_goals
        go_ret;exact⟨by first|rfl|simp,rfl⟩
     . have m:((q:Int)==10)=false:=s_;have b:ca_ q c=12:=by unfold ca_;simp[d,j,k,h,g]
       rw[b];clear b d f h g j k;go_enter func109,ntmps109;go_wp2_with (go_at_call 110;refine a.mono ?_;rintro e w' ⟨rfl,rfl⟩)
       all_goals
        go_ret;exact⟨by first|rfl|simp,rfl⟩
 have d:br_ c=false:=uy_.2 o_;by_cases h:c=44
 . subst h;by_cases i:q=9
   . subst i;have b:ca_ 9 44=10:=by unfold ca_ br_;simp
     rw[b];have a:=kz_ 44 w o_;rw[show br_ 44=false from rfl]at a;simp only[show((44:Nat):Int)=44 from rfl]at a ⊢;clear b d f;go_enter func109,ntmps109;go_wp2_with (go_at_call 110;refine a.mono ?_;rintro e w' ⟨rfl,rfl⟩)
     all_goals
      go_ret;exact⟨by first|rfl|simp,rfl⟩
   . have l:((q:Int)==9)=false:=s_;have b:ca_ q 44=12:=by unfold ca_ br_;simp[i]
     rw[b];have a:=kz_ 44 w o_;rw[show br_ 44=false from rfl]at a;simp only[show((44:Nat):Int)=44 from rfl]at a ⊢;clear b d f;go_enter func109,ntmps109;go_wp2_with (go_at_call 110;refine a.mono ?_;rintro e w' ⟨rfl,rfl⟩)
     all_goals
      go_ret;exact⟨by first|rfl|simp,rfl⟩
 by_cases g:c=125
 . subst g;by_cases i:q=8
   . subst i;have b:ca_ 8 125=12:=by unfold ca_ br_;simp
     rw[b];have a:=kz_ 125 w o_;rw[show br_ 125=false from rfl]at a;simp only[show((125:Nat):Int)=125 from rfl]at a ⊢;clear b d f;go_enter func109,ntmps109;go_wp2_with (go_at_call 110;refine a.mono ?_;rintro e w' ⟨rfl,rfl⟩)
     all_goals
      go_ret;exact⟨by first|rfl|simp,rfl⟩
   . have l:((q:Int) !=8)=true:=s_;have b:ca_ q 125=2:=by unfold ca_ br_;simp[i]
     rw[b];have a:=kz_ 125 w o_;rw[show br_ 125=false from rfl]at a;simp only[show((125:Nat):Int)=125 from rfl]at a ⊢;clear b d f;go_enter func109,ntmps109;go_wp2_with (go_at_call 110;refine a.mono ?_;rintro e w' ⟨rfl,rfl⟩)
     all_goals
      go_ret;exact⟨by first|rfl|simp,rfl⟩
 have b:ca_ q c=12:=by
  unfold ca_;rw[d];simp[h,g]
 rw[b];have a:=kz_ c w hc;rw[d]at a;have t44:((c:Int)==44)=false:=s_;have t125:((c:Int)==125)=false:=s_;clear b d f h g;go_enter func109,ntmps109;go_wp2_with (go_at_call 110;refine a.mono ?_;rintro e w' ⟨rfl,rfl⟩)
 all_goals
  go_ret;exact⟨by first|rfl|simp,rfl⟩
theorem adg_ (q d c:Nat)(hd:d<=6):(ai_ q d c).1<=12/\(ai_ q d c).2<=6:=by
 unfold ai_;split
 . exact⟨i_,hd⟩
 . split
   . exact⟨i_,hd⟩
   . split
     . rename_i h;simp at h;exact⟨i_,s_⟩
     . split
       . exact⟨i_,s_⟩
       . split
         . exact⟨i_,hd⟩
         . split
           . exact⟨i_,hd⟩
           . split
             . exact⟨i_,hd⟩
             . exact⟨i_,hd⟩
theorem adh_ (q c:Nat):b0_ q c<=12:=by
 unfold b0_;split
 . omega
 . split
   . omega
   . split
     . omega
     . split
       . omega
       . split<;>omega
theorem adi_ (q c:Nat):ca_ q c<=12:=by
 unfold ca_;split
 . omega
 . split
   . omega
   . split
     . omega
     . split<;>omega
theorem At.bound (h:At s a q d):q<=11/\d<=6:=by
 induction h with
 |zero=>omega
 |step h1 hlt ha hq ih=>
  rename_i a q d q' d';unfold aut at ha;split at ha
  . have:=adg_ q d (θ s a) ih.2;rw[ha]at this;simp only at this;omega
  . split at ha
    . simp only[Prod.mk.injEq]at ha;have:=adh_ q (θ s a);omega
    . simp only[Prod.mk.injEq]at ha;have:=adi_ q (θ s a);omega
theorem q6_ (s:ByteArray)(a:Nat):θ s a<256:=by unfold θ;exact UInt8.toNat_lt _
def q7_ (s:ByteArray)(r:Int):Prop:=(∃a:Nat,bs_ s a/\r=(a:Int))\/(∃q,At s s.size q 0/\q<=2/\r= -1)
theorem adj_ (h:q<=2):aut q d c=ai_ q d c:=by unfold aut;rw[if_pos h]
theorem adk_ (h:¬q<=2)(h':q<=7):aut q d c=(b0_ q c,d):=by unfold aut;rw[if_neg h,if_pos h']
theorem adl_ (h:¬q<=2)(h':¬q<=7):aut q d c=(ca_ q c,d):=by unfold aut;rw[if_neg h,if_neg h']
theorem m5_ (s:ByteArray)(w:World)(hs:s.size<=40):Calls prog 69 #[.string s] w fun e w'=>∃r:Int,e= .returned (.int .i64 r)/\q7_ s r/\w=w':=by
 go_enter func69,ntmps69;go_wp2_with fail;go_loop [3,4,5] (fun q' d' i'=>∃i q d:Nat,i<=s.size/\i'= .int .i64 (i:Int)/\q'= .int .i64 (q:Int)/\d'= .int .i64 (d:Int)/\At s i q d) (fun _ _ i'=>s.size - (intOf i').toNat)
 case atStart=>exact⟨0,0,0,o_,rfl,rfl,rfl,.zero⟩
 case round=>
  obtain⟨i,q,d,C,rfl,rfl,rfl,p⟩:=hrel;obtain⟨D,B⟩:=p.bound;by_cases j:i<s.size
  . have k:=q6_ s i;have l:=cp_ j;have h:=α p;clear p;by_cases o:q<=2
    . have t:(q:Int)<=2:=o_;have c:=add_ q d (θ s i) w k o_ o_;have a:Hid (aut q d (θ s i)=ai_ q d (θ s i)):=adj_ o;obtain⟨b,d1,g⟩:∃b d1,Hid (ai_ q d (θ s i)=(b,d1)):=⟨_,_,rfl⟩;rw[g.out]at c a;rw[l]at c;simp only at c;clear l k;by_cases f:b=12
      . have n:Hid (bs_ s i):=⟨q,d,h.out,.inl ⟨j,by rw[a.out];exact f⟩⟩;subst f;clear g a;go_wp2_with (go_at_call 107;refine c.mono ?_;rintro e w' ⟨rfl,rfl⟩);go_ret;exact⟨_,rfl,.inl ⟨i,n.out,rfl⟩,rfl⟩
      . have v:((b:Int)==12)=false:=s_;have m:Hid (At s (i+1) b d1):=h.out.step j a.out f;clear g a f;go_wp2_with (go_at_call 107;refine c.mono ?_;rintro e w' ⟨rfl,rfl⟩);go_round
        case rel=>exact⟨i+1,b,d1,o_,by go_num,rfl,rfl,m.out⟩
        case measure=>exact c_
    . have t:¬(q:Int)<=2:=o_;by_cases x:q<=7
      . have z:(q:Int)<=7:=o_;have c:=ade_ q (θ s i) w k o_;have a:Hid (aut q d (θ s i)=(b0_ q (θ s i),d)):=adk_ o x;obtain⟨b,g⟩:=δ (b0_ q (θ s i));rw[g.out]at c a;rw[l]at c;clear l k;by_cases f:b=12
        . have n:Hid (bs_ s i):=⟨q,d,h.out,.inl ⟨j,by rw[a.out];exact f⟩⟩;subst f;clear g a;go_wp2_with (go_at_call 108;refine c.mono ?_;rintro e w' ⟨rfl,rfl⟩);go_ret;exact⟨_,rfl,.inl ⟨i,n.out,rfl⟩,rfl⟩
        . have v:((b:Int)==12)=false:=s_;have m:Hid (At s (i+1) b d):=h.out.step j a.out f;clear g a f;go_wp2_with (go_at_call 108;refine c.mono ?_;rintro e w' ⟨rfl,rfl⟩);go_round
          case rel=>exact⟨i+1,b,d,o_,by go_num,rfl,rfl,m.out⟩
          case measure=>exact c_
      . have z:¬(q:Int)<=7:=o_;have c:=adf_ q (θ s i) w k o_;have a:Hid (aut q d (θ s i)=(ca_ q (θ s i),d)):=adl_ o x;obtain⟨b,g⟩:=δ (ca_ q (θ s i));rw[g.out]at c a;rw[l]at c;clear l k;by_cases f:b=12
        . have n:Hid (bs_ s i):=⟨q,d,h.out,.inl ⟨j,by rw[a.out];exact f⟩⟩;subst f;clear g a;go_wp2_with (go_at_call 109;refine c.mono ?_;rintro e w' ⟨rfl,rfl⟩);go_ret;exact⟨_,rfl,.inl ⟨i,n.out,rfl⟩,rfl⟩
        . have v:((b:Int)==12)=false:=s_;have m:Hid (At s (i+1) b d):=h.out.step j a.out f;clear g a f;go_wp2_with (go_at_call 109;refine c.mono ?_;rintro e w' ⟨rfl,rfl⟩);go_round
          case rel=>exact⟨i+1,b,d,o_,by go_num,rfl,rfl,m.out⟩
          case measure=>exact c_
  . obtain rfl:i=s.size:=o_;have h:=α p;clear p;by_cases o:q<=2
    . have t:¬(2:Int)<(q:Int):=o_;by_cases u:d=0
      . subst u;go_wp2_with fail;go_ret;exact⟨_,rfl,.inr ⟨q,h.out,o,rfl⟩,rfl⟩
      . have A:(0:Int)<(d:Int):=o_;have y:Hid (0<d):=by unfold Hid;omega
        clear u;go_wp2_with fail;go_ret;exact⟨_,rfl,.inl ⟨s.size,⟨q,d,h.out,.inr ⟨rfl,.inr y.out⟩⟩,rfl⟩,rfl⟩
    . have t:(2:Int)<(q:Int):=o_;go_wp2_with fail;go_ret;exact⟨_,rfl,.inl ⟨s.size,⟨q,d,h.out,.inr ⟨rfl,.inl o_⟩⟩,rfl⟩,rfl⟩
theorem ow_ (s:ByteArray)(w:World)(hs:s.size<=40):Calls prog 70 #[.string s] w fun e w'=>∃r:Int,e= .returned (.int .i64 r)/\((∃i:Nat,r=(i:Int)/\BkT s i=true/\∀j,j<i->BkT s j=false)\/(r= -1/\∀j,BkT s j=false))/\Bl w w':=by
 go_enter func70,ntmps70;go_wp2_with fail;go_loopw [3,4] (fun i' _ wr=>∃i:Nat,i<=s.size/\i'= .int .i64 (i:Int)/\(∀j,j<i->BkT s j=false)/\Bl w wr) (fun i' _ _=>s.size - (intOf i').toNat)
 case atStart=>exact⟨0,o_,rfl,fun j hj=>o_,μ⟩
 case round=>
  obtain⟨i,hi,rfl,T,S⟩:=hrel;have g:=α T;have l:=α S;clear T S;by_cases W:i<s.size
  . have V:=q6_ s i;have M:=cp_ W;have m:=fun w=>kz_ (θ s i) w V
    have K:Hid (br_ (θ s i)=br_ s[i].toNat):=by unfold Hid;rw[M]
    rw[M]at m;clear M V;obtain⟨dg,J⟩:∃x,Hid (br_ s[i].toNat=x):=⟨br_ s[i].toNat,rfl⟩;rw[J.out]at m;rw[J.out]at K;clear J;obtain⟨k,c⟩:∃x,Hid (i+1=x):=⟨i+1,rfl⟩;obtain⟨f,B⟩:∃x,Hid (i+2=x):=⟨i+2,rfl⟩;have ac:IntKind.i64.wrap ((i:Int)+1)=(k:Int):=by rw[<-c.out,IntKind.wrap_i64];omega
    have ad:IntKind.i64.wrap ((i:Int)+2)=(f:Int):=by rw[<-B.out,IntKind.wrap_i64];omega
    by_cases R:i+2<s.size
    . have Y:(f:Int)<(s.size:Int):=by rw[<-B.out];omega
      have aa:k<s.size:=by rw[<-c.out];omega
      have ab:f<s.size:=by rw[<-B.out];omega
      have P:=cp_ (s:=s) (a:=k) aa;have Q:=cp_ (s:=s) (a:=f) ab;have O:=cp_ W;obtain⟨L,v⟩:∃x,Hid (s[i].toNat=x):=⟨s[i].toNat,rfl⟩;obtain⟨C,t⟩:∃x,Hid (s[k].toNat=x):=⟨s[k].toNat,rfl⟩;obtain⟨H,o⟩:∃x,Hid (s[f].toNat=x):=⟨s[f].toNat,rfl⟩;have y:Hid (θ s i=L):=O.trans v.out;have p:Hid (θ s (i+1)=C):=by unfold Hid;rw[c.out];exact P.trans t.out
      have z:Hid (θ s (i+2)=H):=by unfold Hid;rw[B.out];exact Q.trans o.out
      clear O P Q;by_cases F:C=45
      . have t45:((s[k].toNat:Int)==45)=true:=by rw[t.out,F];rfl
        have A:=α F;clear F;by_cases n:H<L
        . have N:(s[f].toNat:Int)<(s[i].toNat:Int):=by rw[o.out,v.out];omega
          have q:=α n;clear n;have b:Hid (BkT s i=true):=by
           unfold Hid BkT;rw[y.out,p.out,z.out,A.out];simp[R,q.out]
          go_wp2_with fail;go_quiet (fail);go_wp2_with fail;go_ret;exact⟨_,rfl,.inl ⟨i,rfl,b.out,g.out⟩,below_drewN l.out nq⟩
        . have N:¬(s[f].toNat:Int)<(s[i].toNat:Int):=by rw[o.out,v.out];omega
          have t44:((s[k].toNat:Int)==44)=false:=by rw[t.out,A.out];rfl
          have q:=α n;clear n;cases dg
          all_goals
           have b:Hid (BkT s i=false):=by
            unfold Hid BkT;have U:=q.out;rw[y.out,p.out,z.out,A.out];simp;omega
           go_wp2_with fail;go_quiet (fail);go_wp2_with fail;have d:Hid (Bl w (wr.drewN nq)):=below_drewN l.out nq;generalize wr.drewN nq=w2 at*;go_wp2_with (go_at_call 110;refine(m _).mono ?_;rintro e w' ⟨rfl,rfl⟩);go_quiet (fail);go_wp2_with fail;go_roundw
           case rel=>exact⟨i+1,o_,by rw[c.out],fun j hj=>by
            by_cases e:j=i
            . subst e;exact b.out
            . exact g.out j o_,below_drewN d.out nq⟩
           case measure=>
            have G:=c.out;simp[intOf];omega
      . have t45:((s[k].toNat:Int)==45)=false:=by rw[t.out];simp;omega
        have A:=α F;clear F;by_cases E:C=44
        . have t44:((s[k].toNat:Int)==44)=true:=by rw[t.out,E];rfl
          have u:=α E;clear E;by_cases D:H=125
          . have t125:((s[f].toNat:Int) !=125)=false:=by rw[o.out,D];rfl
            have I:=α D;clear D;cases dg
            all_goals
             have b:Hid (BkT s i=false):=by
              unfold Hid BkT;rw[y.out,p.out,z.out,u.out,I.out];simp
             go_wp2_with fail;go_quiet (fail);go_wp2_with fail;have d:Hid (Bl w (wr.drewN nq)):=below_drewN l.out nq;generalize wr.drewN nq=w2 at*;go_wp2_with (go_at_call 110;refine(m _).mono ?_;rintro e w' ⟨rfl,rfl⟩);go_quiet (fail);go_wp2_with fail;go_roundw
             case rel=>exact⟨i+1,o_,by rw[c.out],fun j hj=>by
              by_cases e:j=i
              . subst e;exact b.out
              . exact g.out j o_,below_drewN d.out nq⟩
             case measure=>
              have G:=c.out;simp[intOf];omega
          . have t125:((s[f].toNat:Int) !=125)=true:=by rw[o.out];simp;omega
            have I:=α D;clear D;by_cases n:H<L
            . have N:(s[f].toNat:Int)<(s[i].toNat:Int):=by rw[o.out,v.out];omega
              have q:=α n;clear n;cases dg
              . skip;have b:Hid (BkT s i=false):=by
                 unfold Hid BkT;rw[K.out,p.out,u.out];simp
                go_wp2_with fail;go_quiet (fail);go_wp2_with fail;have d:Hid (Bl w (wr.drewN nq)):=below_drewN l.out nq;generalize wr.drewN nq=w2 at*;go_wp2_with (go_at_call 110;refine(m _).mono ?_;rintro e w' ⟨rfl,rfl⟩);go_quiet (fail);go_wp2_with fail;go_roundw
                case rel=>exact⟨i+1,o_,by rw[c.out],fun j hj=>by
                 by_cases e:j=i
                 . subst e;exact b.out
                 . exact g.out j o_,below_drewN d.out nq⟩
                case measure=>
                 have G:=c.out;simp[intOf];omega
              . skip;have b:Hid (BkT s i=true):=by
                 unfold Hid BkT;have U:=q.out;have hX:=I.out;rw[K.out,y.out,p.out,z.out,u.out];simp;omega
                go_wp2_with fail;go_quiet (fail);go_wp2_with fail;have d:Hid (Bl w (wr.drewN nq)):=below_drewN l.out nq;generalize wr.drewN nq=w2 at*;go_wp2_with (go_at_call 110;refine(m _).mono ?_;rintro e w' ⟨rfl,rfl⟩);go_quiet (fail);go_wp2_with fail;go_ret;exact⟨_,rfl,.inl ⟨i,rfl,b.out,g.out⟩,below_drewN d.out nq⟩
            . have N:¬(s[f].toNat:Int)<(s[i].toNat:Int):=by rw[o.out,v.out];omega
              have q:=α n;clear n;cases dg
              all_goals
               have b:Hid (BkT s i=false):=by
                unfold Hid BkT;have U:=q.out;rw[y.out,p.out,z.out,u.out];simp;intros;omega
               go_wp2_with fail;go_quiet (fail);go_wp2_with fail;have d:Hid (Bl w (wr.drewN nq)):=below_drewN l.out nq;generalize wr.drewN nq=w2 at*;go_wp2_with (go_at_call 110;refine(m _).mono ?_;rintro e w' ⟨rfl,rfl⟩);go_quiet (fail);go_wp2_with fail;go_roundw
               case rel=>exact⟨i+1,o_,by rw[c.out],fun j hj=>by
                by_cases e:j=i
                . subst e;exact b.out
                . exact g.out j o_,below_drewN d.out nq⟩
               case measure=>
                have G:=c.out;simp[intOf];omega
        . have t44:((s[k].toNat:Int)==44)=false:=by rw[t.out];simp;omega
          have u:=α E;clear E;cases dg
          all_goals
           have b:Hid (BkT s i=false):=by
            unfold Hid BkT;have hX:=u.out;have Z:=A.out;rw[p.out,show(C==45)=false by simpa using Z,show(C==44)=false by simpa using hX];simp
           go_wp2_with fail;go_quiet (fail);go_wp2_with fail;have d:Hid (Bl w (wr.drewN nq)):=below_drewN l.out nq;generalize wr.drewN nq=w2 at*;go_wp2_with (go_at_call 110;refine(m _).mono ?_;rintro e w' ⟨rfl,rfl⟩);go_quiet (fail);go_wp2_with fail;go_roundw
           case rel=>exact⟨i+1,o_,by rw[c.out],fun j hj=>by
            by_cases e:j=i
            . subst e;exact b.out
            . exact g.out j o_,below_drewN d.out nq⟩
           case measure=>
            have G:=c.out;simp[intOf];omega
    . have Y:¬f<s.size:=by rw[<-B.out];omega
      cases dg
      all_goals
       have b:Hid (BkT s i=false):=by
        unfold Hid BkT;simp[R]
       go_wp2_with fail;go_quiet (fail);go_wp2_with fail;have d:Hid (Bl w (wr.drewN nq)):=below_drewN l.out nq;generalize wr.drewN nq=w2 at*;go_wp2_with (go_at_call 110;refine(m _).mono ?_;rintro e w' ⟨rfl,rfl⟩);go_quiet (fail);go_wp2_with fail;go_roundw
       case rel=>exact⟨i+1,o_,by rw[c.out],fun j hj=>by
        by_cases e:j=i
        . subst e;exact b.out
        . exact g.out j o_,below_drewN d.out nq⟩
       case measure=>
        have G:=c.out;simp[intOf];omega
  . obtain rfl:i=s.size:=o_;have X:Hid (∀j,BkT s j=false):=fun j=>by
     by_cases h:j<s.size
     . exact g.out j h
     . unfold BkT;have:¬j+2<s.size:=o_;simp[this]
    clear g;go_wp2_with fail;go_ret;exact⟨_,rfl,.inr ⟨rfl,X.out⟩,l.out⟩
end Go.Proofs.YtpngikmcjkjdaaaGreatDoor
