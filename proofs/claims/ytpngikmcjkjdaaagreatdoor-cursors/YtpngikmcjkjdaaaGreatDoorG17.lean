import Derived.Test.YtpngikmcjkjdaaaGreatDoorG0
import Derived.Test.YtpngikmcjkjdaaaGreatDoorG14
import Derived.Test.YtpngikmcjkjdaaaGreatDoorG2
set_option linter.unusedVariables false
set_option linter.unusedSimpArgs false
set_option maxRecDepth 20000
set_option maxHeartbeats 80000000
namespace Go.Proofs.YtpngikmcjkjdaaaGreatDoor
open Go.RowKit Tryz
def ai_ (c:Nat):Bool:=decide (97<=c)&&decide (c<=104)
def a2_ (c:Nat):Bool:=decide (48<=c)&&decide (c<=57)
def a5_ (q d c:Nat):Nat×Nat:=
 if ai_ c||c==46 then(1,d)
 else if c==91 then(3,d)
 else if c==40&&decide (d<6)then(0,d+1)
 else if c==41&&decide (0<d)then(1,d - 1)
 else if c==124 then(0,d)
 else if q==1&&(c==42||c==43||c==63)then(2,d)
 else if q==1&&c==123 then(8,d)
 else(12,d)
def setA (q c:Nat):Nat:=
 if c==94&&q==3 then 4
 else if ai_ c&&q==6 then 7
 else if ai_ c then 5
 else if c==45&&q==5 then 6
 else if c==93&&(q==5||q==7)then 1
 else 12
def cl_ (q c:Nat):Nat:=
 if a2_ c&&q==8 then 9
 else if a2_ c&&q==10 then 11
 else if c==44&&q==9 then 10
 else if c==125&&q !=8 then 2
 else 12
def aut (q d c:Nat):Nat×Nat:=if q<=2 then a5_ q d c else if q<=7 then(setA q c,d)else(cl_ q c,d)
inductive At (s:ByteArray):Nat->Nat->Nat->Prop where
 |zero:At s 0 0 0
 |step {a q d q' d':Nat} (h:At s a q d) (hlt:a<s.size) (ha:aut q d (ad_ s a)=(q',d')) (hq:q'≠12):At s (a+1) q' d'
theorem At.eq {s:ByteArray}{a q d q' d':Nat}(h:At s a q d)(h':At s a q' d'):q=q'/\d=d':=by
 induction h generalizing q' d' with
 |zero=>cases h';exact⟨rfl,rfl⟩
 |step _ _ ha _ ih=>
  cases h' with
  |step h1 _ ha' _=>
   obtain⟨rfl,rfl⟩:=ih h1;rw[ha]at ha';simpa using ha'
theorem At.back {s:ByteArray}{a q d:Nat}(h:At s a q d){b:Nat}(hb:b<a):∃q' d' q'' d'',At s b q' d'/\aut q' d' (ad_ s b)=(q'',d'')/\q''≠12/\b<s.size:=by
 induction h with
 |zero=>omega
 |step h1 hlt ha hq ih=>
  rename_i a _ _ _ _;by_cases e:b=a
  . subst e;exact⟨_,_,_,_,h1,ha,hq,hlt⟩
  . exact ih o_
theorem At.le {s:ByteArray}{a q d:Nat}(h:At s a q d):a<=s.size:=by cases h with
 |zero=>omega
 |step _ hlt _ _=>omega
def b6_ (s:ByteArray)(a:Nat):Prop:=∃q d,At s a q d/\((a<s.size/\(aut q d (ad_ s a)).1=12)\/(a=s.size/\(2<q\/0<d)))
theorem b6_.mk {s:ByteArray}{a q d:Nat}(h:At s a q d)(h1:a<s.size->(aut q d (ad_ s a)).1=12)(h2:a=s.size->2<q\/0<d):b6_ s a:=by
 have:=h.le;by_cases e:a<s.size
 . exact⟨q,d,h,.inl ⟨e,h1 e⟩⟩
 . exact⟨q,d,h,.inr ⟨o_,h2 o_⟩⟩
theorem b6_.uniq {s:ByteArray}{a b:Nat}(ha:b6_ s a)(hb:b6_ s b):a=b:=by
 have key:∀ {a b:Nat},b6_ s a->b6_ s b->¬a<b:=by
  intro a b ⟨q,d,h,h'⟩ ⟨q2,d2,h2,h2'⟩ hlt;obtain⟨q',d',q'',d'',h3,h4,h5,h6⟩:=h2.back hlt;obtain⟨rfl,rfl⟩:=h.eq h3;rcases h' with ⟨_,h'⟩|⟨h',_⟩
  . rw[h4]at h';exact h5 h'
  . omega
 have h1:=key ha hb;have h2:=key hb ha;omega
theorem b6_.not_whole {s:ByteArray}{a q:Nat}(ha:b6_ s a)(h:At s s.size q 0)(hq:q<=2):False:=by
 obtain⟨q',d',h1,h2⟩:=ha;have hle:=h1.le;by_cases hlt:a<s.size
 . obtain⟨q2,d2,q'',d'',h3,h4,h5,h6⟩:=h.back hlt;obtain⟨rfl,rfl⟩:=h1.eq h3;rcases h2 with ⟨_,h'⟩|⟨h',_⟩
   . rw[h4]at h';exact h5 h'
   . omega
 . have:a=s.size:=o_;subst this;obtain⟨rfl,rfl⟩:=h.eq h1;rcases h2 with ⟨h',_⟩|⟨_,h'|h'⟩<;>omega
def BkT (s:ByteArray)(i:Nat):Bool:=
 (decide (i+2<s.size)&&(ad_ s (i+1)==45)&&decide (ad_ s (i+2)<ad_ s i))||
 (a2_ (ad_ s i)&&decide (i+2<s.size)&&(ad_ s (i+1)==44)&&(ad_ s (i+2) !=125)&&decide (ad_ s (i+2)<ad_ s i))
theorem BkT.off {s:ByteArray}{i:Nat}(h:ad_ s (i+1)≠45)(h':ad_ s (i+1)≠44):BkT s i=false:=by
 unfold BkT;rw[show(ad_ s (i+1)==45)=false by simpa using h,show(ad_ s (i+1)==44)=false by simpa using h'];simp
structure Good (s:ByteArray)(t:Sp)(q d:Nat):Prop where
 at_:At s t.a q d
 yes:t.bk=true->BkT s t.sp=true/\∀j,j<t.sp->BkT s j=false
 no:t.bk=false->∀j,j+1<t.a->BkT s j=false
theorem Good.le {s:ByteArray}{t:Sp}{q d:Nat}(h:Good s t q d):t.a<=s.size:=h.at_.le
theorem Good.step {s:ByteArray}{t:Sp}{q d q' d':Nat}(h:Good s t q d)(hlt:t.a<s.size)(ha:aut q d (ad_ s t.a)=(q',d'))(hq:q'≠12)(h1:ad_ s t.a≠45)(h2:ad_ s t.a≠44):Good s t.go q' d':=by
 refine⟨h.at_.step hlt ha hq,h.yes,fun hb j hj=> ?_⟩;simp only[go_a]at hj;by_cases e:j+1=t.a
 . exact BkT.off (by rw[e];exact h1) (by rw[e];exact h2)
 . exact h.no hb j o_
theorem ca_ {s:ByteArray}{a b:Nat}(h:hit s a b=true):ad_ s a=b/\a<s.size:=by
 unfold hit at h;rw[Bool.and_eq_true,decide_eq_true_eq,beq_iff_eq]at h;exact⟨h.2,h.1⟩
theorem ec_ {s:ByteArray}{a b:Nat}(h:hit s a b=false)(hb:0<b):ad_ s a≠b:=by
 intro e;by_cases hlt:a<s.size
 . unfold hit at h;unfold ad_ at e;rw[e,decide_eq_true hlt]at h;simp at h
 . rw[g1_ hlt]at e;omega
theorem es_ {c:Nat}:ai_ c=true↔97<=c/\c<=104:=by unfold ai_;simp
theorem h6_ {c:Nat}:a2_ c=true↔48<=c/\c<=57:=by unfold a2_;simp
theorem ru_ {c:Nat}:ai_ c=false↔c<97\/104<c:=by unfold ai_;simp;omega
theorem pz_ {c:Nat}:a2_ c=false↔c<48\/57<c:=by unfold a2_;simp;omega
def x2_ (q c:Nat):Prop:=(q=3/\c≠94)\/q=4\/(q=5/\c≠45/\c≠93)\/(q=7/\c≠93)
theorem x3_ {s:ByteArray}{t:Sp}{q d:Nat}(h:Good s t q d)(hq:x2_ q (ad_ s t.a)):
 match dv_ s t with
 | .no t'=>b6_ s t'.a
 | .ok (f,g) t'=>∃q',Good s (bk_ t.a f g t') q' d/\((q'=5/\ad_ s t'.a≠45)\/q'=7):=by
 have hq3:3<=q/\q<=7:=by rcases hq with h|h|h|h<;>omega
 unfold dv_;by_cases h1:bs_ s t.a=true
 . rw[if_pos h1];have n1:=es_.1 h1;have hlt:=fp_ h1;have e1:aut q d (ad_ s t.a)=(5,d):=by
    unfold aut setA;rw[if_neg o_,if_pos o_];have:ai_ (ad_ s t.a)=true:=h1;rw[this];have e6:(q==6)=false:=by rcases hq with h|h|h|h<;>simp<;>omega
    have e94:(ad_ s t.a==94)=false:=s_;simp[e6,e94]
   have g1:=h.step hlt e1 o_ o_ o_;by_cases h2:hit s (t.a+1) 45=true
   . rw[if_pos h2];obtain⟨b2,l2⟩:=ca_ h2;have e2:aut 5 d (ad_ s (t.a+1))=(6,d):=by rw[b2];unfold aut setA ai_;simp
     have a2:At s (t.a+1+1) 6 d:=g1.at_.step l2 e2 o_;by_cases h3:bs_ s (t.a+1+1)=true
     . rw[if_pos h3];have n3:=es_.1 h3;have l3:=fp_ h3;have e3:aut 6 d (ad_ s (t.a+1+1))=(7,d):=by
        unfold aut setA;have:ai_ (ad_ s (t.a+1+1))=true:=h3;simp[this]
       have a3:At s (t.a+1+1+1) 7 d:=a2.step l3 e3 o_;refine⟨7, ?_,.inr rfl⟩;have hb0:∀j,j+1<t.a+1->t.bk=false->BkT s j=false:=fun j hj hb=>g1.no hb j hj
       have hb1:BkT s (t.a+1)=false:=BkT.off (by rw[show t.a+1+1=t.a+2 from rfl]at n3 ⊢;omega) (by rw[show t.a+1+1=t.a+2 from rfl]at n3 ⊢;omega);have hbk:BkT s t.a=decide (ad_ s (t.a+1+1)<ad_ s t.a):=by
        unfold BkT;rw[b2,show t.a+2=t.a+1+1 from rfl];simp only[l3,decide_true,Bool.true_and];have:a2_ (ad_ s t.a)=false:=pz_.2 o_;simp[this]
       unfold bk_;by_cases hlt3:ad_ s (t.a+1+1)- 97<ad_ s t.a - 97
       . rw[if_pos hlt3];refine⟨a3,fun _=> ?_,fun hb=>by simp[Sp.tell]at hb⟩;show BkT s (if t.bk then t.sp else t.a)=true/\∀j,j<(if t.bk then t.sp else t.a)->_
         cases hb:t.bk
         . simp only[Bool.false_eq_true,if_false];exact⟨by rw[hbk];simp;omega,fun j hj=>hb0 j o_ hb⟩
         . simp only[if_true];exact h.yes hb
       . rw[if_neg hlt3];refine⟨a3,h.yes,fun hb j hj=> ?_⟩;have hb':t.bk=false:=hb;simp only[go_a]at hj;by_cases e:j=t.a
         . subst e;rw[hbk];simp;omega
         . by_cases e':j=t.a+1
           . subst e';exact hb1
           . exact hb0 j o_ hb'
     . rw[if_neg h3];have n3:ai_ (ad_ s (t.a+1+1))=false:=Bool.eq_false_iff.2 h3;refine b6_.mk a2 (fun _=> ?_) (fun _=> .inl o_);unfold aut setA;simp[n3]
   . rw[if_neg h2];have b2:=ec_ (by simpa using h2) o_;refine⟨5, ?_,.inl ⟨rfl,b2⟩⟩;unfold bk_;rw[if_neg o_];exact g1
 . rw[if_neg h1];have n1:ai_ (ad_ s t.a)=false:=Bool.eq_false_iff.2 h1;refine b6_.mk h.at_ (fun _=> ?_) (fun _=> .inl o_);unfold aut setA;rw[if_neg o_,if_pos o_];rcases hq with ⟨rfl,h⟩|rfl|⟨rfl,h,h'⟩|⟨rfl,h⟩<;>simp[n1, *]
theorem lv_ {s:ByteArray}{n:Nat}{N:Nat->Bool}{t:Sp}{q d:Nat}(h:Good s t q d)(hq:x2_ q (ad_ s t.a))(hn:s.size - t.a<n):
 match cx_ s n N t with
 | .no t'=>b6_ s t'.a
 | .ok N' t'=>Good s t' 1 d:=by
 induction n generalizing N t q with
 |zero=>omega
 |succ n ih=>
  have hp:=x3_ h hq;simp only[cx_];cases hr:dv_ s t with
  |no t1=>rw[hr]at hp;exact hp
  |ok x t1=>
   obtain⟨f,g⟩:=x;have hok:=ij_ hr;rw[hr]at hp;obtain⟨q',g1,hq'⟩:=hp;simp only;by_cases h2:hit s t1.a 93=true
   . rw[if_pos h2];obtain⟨b2,l2⟩:=ca_ h2;refine g1.step (by simpa using l2) ?_ o_ s_ s_;simp only[spanF_a];rw[b2];rcases hq' with ⟨rfl,_⟩|rfl
     . unfold aut setA ai_;simp
     . unfold aut setA ai_;simp
   . rw[if_neg h2];have b2:=ec_ (by simpa using h2) o_;refine ih g1 ?_ s_;simp only[spanF_a];rcases hq' with ⟨rfl,h5⟩|rfl
     . exact .inr (.inr (.inl ⟨rfl,h5,b2⟩))
     . exact .inr (.inr (.inr ⟨rfl,b2⟩))
theorem aav_ {s:ByteArray}{t:Sp}{d:Nat}(h:Good s t 3 d):
 match setF s t with
 | .no t'=>b6_ s t'.a
 | .ok N t'=>Good s t' 1 d:=by
 unfold setF;by_cases h2:hit s t.a 94=true
 . rw[if_pos h2];obtain⟨b2,l2⟩:=ca_ h2;have g1:Good s t.go 4 d:=h.step l2 (by rw[b2];unfold aut setA;simp) o_ o_ o_;have:=lv_ (n:=s.size+1) (N:=fun _=>false) g1 (.inr (.inl rfl)) o_;cases hr:cx_ s (s.size+1) (fun _=>false) t.go with
   |no t1=>rw[hr]at this;exact this
   |ok x t1=>rw[hr]at this;exact this
 . rw[if_neg h2];have b2:=ec_ (by simpa using h2) o_;exact lv_ h (.inl ⟨rfl,b2⟩) o_
theorem v6_ {s:ByteArray}{t:Sp}{d:Nat}(h:Good s t 8 d):
 match b9_ s t with
 | .no t'=>b6_ s t'.a
 | .ok x t'=>Good s t' 2 d:=by
 unfold b9_;by_cases h1:bv_ s t.a=true
 . rw[if_pos h1];have n1:=h6_.1 h1;have l1:=kj_ h1;have i1:a2_ (ad_ s t.a)=true:=h1;have g1:Good s t.go 9 d:=h.step l1 (by unfold aut cl_;simp[i1]) o_ o_ o_;by_cases h2:hit s (t.a+1) 125=true
   . rw[if_pos h2];obtain⟨b2,l2⟩:=ca_ h2;exact g1.step l2 (by show aut 9 d (ad_ s (t.a+1))=_;rw[b2];unfold aut cl_ a2_;simp) o_ (by show ad_ s (t.a+1)≠45;omega) (by show ad_ s (t.a+1)≠44;omega)
   . rw[if_neg h2];have b2:=ec_ (by simpa using h2) o_;by_cases h3:hit s (t.a+1) 44=true
     . rw[if_pos h3];obtain⟨b3,l3⟩:=ca_ h3;have a3:At s (t.a+1+1) 10 d:=g1.at_.step l3 (by show aut 9 d (ad_ s (t.a+1))=_;rw[b3];unfold aut cl_ a2_;simp) o_;have hb0:∀j,j+1<t.a+1->t.bk=false->BkT s j=false:=fun j hj hb=>g1.no hb j hj
       by_cases h4:hit s (t.a+1+1) 125=true
       . rw[if_pos h4];obtain⟨b4,l4⟩:=ca_ h4;have a4:At s (t.a+1+1+1) 2 d:=a3.step l4 (by rw[b4];unfold aut cl_ a2_;simp) o_;refine⟨a4,h.yes,fun hb j hj=> ?_⟩;have hb':t.bk=false:=hb;simp only[go_a]at hj;by_cases e:j=t.a
         . subst e;unfold BkT;rw[b3,show t.a+2=t.a+1+1 from rfl,b4];simp
         . by_cases e':j=t.a+1
           . subst e';exact BkT.off (by rw[b4];omega) (by rw[b4];omega)
           . exact hb0 j o_ hb'
       . rw[if_neg h4];have b4:=ec_ (by simpa using h4) o_;by_cases h5:bv_ s (t.a+1+1)=true
         . rw[if_pos h5];have n5:=h6_.1 h5;have l5:=kj_ h5;have i5:a2_ (ad_ s (t.a+1+1))=true:=h5;have a5:At s (t.a+1+1+1) 11 d:=a3.step l5 (by unfold aut cl_;simp[i5]) o_;have g5:Good s (bk_ t.a (ad_ s t.a - 48) (ad_ s (t.a+1+1)- 48) t.go.go.go) 11 d:=by
            have hb1:BkT s (t.a+1)=false:=BkT.off (by rw[show t.a+1+1=t.a+2 from rfl]at n5 ⊢;omega) (by rw[show t.a+1+1=t.a+2 from rfl]at n5 ⊢;omega);have hbk:BkT s t.a=decide (ad_ s (t.a+1+1)<ad_ s t.a):=by
             unfold BkT;rw[b3,i1,show t.a+2=t.a+1+1 from rfl];have:(ad_ s (t.a+1+1) !=125)=true:=by simpa using b4
             rw[this];simp[l5]
            unfold bk_;by_cases hlt3:ad_ s (t.a+1+1)- 48<ad_ s t.a - 48
            . rw[if_pos hlt3];refine⟨a5,fun _=> ?_,fun hb=>by simp[Sp.tell]at hb⟩;show BkT s (if t.bk then t.sp else t.a)=true/\∀j,j<(if t.bk then t.sp else t.a)->_
              cases hb:t.bk
              . simp only[Bool.false_eq_true,if_false];exact⟨by rw[hbk];simp;omega,fun j hj=>hb0 j o_ hb⟩
              . simp only[if_true];exact h.yes hb
            . rw[if_neg hlt3];refine⟨a5,h.yes,fun hb j hj=> ?_⟩;have hb':t.bk=false:=hb;simp only[go_a]at hj;by_cases e:j=t.a
              . subst e;rw[hbk];simp;omega
              . by_cases e':j=t.a+1
                . subst e';exact hb1
                . exact hb0 j o_ hb'
           by_cases h6:hit s (t.a+1+1+1) 125=true
           . rw[if_pos h6];obtain⟨b6,l6⟩:=ca_ h6;exact g5.step (by simpa using l6) (by simp only[spanF_a,go_a];rw[b6];unfold aut cl_ a2_;simp) o_ (by simp only[spanF_a,go_a];omega) (by simp only[spanF_a,go_a];omega)
           . rw[if_neg h6];have b6:=ec_ (by simpa using h6) o_;refine b6_.mk g5.at_ (fun _=> ?_) (fun _=> .inl o_);simp only[spanF_a,go_a];unfold aut cl_;simp[b6]
         . rw[if_neg h5];have n5:a2_ (ad_ s (t.a+1+1))=false:=Bool.eq_false_iff.2 h5;refine b6_.mk a3 (fun _=> ?_) (fun _=> .inl o_);unfold aut cl_;simp[n5,b4]
     . rw[if_neg h3];have b3:=ec_ (by simpa using h3) o_;refine b6_.mk g1.at_ (fun _=> ?_) (fun _=> .inl o_);simp only[go_a];unfold aut cl_;simp[b2,b3]
 . rw[if_neg h1];have n1:a2_ (ad_ s t.a)=false:=Bool.eq_false_iff.2 h1;refine b6_.mk h.at_ (fun _=> ?_) (fun _=> .inl o_);unfold aut cl_;simp[n1]
def lw_ (q c:Nat):Prop:=q=1->c≠42/\c≠43/\c≠63/\c≠123
def Sims (s:ByteArray)(k:Nat)(atom:Sp->Res Pat):Prop:=∀t q d,d+k=6->Good s t q d->q<=2->lw_ q (ad_ s t.a)->cs_ s t.a=false->
 match atom t with
 | .no t'=>b6_ s t'.a
 | .ok p t'=>Good s t' 1 d
theorem adt_ {s:ByteArray}{a:Nat}(h:cs_ s a=false):ad_ s a≠124/\ad_ s a≠41/\a<s.size:=by
 unfold cs_ at h;simp at h;exact⟨h.1.2,h.2,o_⟩
theorem vc_ {s:ByteArray}{a:Nat}(h:cs_ s a=true):s.size<=a\/ad_ s a=124\/ad_ s a=41:=by
 unfold cs_ at h;simp at h;omega
theorem n9_ {s:ByteArray}{t:Sp}{q d:Nat}(h:Good s t q d)(hq:q<=2)(hm:lw_ q (ad_ s t.a))(he:cs_ s t.a=false)(hd:ad_ s t.a=40->6<=d):
 match c3_ s t with
 | .no t'=>b6_ s t'.a
 | .ok p t'=>Good s t' 1 d:=by
 obtain⟨e1,e2,hlt⟩:=adt_ he;unfold c3_;by_cases h1:hit s t.a 91=true
 . rw[if_pos h1];obtain⟨b1,l1⟩:=ca_ h1;have g1:Good s t.go 3 d:=h.step l1 (by rw[b1];unfold aut a5_ ai_;rw[if_pos hq];simp) o_ o_ o_;have:=aav_ g1;cases hr:setF s t.go with
   |no t1=>rw[hr]at this;exact this
   |ok x t1=>rw[hr]at this;exact this
 . rw[if_neg h1];have b1:=ec_ (by simpa using h1) o_;by_cases h2:hit s t.a 46=true
   . rw[if_pos h2];obtain⟨b2,l2⟩:=ca_ h2;exact h.step l2 (by rw[b2];unfold aut a5_ ai_;rw[if_pos hq];simp) o_ o_ o_
   . rw[if_neg h2];have b2:=ec_ (by simpa using h2) o_;by_cases h3:bs_ s t.a=true
     . rw[if_pos h3];have n3:=es_.1 h3;have i3:ai_ (ad_ s t.a)=true:=h3;exact h.step hlt (by unfold aut a5_;rw[if_pos hq];simp[i3]) o_ o_ o_
     . rw[if_neg h3];have n3:ai_ (ad_ s t.a)=false:=Bool.eq_false_iff.2 h3;refine b6_.mk h.at_ (fun _=> ?_) (fun e=>o_);unfold aut a5_;rw[if_pos hq,n3];generalize ad_ s t.a=c at*;have x1:(c==46)=false:=by simpa using b2
       have x2:(c==91)=false:=by simpa using b1
       have x3:(c==40&&decide (d<6))=false:=by
        by_cases hc:c=40
        . have:=hd hc;simp;omega
        . simp[hc]
       have x4:(c==41)=false:=by simpa using e2
       have x5:(c==124)=false:=by simpa using e1
       have x6:(q==1&&(c==42||c==43||c==63))=false:=by
        by_cases hq1:q=1
        . have:=hm hq1;simp;intro _;omega
        . simp[hq1]
       have x7:(q==1&&c==123)=false:=by
        by_cases hq1:q=1
        . have:=hm hq1;simp;intro _;omega
        . simp[hq1]
       simp[x1,x2,x3,x4,x5,x6,x7]
theorem x4_ {s:ByteArray}{k:Nat}{atom:Sp->Res Pat}(ha:Sims s k atom){t:Sp}{q d:Nat}(hd:d+k=6)(h:Good s t q d)(hq:q<=2)(hm:lw_ q (ad_ s t.a))(he:cs_ s t.a=false):
 match ep_ s atom t with
 | .no t'=>b6_ s t'.a
 | .ok p t'=>∃q',Good s t' q' d/\q'<=2/\lw_ q' (ad_ s t'.a):=by
 have h0:=ha t q d hd h hq hm he;unfold ep_;cases hr:atom t with
 |no t1=>rw[hr]at h0;exact h0
 |ok p t1=>
  rw[hr]at h0;have g0:Good s t1 1 d:=h0;simp only;by_cases h1:hit s t1.a 42=true
  . rw[if_pos h1];obtain⟨b1,l1⟩:=ca_ h1;exact⟨2,g0.step l1 (by rw[b1];unfold aut a5_ ai_;simp) o_ o_ o_,o_,fun h=>o_⟩
  . rw[if_neg h1];by_cases h2:hit s t1.a 43=true
    . rw[if_pos h2];obtain⟨b1,l1⟩:=ca_ h2;exact⟨2,g0.step l1 (by rw[b1];unfold aut a5_ ai_;simp) o_ o_ o_,o_,fun h=>o_⟩
    . rw[if_neg h2];by_cases h3:hit s t1.a 63=true
      . rw[if_pos h3];obtain⟨b1,l1⟩:=ca_ h3;exact⟨2,g0.step l1 (by rw[b1];unfold aut a5_ ai_;simp) o_ o_ o_,o_,fun h=>o_⟩
      . rw[if_neg h3];by_cases h4:hit s t1.a 123=true
        . rw[if_pos h4];obtain⟨b1,l1⟩:=ca_ h4;have g1:Good s t1.go 8 d:=g0.step l1 (by rw[b1];unfold aut a5_ ai_;simp) o_ o_ o_;have:=v6_ g1;cases hc:b9_ s t1.go with
          |no t2=>rw[hc]at this;exact this
          |ok x t2=>
           obtain⟨lo,co,en⟩:=x;rw[hc]at this;exact⟨2,this,o_,fun h=>o_⟩
        . rw[if_neg h4];exact⟨1,g0,o_,fun _=>⟨ec_ (by simpa using h1) o_,ec_ (by simpa using h2) o_,ec_ (by simpa using h3) o_,ec_ (by simpa using h4) o_⟩⟩
theorem rv_ {s:ByteArray}{k B:Nat}{atom:Sp->Res Pat}(ha:Sims s k atom)(hg:Goes s B atom){n:Nat}{p:Pat}{t:Sp}{q d:Nat}(hd:d+k=6)(h:Good s t q d)(hq:q<=2)(hm:lw_ q (ad_ s t.a))(hn:s.size - t.a<n):
 match seqF s atom n p t with
 | .no t'=>b6_ s t'.a
 | .ok p' t'=>∃q',Good s t' q' d/\q'<=2/\cs_ s t'.a=true:=by
 induction n generalizing p t q with
 |zero=>omega
 |succ n ih=>
  simp only[seqF];by_cases he:cs_ s t.a=true
  . rw[if_pos he];exact⟨q,h,hq,he⟩
  . rw[if_neg he];have hi:=x4_ ha hd h hq hm (by simpa using he);cases hr:ep_ s atom t with
    |no t1=>rw[hr]at hi;exact hi
    |ok p1 t1=>
     rw[hr]at hi;obtain⟨q1,g1,hq1,hm1⟩:=hi;have hgo:=h4_ hg _ _ _ hr;exact ih g1 hq1 hm1 o_
theorem rw_ {s:ByteArray}{k B:Nat}{atom:Sp->Res Pat}(ha:Sims s k atom)(hg:Goes s B atom){n:Nat}{p:Pat}{t:Sp}{q d:Nat}(hd:d+k=6)(h:Good s t q d)(hq:q<=2)(he:cs_ s t.a=true)(hn:s.size - t.a<n):
 match d7_ s atom n p t with
 | .no t'=>b6_ s t'.a
 | .ok p' t'=>∃q',Good s t' q' d/\q'<=2/\cs_ s t'.a=true/\ad_ s t'.a≠124:=by
 induction n generalizing p t q with
 |zero=>omega
 |succ n ih=>
  simp only[d7_];by_cases h1:hit s t.a 124=true
  . rw[if_pos h1];obtain⟨b1,l1⟩:=ca_ h1;have g1:Good s t.go 0 d:=h.step l1 (by rw[b1];unfold aut a5_ ai_;rw[if_pos hq];simp) o_ o_ o_;have hs:=rv_ (n:=s.size+1) (p:= .none) ha hg hd g1 o_ (fun h=>o_) o_;cases hr:seqF s atom (s.size+1) .none t.go with
    |no t1=>rw[hr]at hs;exact hs
    |ok p1 t1=>
     rw[hr]at hs;obtain⟨q1,g2,hq1,he1⟩:=hs;have hgo:=fz_ hg z_ hr;simp only[go_a]at hgo;exact ih g2 hq1 he1 o_
  . rw[if_neg h1];exact⟨q,h,hq,he,ec_ (by simpa using h1) o_⟩
theorem ko_ {s:ByteArray}{k B:Nat}{atom:Sp->Res Pat}(ha:Sims s k atom)(hg:Goes s B atom){t:Sp}{d:Nat}(hd:d+k=6)(h:Good s t 0 d):
 match patF s atom t with
 | .no t'=>b6_ s t'.a
 | .ok p' t'=>∃q',Good s t' q' d/\q'<=2/\cs_ s t'.a=true/\ad_ s t'.a≠124:=by
 unfold patF;have hs:=rv_ (n:=s.size+1) (p:= .none) ha hg hd h o_ (fun h=>o_) o_;cases hr:seqF s atom (s.size+1) .none t with
 |no t1=>rw[hr]at hs;exact hs
 |ok p1 t1=>
  rw[hr]at hs;obtain⟨q1,g2,hq1,he1⟩:=hs;exact rw_ ha hg hd g2 hq1 he1 o_
theorem lx_ (s:ByteArray)(k:Nat):Sims s k (by_ s k):=by
 induction k with
 |zero=>
  intro t q d hd h hq hm he;exact n9_ h hq hm he (fun _=>o_)
 |succ k ih=>
  intro t q d hd h hq hm he;simp only[by_];by_cases h1:hit s t.a 40=true
  . rw[if_pos h1];obtain⟨b1,l1⟩:=ca_ h1;have g1:Good s t.go 0 (d+1):=h.step l1 (by rw[b1];unfold aut a5_ ai_;rw[if_pos hq];simp;omega) o_ o_ o_;have hs:=ko_ ih (do_ k) o_ g1;cases hr:patF s (by_ s k) t.go with
    |no t1=>rw[hr]at hs;exact hs
    |ok p1 t1=>
     rw[hr]at hs;obtain⟨q1,g2,hq1,he1,hb⟩:=hs;simp only;by_cases h2:hit s t1.a 41=true
     . rw[if_pos h2];obtain⟨b2,l2⟩:=ca_ h2;exact g2.step l2 (by rw[b2];unfold aut a5_ ai_;rw[if_pos hq1];simp) o_ o_ o_
     . rw[if_neg h2];have b2:=ec_ (by simpa using h2) o_;rcases vc_ he1 with h3|h3|h3
       . exact b6_.mk g2.at_ (fun h=>o_) (fun _=> .inr o_)
       . exact absurd h3 hb
       . exact absurd h3 b2
  . rw[if_neg h1];exact n9_ h hq hm he (fun e=>absurd e (ec_ (by simpa using h1) o_))
def co_ (s:ByteArray):Res Pat:=patF s (by_ s 6) ⟨0,false,0⟩
theorem kp_ (s:ByteArray):Good s ⟨0,false,0⟩ 0 0:=⟨.zero,fun h=>by simp at h,fun _ j hj=>by simp at hj⟩
theorem aaw_ {s:ByteArray}{t:Sp}(h:co_ s= .no t):b6_ s t.a:=by
 have:=ko_ (lx_ s 6) (do_ 6) o_ (kp_ s);rw[show patF s (by_ s 6) ⟨0,false,0⟩= .no t from h]at this;exact this
theorem t4_ {s:ByteArray}{p:Pat}{t:Sp}(h:co_ s= .ok p t)(hne:t.a≠s.size):b6_ s t.a:=by
 have:=ko_ (lx_ s 6) (do_ 6) o_ (kp_ s);rw[show patF s (by_ s 6) ⟨0,false,0⟩= .ok p t from h]at this;obtain⟨q,g,hq,he,hb⟩:=this;have hle:=g.le;refine b6_.mk g.at_ (fun _=> ?_) (fun e=>absurd e hne);rcases vc_ he with h3|h3|h3
 . omega
 . exact absurd h3 hb
 . rw[h3];unfold aut a5_ ai_;rw[if_pos hq];simp
theorem jt_ {s:ByteArray}{p:Pat}{t:Sp}(h:co_ s= .ok p t)(he:t.a=s.size):∃q,Good s t q 0/\q<=2:=by
 have:=ko_ (lx_ s 6) (do_ 6) o_ (kp_ s);rw[show patF s (by_ s 6) ⟨0,false,0⟩= .ok p t from h]at this;obtain⟨q,g,hq,_,_⟩:=this;exact⟨q,g,hq⟩
theorem a6_ (c:Nat)(w:World)(hc:c<256):Calls prog 146 #[.int .u8 (c:Int)] w fun e w'=>e= .returned (.bool (ai_ c))/\w=w':=by
 by_cases h1:97<=c
 . by_cases h2:c<=104
   . have e1:ai_ c=true:=by unfold ai_;simp[h1,h2]
     rw[e1];have t1:(97:Int)<=(c:Int):=o_;have t2:(c:Int)<=104:=o_;clear h1 h2 e1;go_enter func146,ntmps146;go_wp2_with fail;go_ret;exact⟨rfl,rfl⟩
   . have e1:ai_ c=false:=by unfold ai_;simp[h1,h2]
     rw[e1];have t1:(97:Int)<=(c:Int):=o_;have t2:¬(c:Int)<=104:=o_;clear h1 h2 e1;go_enter func146,ntmps146;go_wp2_with fail;go_ret;exact⟨rfl,rfl⟩
 . have e1:ai_ c=false:=by unfold ai_;simp[h1]
   rw[e1];have t1:¬(97:Int)<=(c:Int):=o_;clear h1 e1;go_enter func146,ntmps146;go_wp2_with fail;go_ret;exact⟨rfl,rfl⟩
theorem e5_ (c:Nat)(w:World)(hc:c<256):Calls prog 110 #[.int .u8 (c:Int)] w fun e w'=>e= .returned (.bool (a2_ c))/\w=w':=by
 by_cases h1:48<=c
 . by_cases h2:c<=57
   . have e1:a2_ c=true:=by unfold a2_;simp[h1,h2]
     rw[e1];have t1:(48:Int)<=(c:Int):=o_;have t2:(c:Int)<=57:=o_;clear h1 h2 e1;go_enter func110,ntmps110;go_wp2_with fail;go_ret;exact⟨rfl,rfl⟩
   . have e1:a2_ c=false:=by unfold a2_;simp[h1,h2]
     rw[e1];have t1:(48:Int)<=(c:Int):=o_;have t2:¬(c:Int)<=57:=o_;clear h1 h2 e1;go_enter func110,ntmps110;go_wp2_with fail;go_ret;exact⟨rfl,rfl⟩
 . have e1:a2_ c=false:=by unfold a2_;simp[h1]
   rw[e1];have t1:¬(48:Int)<=(c:Int):=o_;clear h1 e1;go_enter func110,ntmps110;go_wp2_with fail;go_ret;exact⟨rfl,rfl⟩
theorem aax_ (q d c:Nat)(w:World)(hc:c<256)(hd:d<=1000000)(hq:q<=12):
 Calls prog 107 #[.int .i64 (q:Int),.int .i64 (d:Int),.int .u8 (c:Int)] w fun e w'=>e= .returned (.tuple #[.int .i64 ((a5_ q d c).1:Int),.int .i64 ((a5_ q d c).2:Int)])/\w=w':=by
 by_cases hn:97<=c/\c<=104
 . have hn1:ai_ c=true:=es_.2 hn;have e1:a5_ q d c=(1,d):=by unfold a5_;simp[hn1]
   rw[e1];have HC:=a6_ c w hc;rw[hn1]at HC;clear e1 hn1 hn;go_enter func107,ntmps107;go_wp2_with (go_at_call 146;refine HC.mono ?_;rintro e w' ⟨rfl,rfl⟩)
   all_goals
    go_ret2;exact⟨i_,rfl⟩
 have hn1:ai_ c=false:=ru_.2 o_;by_cases h46:c=46
 . subst h46;have e1:a5_ q d 46=(1,d):=by unfold a5_ ai_;simp
   rw[e1];have HC:=a6_ 46 w o_;rw[show ai_ 46=false from rfl]at HC;simp only[show((46:Nat):Int)=46 from rfl]at HC ⊢;clear e1 hn1 hn;go_enter func107,ntmps107;go_wp2_with (go_at_call 146;refine HC.mono ?_;rintro e w' ⟨rfl,rfl⟩)
   all_goals
    go_ret2;exact⟨by first|rfl|simp|(simp;omega),rfl⟩
 by_cases h91:c=91
 . subst h91;have e1:a5_ q d 91=(3,d):=by unfold a5_ ai_;simp
   rw[e1];have HC:=a6_ 91 w o_;rw[show ai_ 91=false from rfl]at HC;simp only[show((91:Nat):Int)=91 from rfl]at HC ⊢;clear e1 hn1 hn;go_enter func107,ntmps107;go_wp2_with (go_at_call 146;refine HC.mono ?_;rintro e w' ⟨rfl,rfl⟩)
   all_goals
    go_ret2;exact⟨by first|rfl|simp|(simp;omega),rfl⟩
 by_cases h40:c=40
 . subst h40;by_cases hd6:d<6
   . have hd7:(d:Int)<6:=o_;have e1:a5_ q d 40=(0,d+1):=by unfold a5_ ai_;simp[hd6]
     rw[e1];have HC:=a6_ 40 w o_;rw[show ai_ 40=false from rfl]at HC;simp only[show((40:Nat):Int)=40 from rfl]at HC ⊢;clear e1 hn1 hn;go_enter func107,ntmps107;go_wp2_with (go_at_call 146;refine HC.mono ?_;rintro e w' ⟨rfl,rfl⟩)
     all_goals
      go_ret2;exact⟨by first|rfl|simp|(simp;omega),rfl⟩
   . have hd7:¬(d:Int)<6:=o_;have e1:a5_ q d 40=(12,d):=by unfold a5_ ai_;simp[hd6]
     rw[e1];have HC:=a6_ 40 w o_;rw[show ai_ 40=false from rfl]at HC;simp only[show((40:Nat):Int)=40 from rfl]at HC ⊢;clear e1 hn1 hn;go_enter func107,ntmps107;go_wp2_with (go_at_call 146;refine HC.mono ?_;rintro e w' ⟨rfl,rfl⟩)
     all_goals
      go_ret2;exact⟨by first|rfl|simp|(simp;omega),rfl⟩
 by_cases h41:c=41
 . subst h41;by_cases hd6:0<d
   . have hd7:(0:Int)<(d:Int):=o_;obtain⟨d,rfl⟩:∃m,d=m+1:=⟨d - 1,o_⟩;have e1:a5_ q (d+1) 41=(1,d):=by unfold a5_ ai_;simp
     rw[e1];have HC:=a6_ 41 w o_;rw[show ai_ 41=false from rfl]at HC;simp only[show((41:Nat):Int)=41 from rfl]at HC ⊢;clear e1 hn1 hn;go_enter func107,ntmps107;go_wp2_with (go_at_call 146;refine HC.mono ?_;rintro e w' ⟨rfl,rfl⟩)
     all_goals
      go_ret2;exact⟨by first|rfl|simp|(simp;omega),rfl⟩
   . have hd7:¬(0:Int)<(d:Int):=o_;have e1:a5_ q d 41=(12,d):=by unfold a5_ ai_;simp[hd6]
     rw[e1];have HC:=a6_ 41 w o_;rw[show ai_ 41=false from rfl]at HC;simp only[show((41:Nat):Int)=41 from rfl]at HC ⊢;clear e1 hn1 hn;go_enter func107,ntmps107;go_wp2_with (go_at_call 146;refine HC.mono ?_;rintro e w' ⟨rfl,rfl⟩)
     all_goals
      go_ret2;exact⟨by first|rfl|simp|(simp;omega),rfl⟩
 by_cases h124:c=124
 . subst h124;have e1:a5_ q d 124=(0,d):=by unfold a5_ ai_;simp
   rw[e1];have HC:=a6_ 124 w o_;rw[show ai_ 124=false from rfl]at HC;simp only[show((124:Nat):Int)=124 from rfl]at HC ⊢;clear e1 hn1 hn;go_enter func107,ntmps107;go_wp2_with (go_at_call 146;refine HC.mono ?_;rintro e w' ⟨rfl,rfl⟩)
   all_goals
    go_ret2;exact⟨by first|rfl|simp|(simp;omega),rfl⟩
 by_cases h42:c=42
 . subst h42;by_cases hq1:q=1
   . subst hq1;have e1:a5_ 1 d 42=(2,d):=by unfold a5_ ai_;simp
     rw[e1];have HC:=a6_ 42 w o_;rw[show ai_ 42=false from rfl]at HC;simp only[show((42:Nat):Int)=42 from rfl]at HC ⊢;clear e1 hn1 hn;go_enter func107,ntmps107;go_wp2_with (go_at_call 146;refine HC.mono ?_;rintro e w' ⟨rfl,rfl⟩)
     all_goals
      go_ret2;exact⟨by first|rfl|simp|(simp;omega),rfl⟩
   . have hq2:((q:Int)==1)=false:=s_;have e1:a5_ q d 42=(12,d):=by unfold a5_ ai_;simp[hq1]
     rw[e1];have HC:=a6_ 42 w o_;rw[show ai_ 42=false from rfl]at HC;simp only[show((42:Nat):Int)=42 from rfl]at HC ⊢;clear e1 hn1 hn;go_enter func107,ntmps107;go_wp2_with (go_at_call 146;refine HC.mono ?_;rintro e w' ⟨rfl,rfl⟩)
     all_goals
      go_ret2;exact⟨by first|rfl|simp|(simp;omega),rfl⟩
 by_cases h43:c=43
 . subst h43;by_cases hq1:q=1
   . subst hq1;have e1:a5_ 1 d 43=(2,d):=by unfold a5_ ai_;simp
     rw[e1];have HC:=a6_ 43 w o_;rw[show ai_ 43=false from rfl]at HC;simp only[show((43:Nat):Int)=43 from rfl]at HC ⊢;clear e1 hn1 hn;go_enter func107,ntmps107;go_wp2_with (go_at_call 146;refine HC.mono ?_;rintro e w' ⟨rfl,rfl⟩)
     all_goals
      go_ret2;exact⟨by first|rfl|simp|(simp;omega),rfl⟩
   . have hq2:((q:Int)==1)=false:=s_;have e1:a5_ q d 43=(12,d):=by unfold a5_ ai_;simp[hq1]
     rw[e1];have HC:=a6_ 43 w o_;rw[show ai_ 43=false from rfl]at HC;simp only[show((43:Nat):Int)=43 from rfl]at HC ⊢;clear e1 hn1 hn;go_enter func107,ntmps107;go_wp2_with (go_at_call 146;refine HC.mono ?_;rintro e w' ⟨rfl,rfl⟩)
     all_goals
      go_ret2;exact⟨by first|rfl|simp|(simp;omega),rfl⟩
 by_cases h63:c=63
 . subst h63;by_cases hq1:q=1
   . subst hq1;have e1:a5_ 1 d 63=(2,d):=by unfold a5_ ai_;simp
     rw[e1];have HC:=a6_ 63 w o_;rw[show ai_ 63=false from rfl]at HC;simp only[show((63:Nat):Int)=63 from rfl]at HC ⊢;clear e1 hn1 hn;go_enter func107,ntmps107;go_wp2_with (go_at_call 146;refine HC.mono ?_;rintro e w' ⟨rfl,rfl⟩)
     all_goals
      go_ret2;exact⟨by first|rfl|simp|(simp;omega),rfl⟩
   . have hq2:((q:Int)==1)=false:=s_;have e1:a5_ q d 63=(12,d):=by unfold a5_ ai_;simp[hq1]
     rw[e1];have HC:=a6_ 63 w o_;rw[show ai_ 63=false from rfl]at HC;simp only[show((63:Nat):Int)=63 from rfl]at HC ⊢;clear e1 hn1 hn;go_enter func107,ntmps107;go_wp2_with (go_at_call 146;refine HC.mono ?_;rintro e w' ⟨rfl,rfl⟩)
     all_goals
      go_ret2;exact⟨by first|rfl|simp|(simp;omega),rfl⟩
 by_cases h123:c=123
 . subst h123;by_cases hq1:q=1
   . subst hq1;have e1:a5_ 1 d 123=(8,d):=by unfold a5_ ai_;simp
     rw[e1];have HC:=a6_ 123 w o_;rw[show ai_ 123=false from rfl]at HC;simp only[show((123:Nat):Int)=123 from rfl]at HC ⊢;clear e1 hn1 hn;go_enter func107,ntmps107;go_wp2_with (go_at_call 146;refine HC.mono ?_;rintro e w' ⟨rfl,rfl⟩)
     all_goals
      go_ret2;exact⟨by first|rfl|simp|(simp;omega),rfl⟩
   . have hq2:((q:Int)==1)=false:=s_;have e1:a5_ q d 123=(12,d):=by unfold a5_ ai_;simp[hq1]
     rw[e1];have HC:=a6_ 123 w o_;rw[show ai_ 123=false from rfl]at HC;simp only[show((123:Nat):Int)=123 from rfl]at HC ⊢;clear e1 hn1 hn;go_enter func107,ntmps107;go_wp2_with (go_at_call 146;refine HC.mono ?_;rintro e w' ⟨rfl,rfl⟩)
     all_goals
      go_ret2;exact⟨by first|rfl|simp|(simp;omega),rfl⟩
 have e1:a5_ q d c=(12,d):=by
  unfold a5_;rw[hn1];simp[h46,h91,h40,h41,h124,h42,h43,h63,h123]
 rw[e1];have HC:=a6_ c w hc;rw[hn1]at HC;have t46:((c:Int)==46)=false:=s_;have t91:((c:Int)==91)=false:=s_;have t40:((c:Int)==40)=false:=s_;have t41:((c:Int)==41)=false:=s_;have t124:((c:Int)==124)=false:=s_;have t42:((c:Int)==42)=false:=s_;have t43:((c:Int)==43)=false:=s_;have t63:((c:Int)==63)=false:=s_;have t123:((c:Int)==123)=false:=s_;clear e1 hn1 hn h46 h91 h40 h41 h124 h42 h43 h63 h123;by_cases hq1:q=1
 . subst hq1;go_enter func107,ntmps107;go_wp2_with (go_at_call 146;refine HC.mono ?_;rintro e w' ⟨rfl,rfl⟩)
   all_goals
    go_ret2;exact⟨i_,rfl⟩
 . have hq2:((q:Int)==1)=false:=s_;go_enter func107,ntmps107;go_wp2_with (go_at_call 146;refine HC.mono ?_;rintro e w' ⟨rfl,rfl⟩)
   all_goals
    go_ret2;exact⟨i_,rfl⟩
theorem adu_ (q c:Nat)(w:World)(hc:c<256)(hq:q<=12):
 Calls prog 108 #[.int .i64 (q:Int),.int .u8 (c:Int)] w fun e w'=>e= .returned (.int .i64 (setA q c:Int))/\w=w':=by
 by_cases hn:97<=c/\c<=104
 . have hn1:ai_ c=true:=es_.2 hn;have HC:=a6_ c w hc;rw[hn1]at HC;have t94:((c:Int)==94)=false:=s_;have h94:(c==94)=false:=s_;by_cases hq6:q=6
   . subst hq6;have e1:setA 6 c=7:=by unfold setA;simp[hn1,h94]
     rw[e1];clear e1 hn1 hn h94;go_enter func108,ntmps108;go_wp2_with (go_at_call 146;refine HC.mono ?_;rintro e w' ⟨rfl,rfl⟩)
     all_goals
      go_ret;exact⟨by first|rfl|simp,rfl⟩
   . have hq7:((q:Int)==6)=false:=s_;have e1:setA q c=5:=by unfold setA;simp[hn1,h94,hq6]
     rw[e1];clear e1 hn1 hn h94 hq6;go_enter func108,ntmps108;go_wp2_with (go_at_call 146;refine HC.mono ?_;rintro e w' ⟨rfl,rfl⟩)
     all_goals
      go_ret;exact⟨by first|rfl|simp,rfl⟩
 have hn1:ai_ c=false:=ru_.2 o_;by_cases h94:c=94
 . subst h94;by_cases hq3:q=3
   . subst hq3;have e1:setA 3 94=4:=by unfold setA ai_;simp
     rw[e1];have HC:=a6_ 94 w o_;rw[show ai_ 94=false from rfl]at HC;simp only[show((94:Nat):Int)=94 from rfl]at HC ⊢;clear e1 hn1 hn;go_enter func108,ntmps108;go_wp2_with (go_at_call 146;refine HC.mono ?_;rintro e w' ⟨rfl,rfl⟩)
     all_goals
      go_ret;exact⟨by first|rfl|simp,rfl⟩
   . have hq4:((q:Int)==3)=false:=s_;have e1:setA q 94=12:=by unfold setA ai_;simp[hq3]
     rw[e1];have HC:=a6_ 94 w o_;rw[show ai_ 94=false from rfl]at HC;simp only[show((94:Nat):Int)=94 from rfl]at HC ⊢;clear e1 hn1 hn;go_enter func108,ntmps108;go_wp2_with (go_at_call 146;refine HC.mono ?_;rintro e w' ⟨rfl,rfl⟩)
     all_goals
      go_ret;exact⟨by first|rfl|simp,rfl⟩
 by_cases h45:c=45
 . subst h45;by_cases hq3:q=5
   . subst hq3;have e1:setA 5 45=6:=by unfold setA ai_;simp
     rw[e1];have HC:=a6_ 45 w o_;rw[show ai_ 45=false from rfl]at HC;simp only[show((45:Nat):Int)=45 from rfl]at HC ⊢;clear e1 hn1 hn;go_enter func108,ntmps108;go_wp2_with (go_at_call 146;refine HC.mono ?_;rintro e w' ⟨rfl,rfl⟩)
     all_goals
      go_ret;exact⟨by first|rfl|simp,rfl⟩
   . have hq4:((q:Int)==5)=false:=s_;have e1:setA q 45=12:=by unfold setA ai_;simp[hq3]
     rw[e1];have HC:=a6_ 45 w o_;rw[show ai_ 45=false from rfl]at HC;simp only[show((45:Nat):Int)=45 from rfl]at HC ⊢;clear e1 hn1 hn;go_enter func108,ntmps108;go_wp2_with (go_at_call 146;refine HC.mono ?_;rintro e w' ⟨rfl,rfl⟩)
     all_goals
      go_ret;exact⟨by first|rfl|simp,rfl⟩
 by_cases h93:c=93
 . subst h93;by_cases hq3:q=5
   . subst hq3;have e1:setA 5 93=1:=by unfold setA ai_;simp
     rw[e1];have HC:=a6_ 93 w o_;rw[show ai_ 93=false from rfl]at HC;simp only[show((93:Nat):Int)=93 from rfl]at HC ⊢;clear e1 hn1 hn;go_enter func108,ntmps108;go_wp2_with (go_at_call 146;refine HC.mono ?_;rintro e w' ⟨rfl,rfl⟩)
     all_goals
      go_ret;exact⟨by first|rfl|simp,rfl⟩
   . have hq4:((q:Int)==5)=false:=s_;by_cases hq7:q=7
     . subst hq7;have e1:setA 7 93=1:=by unfold setA ai_;simp
       rw[e1];have HC:=a6_ 93 w o_;rw[show ai_ 93=false from rfl]at HC;simp only[show((93:Nat):Int)=93 from rfl]at HC ⊢;clear e1 hn1 hn hq3;go_enter func108,ntmps108;go_wp2_with (go_at_call 146;refine HC.mono ?_;rintro e w' ⟨rfl,rfl⟩)
       all_goals
        go_ret;exact⟨by first|rfl|simp,rfl⟩
     . have hq8:((q:Int)==7)=false:=s_;have e1:setA q 93=12:=by unfold setA ai_;simp[hq3,hq7]
       rw[e1];have HC:=a6_ 93 w o_;rw[show ai_ 93=false from rfl]at HC;simp only[show((93:Nat):Int)=93 from rfl]at HC ⊢;clear e1 hn1 hn;go_enter func108,ntmps108;go_wp2_with (go_at_call 146;refine HC.mono ?_;rintro e w' ⟨rfl,rfl⟩)
       all_goals
        go_ret;exact⟨by first|rfl|simp,rfl⟩
 have e1:setA q c=12:=by
  unfold setA;rw[hn1];simp[h94,h45,h93]
 rw[e1];have HC:=a6_ c w hc;rw[hn1]at HC;have t94:((c:Int)==94)=false:=s_;have t45:((c:Int)==45)=false:=s_;have t93:((c:Int)==93)=false:=s_;clear e1 hn1 hn h94 h45 h93;go_enter func108,ntmps108;go_wp2_with (go_at_call 146;refine HC.mono ?_;rintro e w' ⟨rfl,rfl⟩)
 all_goals
  go_ret;exact⟨by first|rfl|simp,rfl⟩
theorem aay_ (q c:Nat)(w:World)(hc:c<256)(hq:q<=12):
 Calls prog 109 #[.int .i64 (q:Int),.int .u8 (c:Int)] w fun e w'=>e= .returned (.int .i64 (cl_ q c:Int))/\w=w':=by
 by_cases hn:48<=c/\c<=57
 . have hn1:a2_ c=true:=h6_.2 hn;have HC:=e5_ c w hc;rw[hn1]at HC;have t44:((c:Int)==44)=false:=s_;have t125:((c:Int)==125)=false:=s_;have h44:(c==44)=false:=s_;have h125:(c==125)=false:=s_;by_cases hq8:q=8
   . subst hq8;have e1:cl_ 8 c=9:=by unfold cl_;simp[hn1]
     rw[e1];clear e1 hn1 hn h44 h125;go_enter func109,ntmps109;go_wp2_with (go_at_call 110;refine HC.mono ?_;rintro e w' ⟨rfl,rfl⟩)
     all_goals
      go_ret;exact⟨by first|rfl|simp,rfl⟩
   . have hq9:((q:Int)==8)=false:=s_;by_cases hq10:q=10
     . subst hq10;have e1:cl_ 10 c=11:=by unfold cl_;simp[hn1]
       rw[e1];clear e1 hn1 hn h44 h125 hq8;go_enter func109,ntmps109;go_wp2_with (go_at_call 110;refine HC.mono ?_;rintro e w' ⟨rfl,rfl⟩)
       all_goals
        go_ret;exact⟨by first|rfl|simp,rfl⟩
     . have hq11:((q:Int)==10)=false:=s_;have e1:cl_ q c=12:=by unfold cl_;simp[hn1,hq8,hq10,h44,h125]
       rw[e1];clear e1 hn1 hn h44 h125 hq8 hq10;go_enter func109,ntmps109;go_wp2_with (go_at_call 110;refine HC.mono ?_;rintro e w' ⟨rfl,rfl⟩)
       all_goals
        go_ret;exact⟨by first|rfl|simp,rfl⟩
 have hn1:a2_ c=false:=pz_.2 o_;by_cases h44:c=44
 . subst h44;by_cases hq3:q=9
   . subst hq3;have e1:cl_ 9 44=10:=by unfold cl_ a2_;simp
     rw[e1];have HC:=e5_ 44 w o_;rw[show a2_ 44=false from rfl]at HC;simp only[show((44:Nat):Int)=44 from rfl]at HC ⊢;clear e1 hn1 hn;go_enter func109,ntmps109;go_wp2_with (go_at_call 110;refine HC.mono ?_;rintro e w' ⟨rfl,rfl⟩)
     all_goals
      go_ret;exact⟨by first|rfl|simp,rfl⟩
   . have hq4:((q:Int)==9)=false:=s_;have e1:cl_ q 44=12:=by unfold cl_ a2_;simp[hq3]
     rw[e1];have HC:=e5_ 44 w o_;rw[show a2_ 44=false from rfl]at HC;simp only[show((44:Nat):Int)=44 from rfl]at HC ⊢;clear e1 hn1 hn;go_enter func109,ntmps109;go_wp2_with (go_at_call 110;refine HC.mono ?_;rintro e w' ⟨rfl,rfl⟩)
     all_goals
      go_ret;exact⟨by first|rfl|simp,rfl⟩
 by_cases h125:c=125
 . subst h125;by_cases hq3:q=8
   . subst hq3;have e1:cl_ 8 125=12:=by unfold cl_ a2_;simp
     rw[e1];have HC:=e5_ 125 w o_;rw[show a2_ 125=false from rfl]at HC;simp only[show((125:Nat):Int)=125 from rfl]at HC ⊢;clear e1 hn1 hn;go_enter func109,ntmps109;go_wp2_with (go_at_call 110;refine HC.mono ?_;rintro e w' ⟨rfl,rfl⟩)
     all_goals
      go_ret;exact⟨by first|rfl|simp,rfl⟩
   . have hq4:((q:Int) !=8)=true:=s_;have e1:cl_ q 125=2:=by unfold cl_ a2_;simp[hq3]
     rw[e1];have HC:=e5_ 125 w o_;rw[show a2_ 125=false from rfl]at HC;simp only[show((125:Nat):Int)=125 from rfl]at HC ⊢;clear e1 hn1 hn;go_enter func109,ntmps109;go_wp2_with (go_at_call 110;refine HC.mono ?_;rintro e w' ⟨rfl,rfl⟩)
     all_goals
      go_ret;exact⟨by first|rfl|simp,rfl⟩
 have e1:cl_ q c=12:=by
  unfold cl_;rw[hn1];simp[h44,h125]
 rw[e1];have HC:=e5_ c w hc;rw[hn1]at HC;have t44:((c:Int)==44)=false:=s_;have t125:((c:Int)==125)=false:=s_;clear e1 hn1 hn h44 h125;go_enter func109,ntmps109;go_wp2_with (go_at_call 110;refine HC.mono ?_;rintro e w' ⟨rfl,rfl⟩)
 all_goals
  go_ret;exact⟨by first|rfl|simp,rfl⟩
end Go.Proofs.YtpngikmcjkjdaaaGreatDoor
