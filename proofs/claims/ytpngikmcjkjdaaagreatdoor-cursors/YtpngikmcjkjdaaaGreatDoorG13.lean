import Derived.Test.YtpngikmcjkjdaaaGreatDoorG0
import Derived.Test.YtpngikmcjkjdaaaGreatDoorG11
import Derived.Test.YtpngikmcjkjdaaaGreatDoorG12
import Derived.Test.YtpngikmcjkjdaaaGreatDoorG2
import Derived.Test.YtpngikmcjkjdaaaGreatDoorG5
set_option linter.unusedVariables false
set_option linter.unusedSimpArgs false
set_option maxRecDepth 20000
set_option maxHeartbeats 80000000
namespace Go.Proofs.YtpngikmcjkjdaaaGreatDoor
open Go.RowKit Tryz
theorem pu_ {B B' rd:Nat->Nat->Prop}{L L':Nat->Prop}(hB:∀p q,B p q↔B' p q)(hL:∀p,L p↔L' p)(p:Nat)(x:List Nat):Way B rd L p x↔Way B' rd L' p x:=
 ⟨Way.mono (fun p q h=>(hB p q).1 h) (fun p h=>(hL p).1 h),Way.mono (fun p q h=>(hB p q).2 h) (fun p h=>(hL p).2 h)⟩
theorem gu_ {rd:Nat->Nat->Prop}{s t:Str rd}(he:s.e↔t.e)(hF:∀p,s.F p↔t.F p)(hL:∀p,s.L p↔t.L p)(hB:∀p q,s.B p q↔t.B p q)(x:List Nat):s.acc x↔t.acc x:=by
 unfold Str.acc;rw[he];constructor
 . rintro(h|⟨p,hp,hw⟩)
   . exact .inl h
   . exact .inr ⟨p,(hF p).1 hp,(pu_ hB hL p x).1 hw⟩
 . rintro(h|⟨p,hp,hw⟩)
   . exact .inl h
   . exact .inr ⟨p,(hF p).2 hp,(pu_ hB hL p x).2 hw⟩
def rdB (rdr:Nat->Nat)(p c:Nat):Prop:=(rdr c).testBit p=true
def bStr (rdr beh:Nat->Nat)(lo hi:Nat)(e:Bool)(F L:Nat):Str (rdB rdr):=
 ⟨lo,hi,e=true,fun p=>F.testBit p=true,fun p=>L.testBit p=true,fun p q=>(lo<=p/\p<hi)/\(beh p).testBit q=true⟩
structure a4_ (rdr beh:Nat->Nat)(lo hi:Nat)(e:Bool)(F L:Nat)(l:List Nat->Prop):Prop where
 le:lo<=hi
 fi:∀p,F.testBit p=true->lo<=p/\p<hi
 la:∀p,L.testBit p=true->lo<=p/\p<hi
 be:∀p q,lo<=p->p<hi->(beh p).testBit q=true->lo<=q/\q<hi
 ac:∀x,(bStr rdr beh lo hi e F L).acc x↔l x
theorem a4_.inn {rdr beh:Nat->Nat}{lo hi:Nat}{e:Bool}{F L:Nat}{l:List Nat->Prop}(h:a4_ rdr beh lo hi e F L l):(bStr rdr beh lo hi e F L).In:=
 ⟨h.le,h.fi,h.la,fun p q hb=>⟨hb.1,h.be p q hb.1.1 hb.1.2 hb.2⟩⟩
theorem a4_.lcongr {rdr beh:Nat->Nat}{lo hi:Nat}{e:Bool}{F L:Nat}{l l':List Nat->Prop}(h:a4_ rdr beh lo hi e F L l)(hl:∀x,l x↔l' x):a4_ rdr beh lo hi e F L l':=⟨h.le,h.fi,h.la,h.be,fun x=>(h.ac x).trans (hl x)⟩
theorem a4_.later {rdr rdr' beh beh':Nat->Nat}{lo hi:Nat}{e:Bool}{F L:Nat}{l:List Nat->Prop}(h:a4_ rdr beh lo hi e F L l)(hb:∀p,lo<=p->p<hi->beh' p=beh p)(hr:∀p c,p<hi->(rdr' c).testBit p=(rdr c).testBit p):a4_ rdr' beh' lo hi e F L l:=by
 refine⟨h.le,h.fi,h.la,fun p q h1 h2 h3=>h.be p q h1 h2 (by rw[<-hb p h1 h2];exact h3),fun x=> ?_⟩;rw[<-h.ac x];have hB:∀p q,((lo<=p/\p<hi)/\(beh' p).testBit q=true)↔((lo<=p/\p<hi)/\(beh p).testBit q=true):=by
  intro p q;constructor
  . rintro⟨h1,h2⟩;exact⟨h1,by rw[<-hb p h1.1 h1.2];exact h2⟩
  . rintro⟨h1,h2⟩;exact⟨h1,by rw[hb p h1.1 h1.2];exact h2⟩
 have key:∀p x,p<hi->(Way (bStr rdr' beh' lo hi e F L).B (rdB rdr') (bStr rdr' beh' lo hi e F L).L p x↔Way (bStr rdr beh lo hi e F L).B (rdB rdr) (bStr rdr beh lo hi e F L).L p x):=by
  intro p x hp;constructor
  . intro hw;induction hw with
    |last hr' hl=>exact .last (by unfold rdB at hr' ⊢;rw[<-hr _ _ hp];exact hr') hl
    |step hr' hb' _ ih=>
     have hb2:=(hB _ _).1 hb';exact .step (by unfold rdB at hr' ⊢;rw[<-hr _ _ hp];exact hr') hb2 (ih (h.be _ _ hb2.1.1 hb2.1.2 hb2.2).2)
  . intro hw;induction hw with
    |last hr' hl=>exact .last (by unfold rdB at hr' ⊢;rw[hr _ _ hp];exact hr') hl
    |step hr' hb' _ ih=>exact .step (by unfold rdB at hr' ⊢;rw[hr _ _ hp];exact hr') ((hB _ _).2 hb') (ih (h.be _ _ hb'.1.1 hb'.1.2 hb'.2).2)
 constructor
 . rintro(h1|⟨p,hp,hw⟩)
   . exact .inl h1
   . exact .inr ⟨p,hp,(key p x (h.fi p hp).2).1 hw⟩
 . rintro(h1|⟨p,hp,hw⟩)
   . exact .inl h1
   . exact .inr ⟨p,hp,(key p x (h.fi p hp).2).2 hw⟩
theorem ho_ {beh:Nat->Nat}{L F p q:Nat}:(bw_ beh L F p).testBit q=true↔(beh p).testBit q=true\/(L.testBit p=true/\F.testBit q=true):=by
 unfold bw_;by_cases h:L.testBit p=true
 . rw[if_pos h,Nat.testBit_or,Bool.or_eq_true];simp[h]
 . rw[if_neg h];simp[h]
theorem a4_.chain {rdr beh:Nat->Nat}{lo mid hi:Nat}{e1 e2:Bool}{F1 L1 F2 L2:Nat}{l1 l2:List Nat->Prop}(h1:a4_ rdr beh lo mid e1 F1 L1 l1)(h2:a4_ rdr beh mid hi e2 F2 L2 l2):
 a4_ rdr (bw_ beh L1 F2) lo hi (e1&&e2) (if e1 then F1|||F2 else F1) (if e2 then L2|||L1 else L2) (Cat l1 l2):=by
 have hle1:=h1.le;have hle2:=h2.le;have hF:∀p,(if e1 then F1|||F2 else F1).testBit p=true↔F1.testBit p=true\/(e1=true/\F2.testBit p=true):=by
  intro p;cases e1<;>simp[Nat.testBit_or]
 have hL:∀p,(if e2 then L2|||L1 else L2).testBit p=true↔L2.testBit p=true\/(e2=true/\L1.testBit p=true):=by
  intro p;cases e2<;>simp[Nat.testBit_or]
 refine⟨o_,fun p hp=> ?_,fun p hp=> ?_,fun p q hp1 hp2 hb=> ?_,fun x=> ?_⟩
 . rcases (hF p).1 hp with h|⟨_,h⟩
   . have:=h1.fi p h;omega
   . have:=h2.fi p h;omega
 . rcases (hL p).1 hp with h|⟨_,h⟩
   . have:=h2.la p h;omega
   . have:=h1.la p h;omega
 . rcases ho_.1 hb with h|⟨_,h⟩
   . by_cases hm:p<mid
     . have:=h1.be p q hp1 hm h;omega
     . have:=h2.be p q o_ hp2 h;omega
   . have:=h2.fi q h;omega
 . rw[<-Cat.congr h1.ac h2.ac x,<-yj_ h1.inn h2.inn rfl x];refine gu_ ?_ hF hL (fun p q=> ?_) x
   . show(e1&&e2)=true↔e1=true/\e2=true
     simp
   . show((lo<=p/\p<hi)/\(bw_ beh L1 F2 p).testBit q=true)↔((lo<=p/\p<mid)/\(beh p).testBit q=true)\/((mid<=p/\p<hi)/\(beh p).testBit q=true)\/(L1.testBit p=true/\F2.testBit q=true)
     rw[ho_];constructor
     . rintro⟨hp,h|h⟩
       . by_cases hm:p<mid
         . exact .inl ⟨⟨hp.1,hm⟩,h⟩
         . exact .inr (.inl ⟨⟨o_,hp.2⟩,h⟩)
       . exact .inr (.inr h)
     . rintro(⟨hp,h⟩|⟨hp,h⟩|h)
       . exact⟨⟨hp.1,o_⟩,.inl h⟩
       . exact⟨⟨o_,hp.2⟩,.inl h⟩
       . have:=h1.la p h.1;exact⟨⟨this.1,o_⟩,.inr h⟩
theorem a4_.alt {rdr beh:Nat->Nat}{lo mid hi:Nat}{e1 e2:Bool}{F1 L1 F2 L2:Nat}{l1 l2:List Nat->Prop}(h1:a4_ rdr beh lo mid e1 F1 L1 l1)(h2:a4_ rdr beh mid hi e2 F2 L2 l2):
 a4_ rdr beh lo hi (e1||e2) (F1|||F2) (L1|||L2) (fun x=>l1 x\/l2 x):=by
 have hle1:=h1.le;have hle2:=h2.le;refine⟨o_,fun p hp=> ?_,fun p hp=> ?_,fun p q hp1 hp2 hb=> ?_,fun x=> ?_⟩
 . rw[Nat.testBit_or,Bool.or_eq_true]at hp;rcases hp with h|h
   . have:=h1.fi p h;omega
   . have:=h2.fi p h;omega
 . rw[Nat.testBit_or,Bool.or_eq_true]at hp;rcases hp with h|h
   . have:=h1.la p h;omega
   . have:=h2.la p h;omega
 . by_cases hm:p<mid
   . have:=h1.be p q hp1 hm hb;omega
   . have:=h2.be p q o_ hp2 hb;omega
 . rw[<-h1.ac x,<-h2.ac x,<-ad1_ h1.inn h2.inn rfl x];refine gu_ ?_ (fun p=> ?_) (fun p=> ?_) (fun p q=> ?_) x
   . show(e1||e2)=true↔e1=true\/e2=true
     simp
   . show(F1|||F2).testBit p=true↔F1.testBit p=true\/F2.testBit p=true
     rw[Nat.testBit_or,Bool.or_eq_true]
   . show(L1|||L2).testBit p=true↔L1.testBit p=true\/L2.testBit p=true
     rw[Nat.testBit_or,Bool.or_eq_true]
   . show((lo<=p/\p<hi)/\(beh p).testBit q=true)↔((lo<=p/\p<mid)/\(beh p).testBit q=true)\/((mid<=p/\p<hi)/\(beh p).testBit q=true)
     constructor
     . rintro⟨hp,h⟩;by_cases hm:p<mid
       . exact .inl ⟨⟨hp.1,hm⟩,h⟩
       . exact .inr ⟨⟨o_,hp.2⟩,h⟩
     . rintro(⟨hp,h⟩|⟨hp,h⟩)
       . exact⟨⟨hp.1,o_⟩,h⟩
       . exact⟨⟨o_,hp.2⟩,h⟩
theorem a4_.opt {rdr beh:Nat->Nat}{lo hi:Nat}{e:Bool}{F L:Nat}{l:List Nat->Prop}(h:a4_ rdr beh lo hi e F L l):a4_ rdr beh lo hi true F L (fun x=>x=[]\/l x):=by
 refine⟨h.le,h.fi,h.la,h.be,fun x=> ?_⟩;rw[<-h.ac x,<-ad2_ (s:=bStr rdr beh lo hi e F L) x];refine gu_ (s:=bStr rdr beh lo hi true F L) (t:=(bStr rdr beh lo hi e F L).free False) ?_ (fun p=>Iff.rfl) (fun p=>Iff.rfl) (fun p q=> ?_) x
 . show true=true↔True
   simp
 . show((lo<=p/\p<hi)/\(beh p).testBit q=true)↔((lo<=p/\p<hi)/\(beh p).testBit q=true)\/(False/\_)
   simp
theorem a4_.star {rdr beh:Nat->Nat}{lo hi:Nat}{e:Bool}{F L:Nat}{l:List Nat->Prop}(h:a4_ rdr beh lo hi e F L l):a4_ rdr (bw_ beh L F) lo hi true F L (Star l):=by
 refine⟨h.le,h.fi,h.la,fun p q h1 h2 hb=> ?_,fun x=> ?_⟩
 . rcases ho_.1 hb with hb|⟨_,hb⟩
   . exact h.be p q h1 h2 hb
   . exact h.fi q hb
 . rw[<-Star.congr h.ac x,<-abf_ (s:=bStr rdr beh lo hi e F L) x];refine gu_ (s:=bStr rdr (bw_ beh L F) lo hi true F L) (t:=(bStr rdr beh lo hi e F L).free True) ?_ (fun p=>Iff.rfl) (fun p=>Iff.rfl) (fun p q=> ?_) x
   . show true=true↔True
     simp
   . show((lo<=p/\p<hi)/\(bw_ beh L F p).testBit q=true)↔((lo<=p/\p<hi)/\(beh p).testBit q=true)\/(True/\L.testBit p=true/\F.testBit q=true)
     rw[ho_];constructor
     . rintro⟨hp,hb|hb⟩
       . exact .inl ⟨hp,hb⟩
       . exact .inr ⟨trivial,hb⟩
     . rintro(⟨hp,hb⟩|⟨_,hb⟩)
       . exact⟨hp,.inl hb⟩
       . exact⟨h.la p hb.1,.inr hb⟩
theorem a4_.nothing (rdr beh:Nat->Nat)(lo:Nat):a4_ rdr beh lo lo true 0 0 (fun x=>x=[]):=by
 refine⟨lr__,fun p hp=>by simp at hp,fun p hp=>by simp at hp,fun p q h1 h2=>o_,fun x=> ?_⟩;rw[<-t8_ (rdB rdr) lo x];refine gu_ (s:=bStr rdr beh lo lo true 0 0) (t:=Str.nothing (rdB rdr) lo) ?_ (fun p=> ?_) (fun p=> ?_) (fun p q=> ?_) x
 . show true=true↔True
   simp
 . show(0:Nat).testBit p=true↔False
   simp
 . show(0:Nat).testBit p=true↔False
   simp
 . show((lo<=p/\p<lo)/\(beh p).testBit q=true)↔False
   constructor
   . rintro⟨h,_⟩;omega
   . exact fun h=>h.elim
theorem a4_.spot {rdr beh:Nat->Nat}{lo:Nat}{S:Nat->Bool}(hb:beh lo=0)(hr:∀c,(rdr c).testBit lo=S c):a4_ rdr beh lo (lo+1) false (2^lo) (2^lo) (Pat.one S).lang:=by
 have hp:∀p,(2^lo).testBit p=true↔p=lo:=by
  intro p;rw[Nat.testBit_two_pow];simp;exact⟨fun h=>h.symm,fun h=>h.symm⟩
 refine⟨o_,fun p h=> ?_,fun p h=> ?_,fun p q h1 h2 h3=> ?_,fun x=> ?_⟩
 . have:=(hp p).1 h;omega
 . have:=(hp p).1 h;omega
 . rw[show p=lo by omega,hb]at h3;simp at h3
 . rw[<-abg_ (rd:=rdB rdr) (lo:=lo) (S:=S) (fun c=>by unfold rdB;rw[hr c]) x];refine gu_ (s:=bStr rdr beh lo (lo+1) false (2^lo) (2^lo)) (t:=Str.spot (rdB rdr) lo) ?_ (fun p=> ?_) (fun p=> ?_) (fun p q=> ?_) x
   . show false=true↔False
     simp
   . exact hp p
   . exact hp p
   . show((lo<=p/\p<lo+1)/\(beh p).testBit q=true)↔False
     constructor
     . rintro⟨h,h3⟩;rw[show p=lo by omega,hb]at h3;simp at h3
     . exact fun h=>h.elim
theorem a4_.copyMust {rdr beh:Nat->Nat}{lo hi:Nat}{e:Bool}{F L least i:Nat}{en:Bool}{l:List Nat->Prop}(h:a4_ rdr beh lo hi e F L l)(hi':i<least):a4_ rdr beh lo hi e F L (Copy l least i en):=
 h.lcongr (fun x=>by unfold Copy;rw[if_pos hi'])
theorem a4_.copyOpt {rdr beh:Nat->Nat}{lo hi:Nat}{e:Bool}{F L least i:Nat}{l:List Nat->Prop}(h:a4_ rdr beh lo hi e F L l)(hi':¬i<least):a4_ rdr beh lo hi true F L (Copy l least i false):=
 h.opt.lcongr (fun x=>by unfold Copy;rw[if_neg hi',if_neg i_])
theorem a4_.copyStar {rdr beh:Nat->Nat}{lo hi:Nat}{e:Bool}{F L least i:Nat}{l:List Nat->Prop}(h:a4_ rdr beh lo hi e F L l)(hi':¬i<least):a4_ rdr (bw_ beh L F) lo hi true F L (Copy l least i true):=
 h.star.lcongr (fun x=>by unfold Copy;rw[if_neg hi',if_pos rfl])
def swp (b x:Nat):Nat:=if x=b then 0 else if x=0 then b else x
theorem mo_ (b x:Nat):swp b (swp b x)=x:=by
 unfold swp;by_cases h1:x=b
 . subst h1;by_cases h2:x=0
   . simp[h2]
   . simp[Ne.symm h2]
 . by_cases h2:x=0
   . subst h2;simp[h1]
   . simp[h1,h2]
theorem xw_ {b x n:Nat}(hb:b<n)(hx:x<n):swp b x<n:=by unfold swp;split<;>(try split)<;>omega
structure Mach where
 n:Nat
 beh:Nat->Nat
 rdr:Nat->Nat
 lasts:Nat
namespace Mach
variable (m:Mach)
def step (S c:Nat):Nat:=folF m.beh S m.n&&&m.rdr c
def succ (q c:Nat):Nat:=swp 1 (m.step (swp 1 q) c)
def good (q:Nat):Prop:=q<2048
def tab (ps:List Nat):Tab where
 n:=ps.length
 acc k:=swp 1 (ps.getD k 0)&&&m.lasts !=0
 nxt:=pn m.succ ps
def lang (x:List Nat):Bool:=x.foldl m.step 1&&&m.lasts !=0
variable {m}
theorem bound {ps:List Nat}{p:Nat}(h:PRel good m.succ ps p):ps.length<=2048:=d3_ 2048 ps h.nd (fun x hx=>h.inr x hx)
theorem numbered {ps:List Nat}(h:PRel good m.succ ps (8*ps.length)):cd_ (m.tab ps) where
 pos:=h.len
 nx i c hi hc:=by
  have:=(h.clo (8*i+c) (by have:i<ps.length:=hi;omega)).2;rw[show(8*i+c)/8=i by omega,show(8*i+c)%8=c by omega]at this;exact List.idxOf_lt_length_of_mem this
 step p hp:=h.num p hp
 row i hi:=h.row i (by have:i<ps.length:=hi;omega)
 all:=h.cm
theorem nh_ {ps:List Nat}(h:PRel good m.succ ps (8*ps.length))(k:Nat)(hk:k<ps.length)(x:List Nat)(hx:ax_ x):
 (m.tab ps).read k x<ps.length/\swp 1 (ps.getD ((m.tab ps).read k x) 0)=x.foldl m.step (swp 1 (ps.getD k 0)):=by
 induction x generalizing k with
 |nil=>exact⟨hk,rfl⟩
 |cons c x ih=>
  have hc:c<8:=hx c i_;have hx':ax_ x:=fun d hd=>hx d (by simp[hd])
  have hcl:=(h.clo (8*k+c) o_).2;rw[show(8*k+c)/8=k by omega,show(8*k+c)%8=c by omega]at hcl;have hlt:(m.tab ps).nxt k c<ps.length:=List.idxOf_lt_length_of_mem hcl;have he:ps.getD ((m.tab ps).nxt k c) 0=m.succ (ps.getD k 0) c:=e1_ ps _ hcl;simp only[Tab.read,List.foldl_cons];have:=ih _ hlt hx';rw[he]at this;rw[show m.step (swp 1 (ps.getD k 0)) c=swp 1 (m.succ (ps.getD k 0) c)by unfold succ;rw[mo_]];exact this
theorem tab_accepts {ps:List Nat}(h:PRel good m.succ ps (8*ps.length))(x:List Nat)(hx:ax_ x):(m.tab ps).accepts x=m.lang x:=by
 have:=nh_ h 0 h.len x hx;rw[h.hd]at this;simp only[Tab.accepts];show(swp 1 (ps.getD ((m.tab ps).read 0 x) 0)&&&m.lasts !=0)=_
 rw[this.2];rfl
theorem ae4_ {S L:Nat}:(S&&&L !=0)=true↔∃p,S.testBit p=true/\L.testBit p=true:=by
 rw[bne_iff_ne];constructor
 . intro h;obtain⟨p,hp⟩:=Nat.exists_testBit_of_ne_zero h;rw[Nat.testBit_and,Bool.and_eq_true]at hp;exact⟨p,hp⟩
 . rintro⟨p,h1,h2⟩ e;have:(S&&&L).testBit p=true:=by rw[Nat.testBit_and,h1,h2];rfl
   rw[e]at this;simp at this
theorem n4_ (m:Mach)(x:List Nat)(S:Nat)(P:Nat->Prop)(hP:∀p,S.testBit p=true↔P p)(q:Nat):(x.foldl m.step S).testBit q=true↔(x.foldl (on_ (fun p q=>p<m.n/\(m.beh p).testBit q=true) (rdB m.rdr)) P) q:=by
 induction x generalizing S P with
 |nil=>exact hP q
 |cons c x ih=>
  simp only[List.foldl_cons];refine ih _ _ (fun p=> ?_);unfold step on_ rdB;rw[Nat.testBit_and,Bool.and_eq_true,aao_];constructor
  . rintro⟨⟨p0,h1,h2,h3⟩,h4⟩;exact⟨h4,p0,(hP p0).1 h2,h1,h3⟩
  . rintro⟨h4,p0,h2,h1,h3⟩;exact⟨⟨p0,h1,(hP p0).2 h2,h3⟩,h4⟩
theorem lang_ok {rdr beh:Nat->Nat}{n:Nat}{e:Bool}{F L:Nat}{l:List Nat->Prop}(h:a4_ rdr beh 1 n e F L l)(h0:beh 0=0)(x:List Nat):
 lang ⟨n,bw_ beh 1 F,rdr,if e then L|||1 else L⟩ x=true↔l x:=by
 unfold lang;rw[ae4_,<-h.ac x];have hn:=h.le;have b1:∀p,(1:Nat).testBit p=true↔p=0:=by
  intro p;rw[show(1:Nat)=2^0 from rfl,Nat.testBit_two_pow];simp;exact⟨fun h=>h.symm,fun h=>h.symm⟩
 rw[<-yn_ (s:=bStr rdr beh 1 n e F L) (B:=fun p q=>p<n/\(bw_ beh 1 F p).testBit q=true) (L:=fun p=>(if e then L|||1 else L).testBit p=true) (a:=0) h.inn (by show 0<1;omega) (fun p q=> ?_) (fun p=> ?_) x]
 . constructor
   . rintro⟨p,h1,h2⟩;exact⟨p,(n4_ _ x 1 (fun p=>p=0) b1 p).1 h1,h2⟩
   . rintro⟨p,h1,h2⟩;exact⟨p,(n4_ _ x 1 (fun p=>p=0) b1 p).2 h1,h2⟩
 . show(p<n/\(bw_ beh 1 F p).testBit q=true)↔(p=0/\F.testBit q=true)\/((1<=p/\p<n)/\(beh p).testBit q=true)
   rw[ho_,b1 p];constructor
   . rintro⟨h1,h2|h2⟩
     . by_cases hp:p=0
       . rw[hp,h0]at h2;simp at h2
       . exact .inr ⟨⟨o_,h1⟩,h2⟩
     . exact .inl h2
   . rintro(⟨h1,h2⟩|⟨h1,h2⟩)
     . exact⟨o_,.inr ⟨h1,h2⟩⟩
     . exact⟨h1.2,.inl h2⟩
 . show(if e then L|||1 else L).testBit p=true↔(p=0/\e=true)\/L.testBit p=true
   cases e
   . simp
   . simp only[if_true,Nat.testBit_or,Bool.or_eq_true,b1 p];constructor
     . rintro(h1|h1)
       . exact .inr h1
       . exact .inl ⟨h1,trivial⟩
     . rintro(⟨h1,_⟩|h1)
       . exact .inr h1
       . exact .inl h1
end Mach
structure cg_ (w:World)(bm:Nat)(vb:Value)(n:Nat)(beh rdr:Nat->Nat):Prop where
 blk:w.rowIs bm 184 9 (fun i=>if i=0 then vb else .int .i64 ((rdr (i - 1):Nat):Int))
 own:w.ownsRow (bm+1) 3 1 vb n (am_ beh n)
 lb:∀i,i<n->beh i<2048
 lr:∀c,c<8->rdr c<2048
def ap_ (f:Nat->Bool):Array Value:= #[.bool (f 0),.bool (f 1),.bool (f 2),.bool (f 3),.bool (f 4),.bool (f 5),.bool (f 6),.bool (f 7)]
theorem a8_ {w:World}{b t:Nat}{f:Nat->Bool}(h:w.heap[b]? =some (.cells (ap_ f) t (0,0))):w.rowIs b t 8 (fun i=> .bool (f i)):=by
 refine⟨_,h,rfl,fun i hi=> ?_⟩;rcases (show i=0\/i=1\/i=2\/i=3\/i=4\/i=5\/i=6\/i=7 by omega)with rfl|rfl|rfl|rfl|rfl|rfl|rfl|rfl<;>rfl
theorem cg_.below {w w1:World}{bm:Nat}{vb:Value}{n:Nat}{beh rdr:Nat->Nat}(h:cg_ w bm vb n beh rdr)(hb:Below w.heap.size w w1):cg_ w1 bm vb n beh rdr:=
 ⟨h.blk.of_block (hb.block _ h.blk.lt),al_ h.own hb,h.lb,h.lr⟩
theorem n5_ (bm:Nat)(vb:Value)(n:Nat)(beh rdr:Nat->Nat)(f:Nat->Bool)(w:World)(hn:n<11)(h:cg_ w bm vb n beh rdr):
 Calls prog 142 #[.pointer (some ⟨bm,0,none⟩),.agg (ap_ f)] w
  fun e w'=>e= .returned (.int .i64 ((2^n:Nat):Int))/\∃vb',cg_ w' bm vb' (n+1) (fun i=>if i=n then 0 else beh i) (fun c=>if f c then rdr c|||2^n else rdr c)/\ab_ (fun b=>b=bm\/vb.ownBlock=some b) w w'/\(∀g,vb'.ownBlock=some g->vb.ownBlock=some g\/w.heap.size<=g):=by
 obtain⟨i3,hi3,hz3,hz31,hz32⟩:=info_parts du_;obtain⟨W,hW,BW,-,-⟩:=nw__ w (ap_ f) 128;have hWs:W.heap.size=w.heap.size+1:=by rw[hW];simp
 have b0:=hn__ hW;have h1:=h.below BW;have x0:=h1.blk.cell (i:=0) o_;have x1:=h1.blk.frozen 0;simp only[if_true]at x0;obtain⟨ao,cap,rfl,hao⟩:=af_ h1.own;have hpw:=ki_ n o_;have hbl:=h1.blk.lt;go_enter func142,ntmps142;go_upto_region 1 with fail;rw[<-hW];clear hW;have HPa:Hid (cg_ (W.alloc (.cells #[.int .i64 0] 3)) bm (.slice ao n cap) n beh rdr):=h1.below ba__;have hna:=HPa.out.own;have hbm:bm<w.heap.size:=h.blk.lt;have HG:Hid (∀g cap' w2,w2.ownsRow (bm+1) 3 1 (.slice (some ⟨g,0,none⟩) (n+1) cap') (n+1) (am_ beh n++ [.int .i64 0])->(W.alloc (.cells #[.int .i64 0] 3)).grownBy w2 (Value.slice ao n cap).ownBlock->((Value.slice ao n cap).ownBlock=some g\/g=(W.alloc (.cells #[.int .i64 0] 3)).heap.size)->
  w2.cell? ⟨bm,0,none⟩=some (.slice ao n cap)/\w2.frozen? ⟨bm,0,none⟩=false/\
  Hid (cg_ (w2.setCell ⟨bm,0,none⟩ (.slice (some ⟨g,0,none⟩) (n+1) cap')) bm (.slice (some ⟨g,0,none⟩) (n+1) cap') (n+1) (fun i=>if i=n then 0 else beh i) rdr)/\
  Hid (ab_ (fun b=>b=bm\/(Value.slice ao n cap).ownBlock=some b) w (w2.setCell ⟨bm,0,none⟩ (.slice (some ⟨g,0,none⟩) (n+1) cap')))/\Hid ((w2.setCell ⟨bm,0,none⟩ (.slice (some ⟨g,0,none⟩) (n+1) cap')).rowIs w.heap.size 128 8 (fun i=> .bool (f i)))/\Hid (g≠w.heap.size)):=by
  intro g cap' w2 ho hg hf;have hm:=HPa.out;have hlt:=fun k (e:(Value.slice ao n cap).ownBlock=some k)=>hm.own.lt k e
  have hlt0:=fun k (e:(Value.slice ao n cap).ownBlock=some k)=>h.own.lt k e
  have hblk:=gj_ hm.blk hg (fun e=>by have:=(hlt _ e).1;omega);have hnot:=gj_ ((a8_ b0).alloc (.cells #[.int .i64 0] 3)) hg (fun e=>by have:=(hlt0 _ e).2;omega);have hgn:g≠w.heap.size:=by
   rcases hf with hf|hf
   . have:=(hlt0 g hf).2;omega
   . rw[hf];simp;omega
  have e1:am_ beh n++ [.int .i64 0]=am_ (fun i=>if i=n then 0 else beh i) (n+1):=by
   rw[e3_];congr 1
   . simp only[am_];apply List.map_congr_left;intro j hj;have:j<n:=by simpa using hj
     rw[if_neg o_]
   . simp
  rw[e1]at ho;have hx:=hblk.cell (i:=0) o_;simp only[if_true]at hx;refine⟨hx,hblk.frozen 0,⟨(hblk.set 0 _).congr (fun j _=> ?_),ownsRow_setCell_below ho i_ _,fun j hj=> ?_,h.lr⟩, ?_,hnot.setOther s_ _,hgn⟩
  . by_cases e:j=0
    . simp[e]
    . simp[e]
  . by_cases e:j=n
    . simp[e]
    . simp only[if_neg e];exact h.lb j o_
  . have t0:ab_ (fun b=>b=bm\/(Value.slice ao n cap).ownBlock=some b) w (W.alloc (.cells #[.int .i64 0] 3)):=by
     refine⟨?_, ?_, ?_, ?_,fun k hk _=> ?_⟩
     . exact BW.os
     . exact BW.tape
     . exact BW.output
     . simp;omega
     . exact(Below.heap_alloc W _ k o_).trans (BW.block k hk)
    exact(t0.grown hg (fun k e=> .inl (.inr e))).set _ _ (.inl (.inl rfl))
 have hWl:w.heap.size+1<=W.heap.size:=o_;clear hWs;go_wp2_with (at_builtin;refine ae_ _ rfl _ _ 24 rfl (bm+1) 3 i3 (.int .i64 0) 1 8 underlying24 hi3 hz3 hz31 hz32 rfl d_ _ n (am_ beh n) rfl hna ⟨W.heap.size,0,none⟩ 1 1 [.int .i64 0] rfl rfl (cell_one_new _ _ _) (oc__ rfl) d_ u_ o_ s_ ?_;intro g cap' w2 hown hgr hfr;obtain⟨f0,f1,HM,HTo,HNo,HGn⟩:=HG.out g cap' w2 hown hgr hfr;have HFR:Hid _:=hfr;clear hown hgr hfr);clear HG HPa hna f0 f1 x0 x1;generalize w2.setCell ⟨bm,0,none⟩ (.slice (some ⟨g,0,none⟩) (n+1) cap')=W3 at HM HTo HNo ⊢;have h2n:2^n<2048:=Nat.pow_lt_pow_of_lt (a:=2) (n:=n) (m:=11) o_ hn;go_loopw [6] (fun k' wr=>∃k:Nat,k<=8/\k'= .int .i64 k/\cg_ wr bm (.slice (some ⟨g,0,none⟩) (n+1) cap') (n+1) (fun i=>if i=n then 0 else beh i) (fun c=>if c<k/\f c=true then rdr c|||2^n else rdr c)/\ab_ (fun b=>b=bm\/(Value.slice ao n cap).ownBlock=some b) w wr/\wr.rowIs w.heap.size 128 8 (fun i=> .bool (f i)))
  (fun k' _=>8 - (intOf k').toNat)
 case atStart=>exact⟨0,o_,rfl,⟨HM.out.blk.congr (fun j _=>i_),HM.out.own,HM.out.lb,fun c hc=>by simpa using HM.out.lr c hc⟩,HTo.out,HNo.out⟩
 case round=>
  clear HM HTo HNo;obtain⟨k,hk,rfl,hM,hT,hN⟩:=hrel;by_cases hlt:k<8
  . have c0:=hN.cell (i:=k) hlt;have c1:=hM.blk.cell (i:=1+k) o_;have c2:=hM.blk.frozen (1+k);rw[if_neg o_,show 1+k - 1=k by omega]at c1;simp only[Nat.lt_irrefl,false_and,if_false]at c1;have hrk:rdr k<2048:=h.lr k hlt;have hor:=e4_ (rdr k) (2^n) hrk h2n;have hlo:rdr k|||2^n<2^11:=Nat.or_lt_two_pow o_ o_
    obtain⟨on,HON⟩:=hx__ (rdr k|||2^n);rw[HON.out]at hor hlo;rw[show((2^n:Nat):Int)=(2:Int)^n by simp]at hor;obtain⟨fk,HFK⟩:=hx__ (f k);rw[HFK.out]at c0;have HM:Hid (cg_ wr bm (.slice (some ⟨g,0,none⟩) (n+1) cap') (n+1) (fun i=>if i=n then 0 else beh i) (fun c=>if c<k/\f c=true then rdr c|||2^n else rdr c)):=hM;have HT:Hid (ab_ (fun b=>b=bm\/(Value.slice ao n cap).ownBlock=some b) w wr):=hT;have HN:Hid (wr.rowIs w.heap.size 128 8 (fun i=> .bool (f i))):=hN;clear hM hT hN;cases fk
    . go_wp2_with fail;go_roundw
      case rel=>
       have e:∀c,(if c<k/\f c=true then rdr c|||2^n else rdr c)=(if c<k+1/\f c=true then rdr c|||2^n else rdr c):=by
        intro c;by_cases ec:c=k
        . subst ec;simp[HFK.out]
        . have:(c<k)=(c<k+1):=by apply propext;omega
          simp only[this]
       exact⟨k+1,o_,by go_num,⟨HM.out.blk.congr (fun j _=>by rw[e (j - 1)]),HM.out.own,HM.out.lb,fun c hc=>by rw[<-e c];exact HM.out.lr c hc⟩,HT.out,HN.out⟩
      case measure=>simp[intOf];omega
    . go_wp2_with fail;go_region
      go_wp2_with fail;go_roundw
      case rel=>
       have hm:=HM.out;have hTd:ab_ (fun b=>b=bm\/(Value.slice ao n cap).ownBlock=some b) w ((wr.setCell ⟨bm,1+k,none⟩ (.int .i64 (on:Int))).drew):=by
        have ht:=HT.out.set ⟨bm,1+k,none⟩ (.int .i64 (on:Int)) (.inl (.inl rfl));exact⟨ht.os,ht.tape,ht.output,ht.size,ht.block⟩
       refine⟨k+1,o_,by go_num,⟨(hm.blk.set (1+k) (.int .i64 (on:Int))).congr (fun j _=> ?_),ownsRow_setCell_below hm.own i_ _,hm.lb,fun c hc=> ?_⟩,hTd,HN.out.setOther s_ _⟩
       . by_cases ej:j=1+k
         . subst ej;rw[if_pos rfl,if_neg o_,show 1+k - 1=k by omega,if_pos ⟨Nat.lt_succ_self k,HFK.out⟩,HON.out]
         . rw[if_neg ej];by_cases ej0:j=0
           . simp[ej0]
           . rw[if_neg ej0,if_neg ej0];have:(j - 1<k)=(j - 1<k+1):=by apply propext;omega
             simp only[this]
       . by_cases ec:c=k
         . subst ec;rw[if_pos ⟨Nat.lt_succ_self c,HFK.out⟩,HON.out];omega
         . have h1:=hm.lr c hc;have:(c<k)=(c<k+1):=by apply propext;omega
           simp only[this]at h1;exact h1
      case measure=>simp[intOf];omega
  . have he:k=8:=o_;subst he;have HM:Hid (cg_ wr bm (.slice (some ⟨g,0,none⟩) (n+1) cap') (n+1) (fun i=>if i=n then 0 else beh i) (fun c=>if f c=true then rdr c|||2^n else rdr c)):=by
     have e:∀c,c<8->(if c<8/\f c=true then rdr c|||2^n else rdr c)=(if f c=true then rdr c|||2^n else rdr c):=by
      intro c hc;simp[hc]
     exact⟨hM.blk.congr (fun j hj=>by
      by_cases ej:j=0
      . simp[ej]
      . rw[if_neg ej,if_neg ej,e (j - 1) o_]),hM.own,hM.lb,fun c hc=>by rw[<-e c hc];exact hM.lr c hc⟩
    have HT:Hid (ab_ (fun b=>b=bm\/(Value.slice ao n cap).ownBlock=some b) w wr):=hT;clear hM hT hN;go_wp2_with fail;go_ret;refine⟨i_,(.slice (some ⟨g,0,none⟩) (n+1) cap'),HM.out,HT.out,fun g' hg'=> ?_⟩;simp only[Value.ownBlock,Option.some.injEq]at hg';subst hg';rcases HFR.out with hf|hf
    . exact .inl hf
    . right;rw[hf];simp;omega
theorem xx_ (w:World):Sem.run prog (zeroValue 222) w= .ok (.agg (zs 2048)) w:=k_
def ea_ (ps:List Nat):List Value:=ps.map fun q=> .int .i64 ((swp 1 q:Nat):Int)
theorem q3_ (ps:List Nat)(q:Nat):ea_ ps++ [.int .i64 ((swp 1 q:Nat):Int)]=ea_ (ps++ [q]):=by simp[ea_]
theorem m2_ (ps:List Nat)(k:Nat)(hk:k<ps.length):(ea_ ps)[k]? =some (.int .i64 ((swp 1 (ps.getD k 0):Nat):Int)):=by
 simp[ea_,List.getD_eq_getElem?_getD,hk]
structure ii_ (W:World)(B:Nat)(w:World)(ps:List Nat)(vp va vn:Value)(k k':Nat)(xa xn:List Value):Prop where
 blw:Below B W w
 blk:w.heap[B]? =some (.cells #[va,vn] 169 (0,0))
 met:w.rowIs (B+1) 222 2048 (fun S=> .int .i64 (metv ps (swp 1 S):Nat))
 own0:w.ownsRow (B+1+1) 4 1 va k xa
 own1:w.ownsRow (B+1+1) 174 8 vn k' xn
 own2:w.ownsRow (B+1+1) 3 1 vp ps.length (ea_ ps)
structure b5_ (W:World)(B H:Nat)(w:World)(ps:List Nat)(vp va vn:Value)(k:Nat)(xa xn:List Value)(r:Nat->Nat):Prop where
 mem:ii_ W B w ps vp va vn k k xa xn
 rw:w.rowIs H 174 8 (fun c=> .int .i64 (r c:Nat))
 lo:B+1+1<=H
 dp:∀g,vp.ownBlock=some g->g≠H
 da:∀g,va.ownBlock=some g->g<H
 dn:∀g,vn.ownBlock=some g->g<H
section
variable {W:World} {B H:Nat} {w w2:World} {ps:List Nat} {vp va vn:Value} {k:Nat} {xa xn:List Value} {r:Nat->Nat}
theorem ii_.below {k':Nat}(h:ii_ W B w ps vp va vn k k' xa xn)(hb:Below w.heap.size w w2):ii_ W B w2 ps vp va vn k k' xa xn where
 blw:=h.blw.trans (hb.mono (by have:=ac_ h.blk;omega))
 blk:=(hb.block _ (ac_ h.blk)).trans h.blk
 met:=h.met.of_block (hb.block _ h.met.lt)
 own0:=al_ h.own0 hb
 own1:=al_ h.own1 hb
 own2:=al_ h.own2 hb
theorem b5_.below (h:b5_ W B H w ps vp va vn k xa xn r)(hb:Below w.heap.size w w2):b5_ W B H w2 ps vp va vn k xa xn r:=
 ⟨h.mem.below hb,h.rw.of_block (hb.block _ h.rw.lt),h.lo,h.dp,h.da,h.dn⟩
theorem b5_.grown (h:b5_ W B H w ps vp va vn k xa xn r){q g cap:Nat}(hown:w2.ownsRow (B+1+1) 3 1 (.slice (some ⟨g,0,none⟩) (ps.length+1) cap) (ps.length+1) (ea_ (ps++ [q])))
 (hg:w.grownBy w2 vp.ownBlock) (hf:vp.ownBlock=some g\/g=w.heap.size):
 Below B W w2/\w2.heap[B]? =some (.cells #[va,vn] 169 (0,0))/\w2.rowIs (B+1) 222 2048 (fun S=> .int .i64 (metv ps (swp 1 S):Nat))/\
  w2.ownsRow (B+1+1) 4 1 va k xa/\w2.ownsRow (B+1+1) 174 8 vn k xn/\
  w2.rowIs H 174 8 (fun c=> .int .i64 (r c:Nat))/\g≠H:=by
 have hm:=h.mem;have hsz:=ac_ hm.blk;have hlt:=fun x e=>hm.own2.lt x e
 have hH1:=h.rw.lt;refine⟨hm.blw.grown hg o_ (fun x e=>by have:=(hlt x e).1;omega), ?_,gj_ hm.met hg (fun e=>by have:=(hlt _ e).1;omega), ?_, ?_,gj_ h.rw hg (fun e=>h.dp _ e rfl), ?_⟩
 . rw[hg.block _ hsz (fun e=>by have:=(hlt _ e.symm).1;omega)];exact hm.blk
 . refine hm.own0.kept hg ?_;cases hv:va.ownBlock with
   |none=>exact .inl rfl
   |some x=>exact .inr (fun e=>d6_ hm.own0 hm.own2 d_ x hv e.symm)
 . refine hm.own1.kept hg ?_;cases hv:vn.ownBlock with
   |none=>exact .inl rfl
   |some x=>exact .inr (fun e=>d6_ hm.own1 hm.own2 d_ x hv e.symm)
 . rcases hf with hf|rfl
   . exact h.dp g hf
   . omega
theorem b5_.new (h:b5_ W B H w ps vp va vn k xa xn r){S g cap c:Nat}(hq:swp 1 S∉ps)(hown:w2.ownsRow (B+1+1) 3 1 (.slice (some ⟨g,0,none⟩) (ps.length+1) cap) (ps.length+1) (ea_ (ps++ [swp 1 S])))
 (hg:w.grownBy w2 vp.ownBlock) (hf:vp.ownBlock=some g\/g=w.heap.size):
 b5_ W B H ((w2.setCell ⟨B+1,S,none⟩ (.int .i64 ((ps.length:Int)+1))).setCell ⟨H,c,none⟩ (.int .i64 (ps.length:Int))) (ps++ [swp 1 S]) (.slice (some ⟨g,0,none⟩) (ps.length+1) cap) va vn k xa xn (fun x=>if x=c then ps.length else r x):=by
 obtain⟨g1,g2,g3,g4,g5,g7,g8⟩:=h.grown hown hg hf;have hlo:=h.lo;refine⟨⟨(g1.setCell (p:=⟨B+1,S,none⟩) i_ _).setCell (p:=⟨H,c,none⟩) s_ _,aj_ (aj_ g2 i_) s_, ?_, ?_, ?_, ?_⟩,
  ?_,h.lo, ?_,h.da,h.dn⟩
 . refine((g3.set S _).setOther s_ _).congr (fun x _=> ?_);rw[aam_ ps (swp 1 S) (swp 1 x) hq];by_cases e:x=S
   . simp[e]
   . have e':swp 1 x≠swp 1 S:=fun h=>e (by rw[<-mo_ 1 x,h,mo_])
     simp[e,e']
 . exact bb_ (bb_ g4 _ _ (fun x hx=>by have:=(g4.lt x hx).1;simp;omega)) _ _ (fun x hx=>by have:=h.da x hx;simp;omega)
 . exact bb_ (bb_ g5 _ _ (fun x hx=>by have:=(g5.lt x hx).1;simp;omega)) _ _ (fun x hx=>by have:=h.dn x hx;simp;omega)
 . simp only[List.length_append,List.length_singleton];exact bb_ (bb_ hown _ _ (fun x hx=>by have:=(hown.lt x hx).1;simp;omega)) _ _ (fun x hx=>by simp only[Value.ownBlock,Option.some.injEq]at hx;subst hx;simpa using g8)
 . refine((g7.setOther (a:=⟨B+1,S,none⟩) s_ _).set c _).congr (fun x _=> ?_);by_cases e:x=c
   . simp[e]
   . simp[e]
 . intro x hx;simp only[Value.ownBlock,Option.some.injEq]at hx;subst hx;exact g8
theorem b5_.old (h:b5_ W B H w ps vp va vn k xa xn r){c v:Nat}:
 b5_ W B H (w.setCell ⟨H,c,none⟩ (.int .i64 (v:Int))) ps vp va vn k xa xn (fun x=>if x=c then v else r x):=by
 have hm:=h.mem;have hlo:=h.lo;refine⟨⟨hm.blw.setCell (p:=⟨H,c,none⟩) s_ _,aj_ hm.blk s_,hm.met.setOther s_ _, ?_, ?_, ?_⟩, ?_,h.lo,h.dp,h.da,h.dn⟩
 . exact bb_ hm.own0 _ _ (fun x hx=>by have:=h.da x hx;simp;omega)
 . exact bb_ hm.own1 _ _ (fun x hx=>by have:=h.dn x hx;simp;omega)
 . exact bb_ hm.own2 _ _ (fun x hx=>by have:=h.dp x hx;simpa using this)
 . refine(h.rw.set c _).congr (fun x _=> ?_);by_cases e:x=c
   . simp[e]
   . simp[e]
theorem b5_.add (h:b5_ W B H w ps vp va vn k xa xn r){va' vn':Value}{ya yn:List Value}(hb:w2.heap[B]? =some (.cells #[va',vn'] 169 (0,0)))
 (h0:w2.ownsRow (B+1+1) 4 1 va' (k+1) ya) (h1:w2.ownsRow (B+1+1) 174 8 vn' (k+1) yn)
 (ht:ab_ (fun b=>b=B\/va.ownBlock=some b\/vn.ownBlock=some b) w w2):ii_ W B w2 ps vp va' vn' (k+1) (k+1) ya yn:=by
 have hm:=h.mem;have hsz:=ac_ hm.blk;refine⟨ht.below hm.blw o_ ?_,hb,ht.row hm.met ?_,h0,h1,ht.own hm.own2 ?_⟩
 . rintro x (rfl|e|e)
   . omega
   . have:=(hm.own0.lt _ e).1;omega
   . have:=(hm.own1.lt _ e).1;omega
 . rintro(e|e|e)
   . omega
   . have:=(hm.own0.lt _ e).1;omega
   . have:=(hm.own1.lt _ e).1;omega
 . rintro g hg (rfl|e|e)
   . have:=(hm.own2.lt _ hg).1;omega
   . exact d6_ hm.own2 hm.own0 d_ g hg e
   . exact d6_ hm.own2 hm.own1 d_ g hg e
theorem b5_.rcongr (h:b5_ W B H w ps vp va vn k xa xn r){r':Nat->Nat}(e:∀x,x<8->r x=r' x):b5_ W B H w ps vp va vn k xa xn r':=
 ⟨h.mem,h.rw.congr (fun x hx=>by rw[e x hx]),h.lo,h.dp,h.da,h.dn⟩
end
def aq_ (w:World)(bp:Nat)(s:ByteArray)(a:Nat)(vn:Value)(bk:Bool)(sp:Int):Prop:=w.heap[bp]? =some (.cells #[.string s,.int .i64 (a:Int),vn,.bool bk,.int .i64 sp] 125 (0,0))
theorem aq_.cells {w:World}{bp:Nat}{s:ByteArray}{a:Nat}{vn:Value}{bk:Bool}{sp:Int}(h:aq_ w bp s a vn bk sp):w.cell? ⟨bp,0,none⟩=some (.string s)/\w.cell? ⟨bp,1,none⟩=some (.int .i64 (a:Int))/\w.cell? ⟨bp,2,none⟩=some vn/\w.cell? ⟨bp,3,none⟩=some (.bool bk)/\w.cell? ⟨bp,4,none⟩=some (.int .i64 sp)/\w.frozen? ⟨bp,1,none⟩=false/\w.frozen? ⟨bp,3,none⟩=false/\w.frozen? ⟨bp,4,none⟩=false:=by
 unfold aq_ at h;simp[World.cell?,World.frozen?,h]
theorem aq_.go {w:World}{bp:Nat}{s:ByteArray}{a:Nat}{vn:Value}{bk:Bool}{sp:Int}(h:aq_ w bp s a vn bk sp)(b:Nat):aq_ (w.setCell ⟨bp,1,none⟩ (.int .i64 (b:Int))) bp s b vn bk sp:=by
 unfold aq_ at h ⊢;simp[World.setCell,Array.getElem?_modify,h]
def hit (s:ByteArray)(a b:Nat):Bool:=decide (a<s.size)&&((s.data.toList.getD a 0).toNat==b)
theorem ae5_ {s:ByteArray}{a b:Nat}(h:a<s.size):hit s a b=(s[a].toNat==b):=by
 unfold hit;have h':a<s.data.toList.length:=by rw[Array.length_toList];exact h
 rw[List.getD_eq_getElem?_getD,List.getElem?_eq_getElem h'];simp[h];rfl
theorem j4_ (bp:Nat)(s:ByteArray)(a b:Nat)(vn:Value)(bk:Bool)(sp:Int)(w:World)(hs:s.size<=40)(h:aq_ w bp s a vn bk sp):
 Calls prog 169 #[.pointer (some ⟨bp,0,none⟩),.int .u8 (b:Int)] w
  fun e w'=>e= .returned (.bool (hit s a b))/\aq_ w' bp s (if hit s a b then a+1 else a) vn bk sp/\ab_ (fun k=>k=bp) w w':=by
 obtain⟨c0,c1,c2,c3,c4,f1,f3,f4⟩:=h.cells;have HP:=hi__ h;have HD:∀q,ab_ (fun k=>k=bp) w (w.drewN q):=fun q=>by
  have hb:=below_drewN (Below.refl w.heap.size w) q;exact⟨hb.os,hb.tape,hb.output,hb.size,fun k hk _=>hb.block k hk⟩
 clear h;by_cases hlt:a<s.size
 . have hh:=ae5_ (b:=b) hlt;have hnl:¬(s.size:Int)<=(a:Int):=o_;by_cases hb:s[a].toNat=b
   . have e1:hit s a b=true:=by rw[hh];simp[hb]
     rw[e1];have hb1:((s[a].toNat:Int) !=(b:Int))=false:=by simp[hb]
     clear hh e1;go_enter func169,ntmps169;go_wp2_with fail;go_quiet (fail);go_wp2_with fail;go_ret;refine⟨rfl, ?_,(HD nq).set ⟨bp,1,none⟩ _ (.inl rfl)⟩;have hg:=aq_.go (w:=w.drewN nq) (b:=a+1) HP.out;rw[show((a+1:Nat):Int)=(a:Int)+1 by simp]at hg;exact hg
   . have e1:hit s a b=false:=by rw[hh];simp[hb]
     rw[e1];have hb1:((s[a].toNat:Int) !=(b:Int))=true:=s_;clear hh e1;go_enter func169,ntmps169;go_wp2_with fail;go_quiet (fail);go_wp2_with fail;go_ret;exact⟨rfl,HP.out,HD nq⟩
 . have e1:hit s a b=false:=by unfold hit;simp[hlt]
   rw[e1];have hnl:(s.size:Int)<=(a:Int):=o_;clear e1;go_enter func169,ntmps169;go_wp2_with fail;go_quiet (fail);go_wp2_with fail;go_ret;exact⟨rfl,HP.out,HD nq⟩
def ad_ (s:ByteArray)(a:Nat):Nat:=(s.data.toList.getD a 0).toNat
theorem a9_ {s:ByteArray}{a:Nat}(h:a<s.size):ad_ s a=s[a].toNat:=by
 unfold ad_;have h':a<s.data.toList.length:=by rw[Array.length_toList];exact h
 rw[List.getD_eq_getElem?_getD,List.getElem?_eq_getElem h'];rfl
theorem g1_ {s:ByteArray}{a:Nat}(h:¬a<s.size):ad_ s a=0:=by
 unfold ad_;rw[List.getD_eq_getElem?_getD,List.getElem?_eq_none (by rw[Array.length_toList];exact Nat.le_of_not_lt h)];rfl
def bs_ (s:ByteArray)(a:Nat):Bool:=decide (97<=ad_ s a)&&decide (ad_ s a<=104)
def bv_ (s:ByteArray)(a:Nat):Bool:=decide (48<=ad_ s a)&&decide (ad_ s a<=57)
theorem d1_ {bp:Nat}(w:World)(q:Nat):ab_ (fun k=>k=bp) w (w.drewN q):=by
 have hb:=below_drewN (Below.refl w.heap.size w) q;exact⟨hb.os,hb.tape,hb.output,hb.size,fun k hk _=>hb.block k hk⟩
theorem ab_.drewN {S:Nat->Prop}{w w2:World}(h:ab_ S w w2)(q:Nat):ab_ S w (w2.drewN q):=by
 have hb:=below_drewN (Below.refl w2.heap.size w2) q;exact⟨hb.os.trans h.os,hb.tape.trans h.tape,hb.output.trans h.output,Nat.le_trans h.size hb.size,fun k hk hs=>(hb.block k (Nat.lt_of_lt_of_le hk h.size)).trans (h.block k hk hs)⟩
theorem rn_ (bp:Nat)(s:ByteArray)(a:Nat)(vn:Value)(bk:Bool)(sp:Int)(w:World)(hs:s.size<=40)(h:aq_ w bp s a vn bk sp):
 Calls prog 194 #[.pointer (some ⟨bp,0,none⟩)] w
  fun e w'=>e= .returned (.tuple #[.int .i64 (if bs_ s a then(ad_ s a:Int)- 97 else 0),.bool (bs_ s a)])/\aq_ w' bp s (if bs_ s a then a+1 else a) vn bk sp/\ab_ (fun k=>k=bp) w w':=by
 obtain⟨c0,c1,c2,c3,c4,f1,f3,f4⟩:=h.cells;have HP:=hi__ h;clear h;by_cases hlt:a<s.size
 . have hh:=a9_ hlt;have hnl:¬(s.size:Int)<=(a:Int):=o_;by_cases hb:97<=s[a].toNat/\s[a].toNat<=104
   . have e1:bs_ s a=true:=by unfold bs_;rw[hh];simp[hb.1,hb.2]
     simp only[e1,if_true];rw[hh];have HC:=fun w=>kw_ (s[a].toNat:Int) w o_ o_
     clear hh e1;go_enter func194,ntmps194;go_wp2_with fail;go_quiet (fail);go_wp2_with fail;have HQ:Hid (aq_ (w.drewN nq) bp s a vn bk sp):=HP.out;have hT:=d1_ (bp:=bp) w nq;generalize w.drewN nq=w2 at*;obtain⟨c0,c1,c2,c3,c4,f1,f3,f4⟩:=HQ.out.cells;go_quiet ((go_at_call 121;exact Calls.quiet_of_same (HC _)));go_wp2_with fail;go_ret2;refine⟨rfl, ?_,(hT.drewN nq).set ⟨bp,1,none⟩ _ (.inl rfl)⟩;have hg:=aq_.go (w:=w2.drewN nq) (b:=a+1) HQ.out;rw[show((a+1:Nat):Int)=(a:Int)+1 by simp]at hg;exact hg
   . have e1:bs_ s a=false:=by unfold bs_;rw[hh];simp;omega
     simp only[e1,Bool.false_eq_true,if_false];have HC:=fun w=>yg_ (s[a].toNat:Int) w o_
     clear hh e1;go_enter func194,ntmps194;go_wp2_with fail;go_quiet (fail);go_wp2_with fail;have HQ:Hid (aq_ (w.drewN nq) bp s a vn bk sp):=HP.out;have hT:=d1_ (bp:=bp) w nq;generalize w.drewN nq=w2 at*;obtain⟨c0,c1,c2,c3,c4,f1,f3,f4⟩:=HQ.out.cells;go_quiet ((go_at_call 121;exact Calls.quiet_of_same (HC _)));go_wp2_with fail;go_ret2;exact⟨rfl,HQ.out,hT.drewN nq⟩
 . have e1:bs_ s a=false:=by unfold bs_;rw[g1_ hlt];simp
   simp only[e1,Bool.false_eq_true,if_false];have hnl:(s.size:Int)<=(a:Int):=o_;clear e1;go_enter func194,ntmps194;go_wp2_with fail;go_quiet (fail);go_wp2_with fail;go_ret2;exact⟨rfl,HP.out,d1_ w nq⟩
theorem ro_ (bp:Nat)(s:ByteArray)(a:Nat)(vn:Value)(bk:Bool)(sp:Int)(w:World)(hs:s.size<=40)(h:aq_ w bp s a vn bk sp):
 Calls prog 195 #[.pointer (some ⟨bp,0,none⟩)] w
  fun e w'=>e= .returned (.tuple #[.int .i64 (if bv_ s a then(ad_ s a:Int)- 48 else 0),.bool (bv_ s a)])/\aq_ w' bp s (if bv_ s a then a+1 else a) vn bk sp/\ab_ (fun k=>k=bp) w w':=by
 obtain⟨c0,c1,c2,c3,c4,f1,f3,f4⟩:=h.cells;have HP:=hi__ h;clear h;by_cases hlt:a<s.size
 . have hh:=a9_ hlt;have hnl:¬(s.size:Int)<=(a:Int):=o_;by_cases hb:48<=s[a].toNat/\s[a].toNat<=57
   . have e1:bv_ s a=true:=by unfold bv_;rw[hh];simp[hb.1,hb.2]
     simp only[e1,if_true];rw[hh];have q1:¬(s[a].toNat:Int)<48:=o_;have q2:¬(57:Int)<(s[a].toNat:Int):=o_;have q3:(s[a].toNat:Int)<=57:=o_;have q4:(48:Int)<=(s[a].toNat:Int):=o_;clear hh e1;go_enter func195,ntmps195;go_wp2_with fail;go_quiet (fail);go_wp2_with fail;have HQ:Hid (aq_ (w.drewN nq) bp s a vn bk sp):=HP.out;have hT:=d1_ (bp:=bp) w nq;generalize w.drewN nq=w2 at*;obtain⟨c0,c1,c2,c3,c4,f1,f3,f4⟩:=HQ.out.cells;go_quiet (fail);go_wp2_with fail;go_ret2;refine⟨rfl, ?_,(hT.drewN nq).set ⟨bp,1,none⟩ _ (.inl rfl)⟩;have hg:=aq_.go (w:=w2.drewN nq) (b:=a+1) HQ.out;rw[show((a+1:Nat):Int)=(a:Int)+1 by simp]at hg;exact hg
   . have e1:bv_ s a=false:=by unfold bv_;rw[hh];simp;omega
     simp only[e1,Bool.false_eq_true,if_false];clear hh e1;have hcase:(s[a].toNat:Int)<48\/(¬(s[a].toNat:Int)<48/\(57:Int)<(s[a].toNat:Int)):=o_;rcases hcase with q1|⟨q1,q2⟩
     all_goals
      go_enter func195,ntmps195;go_wp2_with fail;go_quiet (fail);go_wp2_with fail;have HQ:Hid (aq_ (w.drewN nq) bp s a vn bk sp):=HP.out;have hT:=d1_ (bp:=bp) w nq;generalize w.drewN nq=w2 at*;obtain⟨c0,c1,c2,c3,c4,f1,f3,f4⟩:=HQ.out.cells;go_quiet (fail);go_wp2_with fail;go_ret2;exact⟨rfl,HQ.out,hT.drewN nq⟩
 . have e1:bv_ s a=false:=by unfold bv_;rw[g1_ hlt];simp
   simp only[e1,Bool.false_eq_true,if_false];have hnl:(s.size:Int)<=(a:Int):=o_;clear e1;go_enter func195,ntmps195;go_wp2_with fail;go_quiet (fail);go_wp2_with fail;go_ret2;exact⟨rfl,HP.out,d1_ w nq⟩
theorem aq_.back {w:World}{bp:Nat}{s:ByteArray}{a:Nat}{vn:Value}{bk:Bool}{sp:Int}(h:aq_ w bp s a vn bk sp)(pl:Int):aq_ ((w.setCell ⟨bp,3,none⟩ (.bool true)).setCell ⟨bp,4,none⟩ (.int .i64 pl)) bp s a vn true pl:=by
 unfold aq_ at h ⊢;simp[World.setCell,Array.getElem?_modify,h]
theorem n6_ (bp:Nat)(s:ByteArray)(a:Nat)(vn:Value)(bk:Bool)(sp pl:Int)(w:World)(h:aq_ w bp s a vn bk sp):
 Calls prog 196 #[.pointer (some ⟨bp,0,none⟩),.int .i64 pl] w
  fun e w'=>e= .returned (.tuple #[])/\aq_ w' bp s a vn true (if bk then sp else pl)/\ab_ (fun k=>k=bp) w w':=by
 obtain⟨c0,c1,c2,c3,c4,f1,f3,f4⟩:=h.cells;have HP:=hi__ h;clear h;cases bk
 . go_enter func196,ntmps196;go_wp2_with fail;go_end0
   exact⟨rfl,HP.out.back pl,((ab_.refl (fun k=>k=bp) w).set ⟨bp,3,none⟩ _ (.inl rfl)).set ⟨bp,4,none⟩ _ (.inl rfl)⟩
 . go_enter func196,ntmps196;go_wp2_with fail;go_end0
   exact⟨rfl,HP.out,ab_.refl _ w⟩
def cs_ (s:ByteArray)(a:Nat):Bool:=decide (s.size<=a)||(ad_ s a==124)||(ad_ s a==41)
theorem aap_ (bp:Nat)(s:ByteArray)(a:Nat)(vn:Value)(bk:Bool)(sp:Int)(w:World)(hs:s.size<=40)(h:aq_ w bp s a vn bk sp):
 Calls prog 183 #[.pointer (some ⟨bp,0,none⟩)] w
  fun e w'=>e= .returned (.bool (cs_ s a))/\aq_ w' bp s a vn bk sp/\ab_ (fun k=>k=bp) w w':=by
 obtain⟨c0,c1,c2,c3,c4,f1,f3,f4⟩:=h.cells;have HP:=hi__ h;clear h;by_cases hlt:a<s.size
 . have hh:=a9_ hlt;have hnl:¬(s.size:Int)<=(a:Int):=o_;have hcase:(s[a].toNat=124)\/(s[a].toNat≠124/\s[a].toNat=41)\/(s[a].toNat≠124/\s[a].toNat≠41):=o_;have e1:cs_ s a=((s[a].toNat==124)||(s[a].toNat==41)):=by unfold cs_;rw[hh,decide_eq_false o_,Bool.false_or]
   rw[e1];clear hh e1;rcases hcase with q1|⟨q1,q2⟩|⟨q1,q2⟩
   . have b1:((s[a].toNat:Int)==124)=true:=s_;have b3:(s[a].toNat==124)=true:=by simp[q1]
     rw[b3,Bool.true_or];go_enter func183,ntmps183;go_wp2_with fail;go_quiet (fail);go_wp2_with fail;have HQ:Hid (aq_ (w.drewN nq) bp s a vn bk sp):=HP.out;have hT:=d1_ (bp:=bp) w nq;generalize w.drewN nq=w2 at*;obtain⟨c0,c1,c2,c3,c4,f1,f3,f4⟩:=HQ.out.cells;go_quiet (fail);go_wp2_with fail;go_ret;exact⟨bh_ i_,HQ.out,hT.drewN nq⟩
   . have b1:((s[a].toNat:Int)==124)=false:=s_;have b2:((s[a].toNat:Int)==41)=true:=s_;have b4:(s[a].toNat==41)=true:=by simp[q2]
     rw[b4,Bool.or_true];go_enter func183,ntmps183;go_wp2_with fail;go_quiet (fail);go_wp2_with fail;have HQ:Hid (aq_ (w.drewN nq) bp s a vn bk sp):=HP.out;have hT:=d1_ (bp:=bp) w nq;generalize w.drewN nq=w2 at*;obtain⟨c0,c1,c2,c3,c4,f1,f3,f4⟩:=HQ.out.cells;go_quiet (fail);go_wp2_with fail;go_ret;exact⟨bh_ i_,HQ.out,hT.drewN nq⟩
   . have b1:((s[a].toNat:Int)==124)=false:=s_;have b2:((s[a].toNat:Int)==41)=false:=s_;have b3:(s[a].toNat==124)=false:=by simp[q1]
     have b4:(s[a].toNat==41)=false:=by simp[q2]
     rw[b3,b4,Bool.or_false];go_enter func183,ntmps183;go_wp2_with fail;go_quiet (fail);go_wp2_with fail;have HQ:Hid (aq_ (w.drewN nq) bp s a vn bk sp):=HP.out;have hT:=d1_ (bp:=bp) w nq;generalize w.drewN nq=w2 at*;obtain⟨c0,c1,c2,c3,c4,f1,f3,f4⟩:=HQ.out.cells;go_quiet (fail);go_wp2_with fail;go_ret;exact⟨bh_ i_,HQ.out,hT.drewN nq⟩
 . have e1:cs_ s a=true:=by unfold cs_;simp;left;left;omega
   rw[e1];have hnl:(s.size:Int)<=(a:Int):=o_;clear e1;go_enter func183,ntmps183;go_wp2_with fail;go_quiet (fail);go_wp2_with fail;go_ret;exact⟨rfl,HP.out,d1_ w nq⟩
end Go.Proofs.YtpngikmcjkjdaaaGreatDoor
