import Derived.Test.YtpngikmcjkjdaaaGreatDoorC9
set_option linter.unusedVariables false
set_option linter.unusedSimpArgs false
set_option maxRecDepth 20000
set_option maxHeartbeats 80000000
namespace Go.Proofs.YtpngikmcjkjdaaaGreatDoor
open Go.RowKit Tryz List Nat
variable {bk e e1 e2 en:Bool} {s:ByteArray} {sp:Int} {ps:List Nat} {l l1 l2:List Nat->Prop} {B F F1 F2 L L1 L2 S a b bp c cap g hi i least lo dm n p q x:Nat} {N:Nat->Bool} {cj cw:Nat->Nat} {vn:Value} {w w2:World}
theorem oi_ (a b:Nat)(ha:a<9223372036854775808)(hb:b<9223372036854775808):bits BinOp.and IntKind.i64 (a:Int) (b:Int)=((a&&&b:Nat):Int):=by
 have h:(BitVec.ofInt 64 (a:Int)&&&BitVec.ofInt 64 (b:Int)).toNat=a&&&b:=by
  simp only[BitVec.toNat_and,BitVec.ofInt_natCast,BitVec.toNat_ofNat];rw[mod_eq_of_lt o_,mod_eq_of_lt o_]
 have c:a&&&b<=a:=and_le_left;show IntKind.i64.wrap ((BitVec.ofInt 64 (a:Int)&&&BitVec.ofInt 64 (b:Int)).toNat:Int)=_
 rw[h,IntKind.wrap_i64];omega
theorem ks_ (a b:Nat)(ha:a<2048)(hb:b<2048):bits BinOp.or IntKind.i64 (a:Int) (b:Int)=((a|||b:Nat):Int):=by
 have h:(BitVec.ofInt 64 (a:Int)|||BitVec.ofInt 64 (b:Int)).toNat=a|||b:=by
  simp only[BitVec.toNat_or,BitVec.ofInt_natCast,BitVec.toNat_ofNat];rw[mod_eq_of_lt o_,mod_eq_of_lt o_]
 have c:a|||b<2^11:=or_lt_two_pow o_ o_
 show IntKind.i64.wrap ((BitVec.ofInt 64 (a:Int)|||BitVec.ofInt 64 (b:Int)).toNat:Int)=_
 rw[h,IntKind.wrap_i64];omega
theorem qt_ (i:Nat)(h:i<=11):wrap64 (2^i)=((2^i:Nat):Int):=by
 have a:2^i<=2^11:=Nat.pow_le_pow_right o_ h;have b:((2:Int)^i)=((2^i:Nat):Int):=i_;rw[b];generalize (2^i:Nat)=m at a ⊢;unfold wrap64;omega
theorem ua_ (S i:Nat):(S&&&2^i !=0)=S.testBit i:=by
 have e:S&&&2^i=if S.testBit i then 2^i else 0:=by
  apply eq_of_testBit_eq;intro j;rw[testBit_and,testBit_two_pow];by_cases h:i=j
  . subst h;cases hb:S.testBit i
    . simp
    . simp
  . cases hb:S.testBit i
    . simp[h]
    . simp[h]
 rw[e];cases hb:S.testBit i
 . simp
 . simp
def fn_ (cj:Nat->Nat)(S:Nat):Nat->Nat
 |0=>0
 |i+1=>if S.testBit i then fn_ cj S i|||cj i else fn_ cj S i
theorem ub_ (h:∀i,i<n->cj i<2048):fn_ cj S n<2048:=by
 induction n with
 |zero=>simp[fn_]
 |succ n ih=>
  have a:=ih (fun i hi=>h i o_);simp only[fn_];split
  . exact or_lt_two_pow (n:=11) a (h n o_)
  . exact a
theorem acb_ :(fn_ cj S n).testBit q=true↔∃p,p<n/\S.testBit p=true/\(cj p).testBit q=true:=by
 induction n with
 |zero=>simp[fn_]
 |succ n ih=>
  simp only[fn_];by_cases h:S.testBit n=true
  . rw[if_pos h,testBit_or,Bool.or_eq_true,ih];constructor
    . rintro(⟨p,c,a,b⟩|c)
      . exact⟨p,o_,a,b⟩
      . exact⟨n,o_,h,c⟩
    . rintro⟨p,c,a,b⟩;by_cases e:p=n
      . subst e;exact .inr b
      . exact .inl ⟨p,o_,a,b⟩
  . rw[if_neg h,ih];constructor
    . rintro⟨p,c,a,b⟩;exact⟨p,o_,a,b⟩
    . rintro⟨p,c,a,b⟩;by_cases e:p=n
      . subst e;exact absurd a h
      . exact⟨p,o_,a,b⟩
theorem acc_ (bm gb n cap:Nat)(cj:Nat->Nat)(S:Nat)(w:World)(hn:n<=11)(hS:S<2048)(hb:∀i,i<n->cj i<2048)(h0:w.cell? ⟨bm,0,none⟩=some (.slice (some ⟨gb,0,none⟩) n cap))(hc:dc_ w gb n cj):
 Calls prog 173 #[.pointer (some ⟨bm,0,none⟩),.int .i64 S] w fun e w'=>e= .returned (.int .i64 ((fn_ cj S n:Nat):Int))/\w=w':=by
 go_enter func173,ntmps173;go_wp2_with fail;go_loop [5,6] (fun v i'=>∃i:Nat,i<=n/\i'= .int .i64 i/\v= .int .i64 ((fn_ cj S i:Nat):Int)) (fun _ i'=>n - (intOf i').toNat)
 case atStart=>exact⟨0,o_,rfl,rfl⟩
 case round=>
  obtain⟨i,u,rfl,rfl⟩:=hrel;by_cases d:i<n
  . have s:=hc i d;have f:=qt_ i o_;have o:2^i<=2^11:=Nat.pow_le_pow_right o_ o_;have c:=oi_ S (2^i) o_ o_;have q:=ub_ (cj:=cj) (S:=S) (n:=i) (fun j hj=>hb j o_);have r:=ks_ (fn_ cj S i) (cj i) q (hb i d);have a:Hid (fn_ cj S (i+1)=if S.testBit i then fn_ cj S i|||cj i else fn_ cj S i):=rfl;have b:=ua_ S i;obtain⟨m,h⟩:=δ (S&&&2^i);obtain⟨on,k⟩:=δ (fn_ cj S i|||cj i);obtain⟨g,l⟩:=δ (S.testBit i);rw[h.out]at c b;rw[k.out]at r a;rw[l.out]at a b;rw[<-f]at c;have t:((m:Int) !=0)=g:=by
     rw[<-b];rw[Bool.eq_iff_iff];simp
    clear b f o;cases g
    . go_wp2_with fail;go_round
      case rel=>exact⟨i+1,o_,by go_num,by rw[a.out];rfl⟩
      case measure=>exact c_
    . go_wp2_with fail;go_round
      case rel=>exact⟨i+1,o_,by go_num,by rw[a.out];rfl⟩
      case measure=>exact c_
  . have p:i=n:=o_;subst p;go_wp2_with fail;go_ret;exact⟨rfl,rfl⟩
def bf_ (cj:Nat->Nat)(L F i:Nat):Nat:=if L.testBit i then cj i|||F else cj i
theorem acd_ (X:Nat->Nat)(n i v:Nat):(Λ X n).set i (.int .i64 ((v:Nat):Int))=Λ (fun j=>if j=i then v else X j) n:=by
 apply ext_getElem?;intro j;rw[getElem?_set];simp only[Λ,length_map,length_range];by_cases a:j<n
 . by_cases e:i=j
   . subst e;simp[a]
   . simp[a,e,Ne.symm e]
 . by_cases e:i=j
   . subst e;simp[a]
   . simp[a,e]
theorem uc_ (bm base gb n cap:Nat)(cj:Nat->Nat)(L F:Nat)(w:World)(hn:n<=11)(hL:L<2048)(hF:F<2048)(hb:∀i,i<n->cj i<2048)(h0:w.cell? ⟨bm,0,none⟩=some (.slice (some ⟨gb,0,none⟩) n cap))(hne:bm≠gb)
 (ho:w.ownsRow base 3 1 (.slice (some ⟨gb,0,none⟩) n cap) n (Λ cj n)):
 Calls prog 172 #[.pointer (some ⟨bm,0,none⟩),.int .i64 L,.int .i64 F] w fun e w'=>e= .returned (.tuple #[])/\ε (fun b=>b=gb) w w'/\w'.ownsRow base 3 1 (.slice (some ⟨gb,0,none⟩) n cap) n (Λ (bf_ cj L F) n):=by
 go_enter func172,ntmps172;go_wp2_with fail;go_loopw [6] (fun i' wr=>∃i:Nat,i<=n/\i'= .int .i64 i/\ε (fun b=>b=gb) w wr/\wr.ownsRow base 3 1 (.slice (some ⟨gb,0,none⟩) n cap) n (Λ (fun j=>if j<i then bf_ cj L F j else cj j) n)) (fun i' _=>n - (intOf i').toNat)
 case atStart=>exact⟨0,o_,rfl,ε.refl _ _,by simpa using ho⟩
 case round=>
  obtain⟨i,E,rfl,f,c⟩:=hrel;have G:wr.cell? ⟨bm,0,none⟩=some (.slice (some ⟨gb,0,none⟩) n cap):=(World.cell?_of_block (a:=⟨bm,0,none⟩) (f.block bm (Χ h0) (fun e=>hne e))).trans h0;by_cases q:i<n
  . have B:=(c.cellAt i o_).trans (show(Λ (fun j=>if j<i then bf_ cj L F j else cj j) n)[i]? =some (.int .i64 ((cj i:Nat):Int))by simp[Λ,q]);have C:=c.frozenAt i;have r:=qt_ i o_;have y:2^i<=2^11:=Nat.pow_le_pow_right o_ o_;have p:=oi_ L (2^i) o_ o_;have A:=ks_ (cj i) F (hb i q) hF;have g:Hid (bf_ cj L F i=if L.testBit i then cj i|||F else cj i):=rfl;have m:=ua_ L i;obtain⟨x,t⟩:=δ (L&&&2^i);obtain⟨on,u⟩:=δ (cj i|||F);obtain⟨s,v⟩:=δ (L.testBit i);rw[t.out]at p m;rw[u.out]at A g;rw[v.out]at g m;rw[<-r]at p;have D:((x:Int) !=0)=s:=by
     rw[<-m,Bool.eq_iff_iff];simp
    have l:=α c;have k:=α f;clear m r y c f;cases s
    . go_wp2_with fail;go_roundw
      case rel=>
       refine⟨i+1,o_,by go_num,k.out, ?_⟩;have h:=l.out;have e:Λ (fun j=>if j<i then bf_ cj L F j else cj j) n=Λ (fun j=>if j<i+1 then bf_ cj L F j else cj j) n:=by
        simp only[Λ];apply map_congr_left;intro j o;by_cases e:j=i
        . subst e;simp only[Nat.lt_irrefl,if_false,lt_succ_self,if_true];rw[g.out];rfl
        . by_cases d:j<i
          . rw[if_pos d,if_pos o_]
          . rw[if_neg d,if_neg o_]
       rw[e]at h;exact h
      case measure=>exact c_
    . go_wp2_with fail;go_roundw
      case rel=>
       refine⟨i+1,o_,by go_num,k.out.set _ _ (.inl rfl), ?_⟩;have h:=(l.out.stored i (.int .i64 ((on:Nat):Int))).1;rw[acd_]at h;have e:Λ (fun j=>if j=i then on else if j<i then bf_ cj L F j else cj j) n=Λ (fun j=>if j<i+1 then bf_ cj L F j else cj j) n:=by
        simp only[Λ];apply map_congr_left;intro j o;by_cases e:j=i
        . subst e;simp only[lt_succ_self,if_true];rw[g.out];rfl
        . by_cases d:j<i
          . rw[if_neg e,if_pos d,if_pos o_]
          . rw[if_neg e,if_neg d,if_neg o_]
       rw[e]at h;exact h
      case measure=>exact c_
  . have z:i=n:=o_;subst z;have l:Hid (wr.ownsRow base 3 1 (.slice (some ⟨gb,0,none⟩) i cap) i (Λ (bf_ cj L F) i)):=by
     have e:Λ (fun j=>if j<i then bf_ cj L F j else cj j) i=Λ (bf_ cj L F) i:=by
      simp only[Λ];apply map_congr_left;intro j o;rw[if_pos (by simpa using o)]
     rw[e]at c;exact c
    have k:=α f;clear c f;go_wp2_with fail;go_end0
    exact⟨rfl,k.out,l.out⟩
theorem ud_ {B B' rd:Nat->Nat->Prop}{L L':Nat->Prop}(hB:∀p q,B p q↔B' p q)(hL:∀p,L p↔L' p)(p:Nat)(x:List Nat):Way B rd L p x↔Way B' rd L' p x:=
 ⟨Way.mono (fun p q h=>(hB p q).1 h) (fun p h=>(hL p).1 h),Way.mono (fun p q h=>(hB p q).2 h) (fun p h=>(hL p).2 h)⟩
theorem ll_ {rd:Nat->Nat->Prop}{s t:Str rd}(he:s.e↔t.e)(hF:∀p,s.F p↔t.F p)(hL:∀p,s.L p↔t.L p)(hB:∀p q,s.B p q↔t.B p q)(x:List Nat):s.acc x↔t.acc x:=by
 unfold Str.acc;rw[he];constructor
 . rintro(h|⟨p,a,b⟩)
   . exact .inl h
   . exact .inr ⟨p,(hF p).1 a,(ud_ hB hL p x).1 b⟩
 . rintro(h|⟨p,a,b⟩)
   . exact .inl h
   . exact .inr ⟨p,(hF p).2 a,(ud_ hB hL p x).2 b⟩
def rdB (cw:Nat->Nat)(p c:Nat):Prop:=(cw c).testBit p=true
def f6_ (cw cj:Nat->Nat)(lo hi:Nat)(e:Bool)(F L:Nat):Str (rdB cw):=
 ⟨lo,hi,e=true,fun p=>F.testBit p=true,fun p=>L.testBit p=true,fun p q=>(lo<=p/\p<hi)/\(cj p).testBit q=true⟩
structure ah_ (cw cj:Nat->Nat)(lo hi:Nat)(e:Bool)(F L:Nat)(l:List Nat->Prop):Prop where
 le:lo<=hi
 fi:∀p,F.testBit p=true->lo<=p/\p<hi
 la:∀p,L.testBit p=true->lo<=p/\p<hi
 be:∀p q,lo<=p->p<hi->(cj p).testBit q=true->lo<=q/\q<hi
 ac:∀x,(f6_ cw cj lo hi e F L).acc x↔l x
theorem ah_.fj (h:ah_ cw cj lo hi e F L l):(f6_ cw cj lo hi e F L).In:=
 ⟨h.le,h.fi,h.la,fun p q hb=>⟨hb.1,h.be p q hb.1.1 hb.1.2 hb.2⟩⟩
theorem ah_.dB {l':List Nat->Prop}(h:ah_ cw cj lo hi e F L l)(hl:∀x,l x↔l' x):ah_ cw cj lo hi e F L l':=⟨h.le,h.fi,h.la,h.be,fun x=>(h.ac x).trans (hl x)⟩
theorem ah_.later {rdr' beh':Nat->Nat}(h:ah_ cw cj lo hi e F L l)(hb:∀p,lo<=p->p<hi->beh' p=cj p)(hr:∀p c,p<hi->(rdr' c).testBit p=(cw c).testBit p):ah_ rdr' beh' lo hi e F L l:=by
 refine⟨h.le,h.fi,h.la,fun p q a f h3=>h.be p q a f (by rw[<-hb p a f];exact h3),fun x=> ?_⟩;rw[<-h.ac x];have i:∀p q,((lo<=p/\p<hi)/\(beh' p).testBit q=true)↔((lo<=p/\p<hi)/\(cj p).testBit q=true):=by
  intro p q;constructor
  . rintro⟨a,f⟩;exact⟨a,by rw[<-hb p a.1 a.2];exact f⟩
  . rintro⟨a,f⟩;exact⟨a,by rw[hb p a.1 a.2];exact f⟩
 have j:∀p x,p<hi->(Way (f6_ rdr' beh' lo hi e F L).B (rdB rdr') (f6_ rdr' beh' lo hi e F L).L p x↔Way (f6_ cw cj lo hi e F L).B (rdB cw) (f6_ cw cj lo hi e F L).L p x):=by
  intro p x b;constructor
  . intro d;induction d with
    |last hr' hl=>exact .last (by unfold rdB at hr' ⊢;rw[<-hr _ _ b];exact hr') hl
    |step hr' hb' _ ih=>
     have g:=(i _ _).1 hb';exact .step (by unfold rdB at hr' ⊢;rw[<-hr _ _ b];exact hr') g (ih (h.be _ _ g.1.1 g.1.2 g.2).2)
  . intro d;induction d with
    |last hr' hl=>exact .last (by unfold rdB at hr' ⊢;rw[hr _ _ b];exact hr') hl
    |step hr' hb' _ ih=>exact .step (by unfold rdB at hr' ⊢;rw[hr _ _ b];exact hr') ((i _ _).2 hb') (ih (h.be _ _ hb'.1.1 hb'.1.2 hb'.2).2)
 constructor
 . rintro(a|⟨p,b,d⟩)
   . exact .inl a
   . exact .inr ⟨p,b,(j p x (h.fi p b).2).1 d⟩
 . rintro(a|⟨p,b,d⟩)
   . exact .inl a
   . exact .inr ⟨p,b,(j p x (h.fi p b).2).2 d⟩
theorem mv_ :(bf_ cj L F p).testBit q=true↔(cj p).testBit q=true\/(L.testBit p=true/\F.testBit q=true):=by
 unfold bf_;by_cases h:L.testBit p=true
 . rw[if_pos h,testBit_or,Bool.or_eq_true];simp[h]
 . rw[if_neg h];simp[h]
theorem ah_.chain (h1:ah_ cw cj lo dm e1 F1 L1 l1)(h2:ah_ cw cj dm hi e2 F2 L2 l2):
 ah_ cw (bf_ cj L1 F2) lo hi (e1&&e2) (if e1 then F1|||F2 else F1) (if e2 then L2|||L1 else L2) (Cat l1 l2):=by
 have e:=h1.le;have f:=h2.le;have c:∀p,(if e1 then F1|||F2 else F1).testBit p=true↔F1.testBit p=true\/(e1=true/\F2.testBit p=true):=by
  intro p;cases e1<;>simp[testBit_or]
 have d:∀p,(if e2 then L2|||L1 else L2).testBit p=true↔L2.testBit p=true\/(e2=true/\L1.testBit p=true):=by
  intro p;cases e2<;>simp[testBit_or]
 refine⟨o_,fun p a=> ?_,fun p a=> ?_,fun p q hp1 hp2 hb=> ?_,fun x=> ?_⟩
 . rcases (c p).1 a with h|⟨_,h⟩
   . have:=h1.fi p h;omega
   . have:=h2.fi p h;omega
 . rcases (d p).1 a with h|⟨_,h⟩
   . have:=h2.la p h;omega
   . have:=h1.la p h;omega
 . rcases mv_.1 hb with h|⟨_,h⟩
   . by_cases b:p<dm
     . have:=h1.be p q hp1 b h;omega
     . have:=h2.be p q o_ hp2 h;omega
   . have:=h2.fi q h;omega
 . rw[<-Cat.congr h1.ac h2.ac x,<-agk_ h1.fj h2.fj rfl x];refine ll_ ?_ c d (fun p q=> ?_) x
   . show(e1&&e2)=true↔e1=true/\e2=true
     simp
   . show((lo<=p/\p<hi)/\(bf_ cj L1 F2 p).testBit q=true)↔((lo<=p/\p<dm)/\(cj p).testBit q=true)\/((dm<=p/\p<hi)/\(cj p).testBit q=true)\/(L1.testBit p=true/\F2.testBit q=true)
     rw[mv_];constructor
     . rintro⟨a,h|h⟩
       . by_cases b:p<dm
         . exact .inl ⟨⟨a.1,b⟩,h⟩
         . exact .inr (.inl ⟨⟨o_,a.2⟩,h⟩)
       . exact .inr (.inr h)
     . rintro(⟨a,h⟩|⟨a,h⟩|h)
       . exact⟨⟨a.1,o_⟩,.inl h⟩
       . exact⟨⟨o_,a.2⟩,.inl h⟩
       . have:=h1.la p h.1;exact⟨⟨this.1,o_⟩,.inr h⟩
theorem ah_.alt (h1:ah_ cw cj lo dm e1 F1 L1 l1)(h2:ah_ cw cj dm hi e2 F2 L2 l2):
 ah_ cw cj lo hi (e1||e2) (F1|||F2) (L1|||L2) (fun x=>l1 x\/l2 x):=by
 have c:=h1.le;have d:=h2.le;refine⟨o_,fun p a=> ?_,fun p a=> ?_,fun p q hp1 hp2 hb=> ?_,fun x=> ?_⟩
 . rw[testBit_or,Bool.or_eq_true]at a;rcases a with h|h
   . have:=h1.fi p h;omega
   . have:=h2.fi p h;omega
 . rw[testBit_or,Bool.or_eq_true]at a;rcases a with h|h
   . have:=h1.la p h;omega
   . have:=h2.la p h;omega
 . by_cases b:p<dm
   . have:=h1.be p q hp1 b hb;omega
   . have:=h2.be p q o_ hp2 hb;omega
 . rw[<-h1.ac x,<-h2.ac x,<-agl_ h1.fj h2.fj rfl x];refine ll_ ?_ (fun p=> ?_) (fun p=> ?_) (fun p q=> ?_) x
   . show(e1||e2)=true↔e1=true\/e2=true
     simp
   . show(F1|||F2).testBit p=true↔F1.testBit p=true\/F2.testBit p=true
     rw[testBit_or,Bool.or_eq_true]
   . show(L1|||L2).testBit p=true↔L1.testBit p=true\/L2.testBit p=true
     rw[testBit_or,Bool.or_eq_true]
   . show((lo<=p/\p<hi)/\(cj p).testBit q=true)↔((lo<=p/\p<dm)/\(cj p).testBit q=true)\/((dm<=p/\p<hi)/\(cj p).testBit q=true)
     constructor
     . rintro⟨a,h⟩;by_cases b:p<dm
       . exact .inl ⟨⟨a.1,b⟩,h⟩
       . exact .inr ⟨⟨o_,a.2⟩,h⟩
     . rintro(⟨a,h⟩|⟨a,h⟩)
       . exact⟨⟨a.1,o_⟩,h⟩
       . exact⟨⟨o_,a.2⟩,h⟩
theorem ah_.opt (h:ah_ cw cj lo hi e F L l):ah_ cw cj lo hi true F L (fun x=>x=[]\/l x):=by
 refine⟨h.le,h.fi,h.la,h.be,fun x=> ?_⟩;rw[<-h.ac x,<-agn_ (s:=f6_ cw cj lo hi e F L) x];refine ll_ (s:=f6_ cw cj lo hi true F L) (t:=(f6_ cw cj lo hi e F L).free False) ?_ (fun p=>Iff.rfl) (fun p=>Iff.rfl) (fun p q=> ?_) x
 . show true=true↔True
   simp
 . show((lo<=p/\p<hi)/\(cj p).testBit q=true)↔((lo<=p/\p<hi)/\(cj p).testBit q=true)\/(False/\_)
   simp
theorem ah_.star (h:ah_ cw cj lo hi e F L l):ah_ cw (bf_ cj L F) lo hi true F L (e3_ l):=by
 refine⟨h.le,h.fi,h.la,fun p q h1 h2 a=> ?_,fun x=> ?_⟩
 . rcases mv_.1 a with a|⟨_,a⟩
   . exact h.be p q h1 h2 a
   . exact h.fi q a
 . rw[<-e3_.congr h.ac x,<-ago_ (s:=f6_ cw cj lo hi e F L) x];refine ll_ (s:=f6_ cw (bf_ cj L F) lo hi true F L) (t:=(f6_ cw cj lo hi e F L).free True) ?_ (fun p=>Iff.rfl) (fun p=>Iff.rfl) (fun p q=> ?_) x
   . show true=true↔True
     simp
   . show((lo<=p/\p<hi)/\(bf_ cj L F p).testBit q=true)↔((lo<=p/\p<hi)/\(cj p).testBit q=true)\/(True/\L.testBit p=true/\F.testBit q=true)
     rw[mv_];constructor
     . rintro⟨b,a|a⟩
       . exact .inl ⟨b,a⟩
       . exact .inr ⟨trivial,a⟩
     . rintro(⟨b,a⟩|⟨_,a⟩)
       . exact⟨b,.inl a⟩
       . exact⟨h.la p a.1,.inr a⟩
theorem ah_.nothing (cw cj:Nat->Nat)(lo:Nat):ah_ cw cj lo lo true 0 0 (fun x=>x=[]):=by
 refine⟨ι,fun p hp=>by simp at hp,fun p hp=>by simp at hp,fun p q h1 h2=>o_,fun x=> ?_⟩;rw[<-agp_ (rdB cw) lo x];refine ll_ (s:=f6_ cw cj lo lo true 0 0) (t:=Str.nothing (rdB cw) lo) ?_ (fun p=> ?_) (fun p=> ?_) (fun p q=> ?_) x
 . show true=true↔True
   simp
 . show(0:Nat).testBit p=true↔False
   simp
 . show(0:Nat).testBit p=true↔False
   simp
 . show((lo<=p/\p<lo)/\(cj p).testBit q=true)↔False
   constructor
   . rintro⟨h,_⟩;omega
   . exact fun h=>h.elim
theorem ah_.spot {S:Nat->Bool}(hb:cj lo=0)(hr:∀c,(cw c).testBit lo=S c):ah_ cw cj lo (lo+1) false (2^lo) (2^lo) (ζ.one S).lang:=by
 have b:∀p,(2^lo).testBit p=true↔p=lo:=by
  intro p;rw[testBit_two_pow];simp;exact⟨fun h=>h.symm,fun h=>h.symm⟩
 refine⟨o_,fun p h=> ?_,fun p h=> ?_,fun p q h1 h2 a=> ?_,fun x=> ?_⟩
 . have:=(b p).1 h;omega
 . have:=(b p).1 h;omega
 . rw[show p=lo by omega,hb]at a;simp at a
 . rw[<-agq_ (rd:=rdB cw) (lo:=lo) (S:=S) (fun c=>by unfold rdB;rw[hr c]) x];refine ll_ (s:=f6_ cw cj lo (lo+1) false (2^lo) (2^lo)) (t:=Str.spot (rdB cw) lo) ?_ (fun p=> ?_) (fun p=> ?_) (fun p q=> ?_) x
   . show false=true↔False
     simp
   . exact b p
   . exact b p
   . show((lo<=p/\p<lo+1)/\(cj p).testBit q=true)↔False
     constructor
     . rintro⟨h,a⟩;rw[show p=lo by omega,hb]at a;simp at a
     . exact fun h=>h.elim
theorem ah_.dX (h:ah_ cw cj lo hi e F L l)(hi':i<least):ah_ cw cj lo hi e F L (fi_ l least i en):=
 h.dB (fun x=>by unfold fi_;rw[if_pos hi'])
theorem ah_.eB (h:ah_ cw cj lo hi e F L l)(hi':¬i<least):ah_ cw cj lo hi true F L (fi_ l least i false):=
 h.opt.dB (fun x=>by unfold fi_;rw[if_neg hi',if_neg i_])
theorem ah_.dY (h:ah_ cw cj lo hi e F L l)(hi':¬i<least):ah_ cw (bf_ cj L F) lo hi true F L (fi_ l least i true):=
 h.star.dB (fun x=>by unfold fi_;rw[if_neg hi',if_pos rfl])
def swp (b x:Nat):Nat:=if x=b then 0 else if x=0 then b else x
theorem oj_ (b x:Nat):swp b (swp b x)=x:=by
 unfold swp;by_cases c:x=b
 . subst c;by_cases a:x=0
   . simp[a]
   . simp[Ne.symm a]
 . by_cases a:x=0
   . subst a;simp[c]
   . simp[c,a]
theorem ue_ (hb:b<n)(hx:x<n):swp b x<n:=by unfold swp;split<;>(try split)<;>omega
structure cw_ where
 n:Nat
 cj:Nat->Nat
 cw:Nat->Nat
 dc:Nat
namespace cw_
variable (m:cw_)
def step (S c:Nat):Nat:=fn_ m.cj S m.n&&&m.cw c
def succ (q c:Nat):Nat:=swp 1 (m.step (swp 1 q) c)
def good (q:Nat):Prop:=q<2048
def tab (ps:List Nat):γ where
 n:=ps.length
 acc k:=swp 1 (ps.getD k 0)&&&m.dc !=0
 b7:=pn m.succ ps
def lang (x:List Nat):Bool:=x.foldl m.step 1&&&m.dc !=0
variable {m}
theorem bound (h:Κ good m.succ ps p):ps.length<=2048:=i2_ 2048 ps h.nd (fun x hx=>h.inr x hx)
theorem numbered (h:Κ good m.succ ps (8*ps.length)):d4_ (m.tab ps) where
 pos:=h.len
 nx i c hi hc:=by
  have:=(h.dt (8*i+c) (by have:i<ps.length:=hi;omega)).2;rw[show(8*i+c)/8=i by omega,show(8*i+c)%8=c by omega]at this;exact ix_ this
 step p hp:=h.num p hp
 row i hi:=h.row i (by have:i<ps.length:=hi;omega)
 all:=h.cm
theorem qu_ (h:Κ good m.succ ps (8*ps.length))(k:Nat)(hk:k<ps.length)(x:List Nat)(hx:Γ x):
 (m.tab ps).read k x<ps.length/\swp 1 (ps.getD ((m.tab ps).read k x) 0)=x.foldl m.step (swp 1 (ps.getD k 0)):=by
 induction x generalizing k with
 |nil=>exact⟨hk,rfl⟩
 |cons c x ih=>
  have g:c<8:=hx c i_;have f:Γ x:=fun d hd=>hx d (by simp[hd])
  have a:=(h.dt (8*k+c) o_).2;rw[show(8*k+c)/8=k by omega,show(8*k+c)%8=c by omega]at a;have e:(m.tab ps).b7 k c<ps.length:=ix_ a;have b:ps.getD ((m.tab ps).b7 k c) 0=m.succ (ps.getD k 0) c:=i3_ ps _ a;simp only[γ.read,foldl_cons];have:=ih _ e f;rw[b]at this;rw[show m.step (swp 1 (ps.getD k 0)) c=swp 1 (m.succ (ps.getD k 0) c)by unfold succ;rw[oj_]];exact this
theorem tab_accepts (h:Κ good m.succ ps (8*ps.length))(x:List Nat)(hx:Γ x):(m.tab ps).b6 x=m.lang x:=by
 have:=qu_ h 0 h.len x hx;rw[h.hd]at this;simp only[γ.b6];show(swp 1 (ps.getD ((m.tab ps).read 0 x) 0)&&&m.dc !=0)=_
 rw[this.2];rfl
theorem ace_ :(S&&&L !=0)=true↔∃p,S.testBit p=true/\L.testBit p=true:=by
 rw[bne_iff_ne];constructor
 . intro h;obtain⟨p,a⟩:=exists_testBit_of_ne_zero h;rw[testBit_and,Bool.and_eq_true]at a;exact⟨p,a⟩
 . rintro⟨p,b,c⟩ e;have:(S&&&L).testBit p=true:=by rw[testBit_and,b,c];rfl
   rw[e]at this;simp at this
theorem uf_ (m:cw_)(x:List Nat)(S:Nat)(P:Nat->Prop)(hP:∀p,S.testBit p=true↔P p)(q:Nat):(x.foldl m.step S).testBit q=true↔(x.foldl (no_ (fun p q=>p<m.n/\(m.cj p).testBit q=true) (rdB m.cw)) P) q:=by
 induction x generalizing S P with
 |nil=>exact hP q
 |cons c x ih=>
  simp only[foldl_cons];refine ih _ _ (fun p=> ?_);unfold step no_ rdB;rw[testBit_and,Bool.and_eq_true,acb_];constructor
  . rintro⟨⟨a,b,d,e⟩,f⟩;exact⟨f,a,(hP a).1 d,b,e⟩
  . rintro⟨f,a,d,b,e⟩;exact⟨⟨a,b,(hP a).2 d,e⟩,f⟩
theorem lang_ok (h:ah_ cw cj 1 n e F L l)(h0:cj 0=0)(x:List Nat):
 lang ⟨n,bf_ cj 1 F,cw,if e then L|||1 else L⟩ x=true↔l x:=by
 unfold lang;rw[ace_,<-h.ac x];have g:=h.le;have d:∀p,(1:Nat).testBit p=true↔p=0:=by
  intro p;rw[show(1:Nat)=2^0 from rfl,testBit_two_pow];simp;exact⟨fun h=>h.symm,fun h=>h.symm⟩
 rw[<-agu_ (s:=f6_ cw cj 1 n e F L) (B:=fun p q=>p<n/\(bf_ cj 1 F p).testBit q=true) (L:=fun p=>(if e then L|||1 else L).testBit p=true) (a:=0) h.fj (by show 0<1;omega) (fun p q=> ?_) (fun p=> ?_) x]
 . constructor
   . rintro⟨p,b,c⟩;exact⟨p,(uf_ _ x 1 (fun p=>p=0) d p).1 b,c⟩
   . rintro⟨p,b,c⟩;exact⟨p,(uf_ _ x 1 (fun p=>p=0) d p).2 b,c⟩
 . show(p<n/\(bf_ cj 1 F p).testBit q=true)↔(p=0/\F.testBit q=true)\/((1<=p/\p<n)/\(cj p).testBit q=true)
   rw[mv_,d p];constructor
   . rintro⟨b,c|c⟩
     . by_cases f:p=0
       . rw[f,h0]at c;simp at c
       . exact .inr ⟨⟨o_,b⟩,c⟩
     . exact .inl c
   . rintro(⟨b,c⟩|⟨b,c⟩)
     . exact⟨o_,.inr ⟨b,c⟩⟩
     . exact⟨b.2,.inl c⟩
 . show(if e then L|||1 else L).testBit p=true↔(p=0/\e=true)\/L.testBit p=true
   cases e
   . simp
   . simp only[if_true,testBit_or,Bool.or_eq_true,d p];constructor
     . rintro(b|b)
       . exact .inr b
       . exact .inl ⟨b,trivial⟩
     . rintro(⟨b,_⟩|b)
       . exact .inr b
       . exact .inl b
end cw_
structure c6_ (w:World)(bm:Nat)(vb:Value)(n:Nat)(cj cw:Nat->Nat):Prop where
 cg:w.rowIs bm 184 9 (fun i=>if i=0 then vb else .int .i64 ((cw (i - 1):Nat):Int))
 own:w.ownsRow (bm+1) 3 1 vb n (Λ cj n)
 lb:∀i,i<n->cj i<2048
 lr:∀c,c<8->cw c<2048
def Ε (f:Nat->Bool):Array Value:= #[.bool (f 0),.bool (f 1),.bool (f 2),.bool (f 3),.bool (f 4),.bool (f 5),.bool (f 6),.bool (f 7)]
theorem co_ {t:Nat}{f:Nat->Bool}(h:w.heap[b]? =some (.cells (Ε f) t (0,0))):w.rowIs b t 8 (fun i=> .bool (f i)):=by
 refine⟨_,h,rfl,fun i hi=> ?_⟩;rcases (show i=0\/i=1\/i=2\/i=3\/i=4\/i=5\/i=6\/i=7 by omega)with rfl|rfl|rfl|rfl|rfl|rfl|rfl|rfl<;>rfl
theorem c6_.below {w1:World}{bm:Nat}{vb:Value}(h:c6_ w bm vb n cj cw)(hb:Bl w w1):c6_ w1 bm vb n cj cw:=
 ⟨h.cg.of_block (hb.block _ h.cg.lt),ao_ h.own hb,h.lb,h.lr⟩
theorem ug_ (bm:Nat)(vb:Value)(n:Nat)(cj cw:Nat->Nat)(f:Nat->Bool)(w:World)(hn:n<11)(h:c6_ w bm vb n cj cw):
 Calls prog 142 #[.pointer (some ⟨bm,0,none⟩),.agg (Ε f)] w
  fun e w'=>e= .returned (.int .i64 ((2^n:Nat):Int))/\∃vb',c6_ w' bm vb' (n+1) (fun i=>if i=n then 0 else cj i) (fun c=>if f c then cw c|||2^n else cw c)/\ε (fun b=>b=bm\/vb.ownBlock=some b) w w'/\(∀g,vb'.ownBlock=some g->vb.ownBlock=some g\/w.heap.size<=g):=by
 obtain⟨i3,ag,ak,al,am⟩:=info_parts e9_;obtain⟨W,E,y,-,-⟩:=ν w (Ε f) 128;have ae:W.heap.size=w.heap.size+1:=by rw[E];simp
 have b0:=aw_ E;have u:=h.below y;have x0:=u.cg.cell (i:=0) o_;simp only[if_true]at x0;obtain⟨p,q,rfl,aq⟩:=Β u.own;have av:=qt_ n o_;have ar:=u.cg.lt;go_enter func142,ntmps142;go_upto_region 1 with fail;rw[<-E];clear E;have I:Hid (c6_ (W.alloc (.cells #[.int .i64 0] 3)) bm (.slice p n q) n cj cw):=u.below ξ;have X:=I.out.own;have au:bm<w.heap.size:=h.cg.lt;have Q:Hid (∀g l o,o.ownsRow (bm+1) 3 1 (.slice (some ⟨g,0,none⟩) (n+1) l) (n+1) (Λ cj n++ [.int .i64 0])->(W.alloc (.cells #[.int .i64 0] 3)).grownBy o (Value.slice p n q).ownBlock->((Value.slice p n q).ownBlock=some g\/g=(W.alloc (.cells #[.int .i64 0] 3)).heap.size)->
  o.cell? ⟨bm,0,none⟩=some (.slice p n q)/\o.frozen? ⟨bm,0,none⟩=false/\
  Hid (c6_ (o.setCell ⟨bm,0,none⟩ (.slice (some ⟨g,0,none⟩) (n+1) l)) bm (.slice (some ⟨g,0,none⟩) (n+1) l) (n+1) (fun i=>if i=n then 0 else cj i) cw)/\
  Hid (ε (fun b=>b=bm\/(Value.slice p n q).ownBlock=some b) w (o.setCell ⟨bm,0,none⟩ (.slice (some ⟨g,0,none⟩) (n+1) l)))/\Hid ((o.setCell ⟨bm,0,none⟩ (.slice (some ⟨g,0,none⟩) (n+1) l)).rowIs w.heap.size 128 8 (fun i=> .bool (f i)))/\Hid (g≠w.heap.size)):=by
  intro g l o Y O t;have v:=I.out;have F:=fun k (e:(Value.slice p n q).ownBlock=some k)=>v.own.lt k e
  have V:=fun k (e:(Value.slice p n q).ownBlock=some k)=>h.own.lt k e
  have M:=hq_ v.cg O (fun e=>by have:=(F _ e).1;omega);have ai:=hq_ ((co_ b0).alloc (.cells #[.int .i64 0] 3)) O (fun e=>by have:=(V _ e).2;omega);have af:g≠w.heap.size:=by
   rcases t with t|t
   . have:=(V g t).2;omega
   . rw[t];simp;omega
  have e1:Λ cj n++ [.int .i64 0]=Λ (fun i=>if i=n then 0 else cj i) (n+1):=by
   rw[kp_];congr 1
   . simp only[Λ];apply map_congr_left;intro j P;have:j<n:=by simpa using P
     rw[if_neg o_]
   . simp
  rw[e1]at Y;have hx:=M.cell (i:=0) o_;simp only[if_true]at hx;refine⟨hx,M.frozen 0,⟨(M.set 0 _).congr (fun j _=> ?_),ownsRow_setCell_below Y i_ _,fun j P=> ?_,h.lr⟩, ?_,ai.setOther s_ _,af⟩
  . by_cases e:j=0
    . simp[e]
    . simp[e]
  . by_cases e:j=n
    . simp[e]
    . simp only[if_neg e];exact h.lb j o_
  . have t0:ε (fun b=>b=bm\/(Value.slice p n q).ownBlock=some b) w (W.alloc (.cells #[.int .i64 0] 3)):=by
     refine⟨?_, ?_, ?_, ?_,fun k U _=> ?_⟩
     . exact y.os
     . exact y.tape
     . exact y.output
     . simp;omega
     . exact(Below.heap_alloc W _ k o_).trans (y.block k U)
    exact(t0.grown O (fun k e=> .inl (.inr e))).set _ _ (.inl (.inl rfl))
 have ap:w.heap.size+1<=W.heap.size:=o_;clear ae;go_wp2_with (at_builtin;refine Υ underlying24 ag ak al am X ?_;intro g l o aa T N;obtain⟨f0,f1,d,J,G,an⟩:=Q.out g l o aa T N;have ab:Hid _:=N;clear aa T N);clear Q I X f0 f1 x0;generalize o.setCell ⟨bm,0,none⟩ (.slice (some ⟨g,0,none⟩) (n+1) l)=W3 at d J G ⊢;have ac:2^n<2048:=Nat.pow_lt_pow_of_lt (a:=2) (n:=n) (m:=11) o_ hn;go_loopw [6] (fun k' wr=>∃k:Nat,k<=8/\k'= .int .i64 k/\c6_ wr bm (.slice (some ⟨g,0,none⟩) (n+1) l) (n+1) (fun i=>if i=n then 0 else cj i) (fun c=>if c<k/\f c=true then cw c|||2^n else cw c)/\ε (fun b=>b=bm\/(Value.slice p n q).ownBlock=some b) w wr/\wr.rowIs w.heap.size 128 8 (fun i=> .bool (f i)))
  (fun k' _=>8 - (intOf k').toNat)
 case atStart=>exact⟨0,o_,rfl,⟨d.out.cg.congr (fun j _=>i_),d.out.own,d.out.lb,fun c r=>by simpa using d.out.lr c r⟩,J.out,G.out⟩
 case round=>
  clear d J G;obtain⟨k,U,rfl,s,D,C⟩:=hrel;by_cases F:k<8
  . have c0:=C.cell (i:=k) F;have S:=s.cg.cell (i:=1+k) o_;have c2:=s.cg.frozen (1+k);rw[if_neg o_,show 1+k - 1=k by omega]at S;simp only[Nat.lt_irrefl,false_and,if_false]at S;have aj:cw k<2048:=h.lr k F;have Z:=ks_ (cw k) (2^n) aj ac;have ah:cw k|||2^n<2^11:=or_lt_two_pow o_ o_
    obtain⟨on,H⟩:=δ (cw k|||2^n);rw[H.out]at Z ah;rw[show((2^n:Nat):Int)=(2:Int)^n by simp]at Z;obtain⟨fk,A⟩:=δ (f k);rw[A.out]at c0;have d:=α s;have B:=α D;have R:=α C;clear s D C;cases fk
    . go_wp2_with fail;go_roundw
      case rel=>
       have e:∀c,(if c<k/\f c=true then cw c|||2^n else cw c)=(if c<k+1/\f c=true then cw c|||2^n else cw c):=by
        intro c;by_cases K:c=k
        . subst K;simp[A.out]
        . have:(c<k)=(c<k+1):=by apply propext;omega
          simp only[this]
       exact⟨k+1,o_,by go_num,⟨d.out.cg.congr (fun j _=>by rw[e (j - 1)]),d.out.own,d.out.lb,fun c r=>by rw[<-e c];exact d.out.lr c r⟩,B.out,R.out⟩
      case measure=>exact c_
    . go_wp2_with fail;go_region
      go_wp2_with fail;go_roundw
      case rel=>
       have v:=d.out;have ad:ε (fun b=>b=bm\/(Value.slice p n q).ownBlock=some b) w ((wr.setCell ⟨bm,1+k,none⟩ (.int .i64 (on:Int))).drew):=by
        have z:=B.out.set ⟨bm,1+k,none⟩ (.int .i64 (on:Int)) (.inl (.inl rfl));exact⟨z.os,z.tape,z.output,z.size,z.block⟩
       refine⟨k+1,o_,by go_num,⟨(v.cg.set (1+k) (.int .i64 (on:Int))).congr (fun j _=> ?_),ownsRow_setCell_below v.own i_ _,v.lb,fun c r=> ?_⟩,ad,R.out.setOther s_ _⟩
       . by_cases x:j=1+k
         . subst x;rw[if_pos rfl,if_neg o_,show 1+k - 1=k by omega,if_pos ⟨lt_succ_self k,A.out⟩,H.out]
         . rw[if_neg x];by_cases L:j=0
           . simp[L]
           . rw[if_neg L,if_neg L];have:(j - 1<k)=(j - 1<k+1):=by apply propext;omega
             simp only[this]
       . by_cases K:c=k
         . subst K;rw[if_pos ⟨lt_succ_self c,A.out⟩,H.out];omega
         . have u:=v.lr c r;have:(c<k)=(c<k+1):=by apply propext;omega
           simp only[this]at u;exact u
      case measure=>exact c_
  . have he:k=8:=o_;subst he;have d:Hid (c6_ wr bm (.slice (some ⟨g,0,none⟩) (n+1) l) (n+1) (fun i=>if i=n then 0 else cj i) (fun c=>if f c=true then cw c|||2^n else cw c)):=by
     have e:∀c,c<8->(if c<8/\f c=true then cw c|||2^n else cw c)=(if f c=true then cw c|||2^n else cw c):=by
      intro c r;simp[r]
     exact⟨s.cg.congr (fun j P=>by
      by_cases x:j=0
      . simp[x]
      . rw[if_neg x,if_neg x,e (j - 1) o_]),s.own,s.lb,fun c r=>by rw[<-e c r];exact s.lr c r⟩
    have B:=α D;clear s D C;go_wp2_with fail;go_ret;refine⟨i_,(.slice (some ⟨g,0,none⟩) (n+1) l),d.out,B.out,fun g' hg'=> ?_⟩;simp only[Value.ownBlock,Δ]at hg';subst hg';rcases ab.out with t|t
    . exact .inl t
    . right;rw[t];simp;omega
theorem acf_ (w:World):Sem.run prog (zeroValue 222) w= .ok (.agg (zs 2048)) w:=k_
def ia_ (ps:List Nat):List Value:=ps.map fun q=> .int .i64 ((swp 1 q:Nat):Int)
theorem acg_ (ps:List Nat)(q:Nat):ia_ ps++ [.int .i64 ((swp 1 q:Nat):Int)]=ia_ (ps++ [q]):=by simp[ia_]
theorem uh_ (ps:List Nat)(k:Nat)(hk:k<ps.length):(ia_ ps)[k]? =some (.int .i64 ((swp 1 (ps.getD k 0):Nat):Int)):=by
 simp[ia_,gd_,hk]
structure kt_ (W:World)(B:Nat)(w:World)(ps:List Nat)(vp va vn:Value)(k k':Nat)(xa xn:List Value):Prop where
 cz:Below B W w
 cg:w.heap[B]? =some (.cells #[va,vn] 169 (0,0))
 met:w.rowIs (B+1) 222 2048 (fun S=> .int .i64 (ew_ ps (swp 1 S):Nat))
 cB:w.ownsRow (B+1+1) 4 1 va k xa
 cA:w.ownsRow (B+1+1) 174 8 vn k' xn
 cG:w.ownsRow (B+1+1) 3 1 vp ps.length (ia_ ps)
structure el_ (W:World)(B H:Nat)(w:World)(ps:List Nat)(vp va vn:Value)(k:Nat)(xa xn:List Value)(r:Nat->Nat):Prop where
 mem:kt_ W B w ps vp va vn k k xa xn
 rw:w.rowIs H 174 8 (fun c=> .int .i64 (r c:Nat))
 lo:B+1+1<=H
 dp:∀g,vp.ownBlock=some g->g≠H
 da:∀g,va.ownBlock=some g->g<H
 dn:∀g,vn.ownBlock=some g->g<H
section
variable {W:World} {B H:Nat} {w w2:World} {ps:List Nat} {vp va vn:Value} {k:Nat} {xa xn:List Value} {r:Nat->Nat}
theorem kt_.below {k':Nat}(h:kt_ W B w ps vp va vn k k' xa xn)(hb:Bl w w2):kt_ W B w2 ps vp va vn k k' xa xn where
 cz:=h.cz.trans (hb.mono (by have:=κ h.cg;omega))
 cg:=(hb.block _ (κ h.cg)).trans h.cg
 met:=h.met.of_block (hb.block _ h.met.lt)
 cB:=ao_ h.cB hb
 cA:=ao_ h.cA hb
 cG:=ao_ h.cG hb
theorem el_.below (h:el_ W B H w ps vp va vn k xa xn r)(hb:Bl w w2):el_ W B H w2 ps vp va vn k xa xn r:=
 ⟨h.mem.below hb,h.rw.of_block (hb.block _ h.rw.lt),h.lo,h.dp,h.da,h.dn⟩
theorem el_.grown (h:el_ W B H w ps vp va vn k xa xn r)(hown:w2.ownsRow (B+1+1) 3 1 (.slice (some ⟨g,0,none⟩) (ps.length+1) cap) (ps.length+1) (ia_ (ps++ [q])))
 (hg:w.grownBy w2 vp.ownBlock) (hf:vp.ownBlock=some g\/g=w.heap.size):
 Below B W w2/\w2.heap[B]? =some (.cells #[va,vn] 169 (0,0))/\w2.rowIs (B+1) 222 2048 (fun S=> .int .i64 (ew_ ps (swp 1 S):Nat))/\
  w2.ownsRow (B+1+1) 4 1 va k xa/\w2.ownsRow (B+1+1) 174 8 vn k xn/\
  w2.rowIs H 174 8 (fun c=> .int .i64 (r c:Nat))/\g≠H:=by
 have a:=h.mem;have d:=κ a.cg;have b:=fun x e=>a.cG.lt x e
 have f:=h.rw.lt;refine⟨a.cz.grown hg o_ (fun x e=>by have:=(b x e).1;omega), ?_,hq_ a.met hg (fun e=>by have:=(b _ e).1;omega), ?_, ?_,hq_ h.rw hg (fun e=>h.dp _ e rfl), ?_⟩
 . rw[hg.block _ d (fun e=>by have:=(b _ e.symm).1;omega)];exact a.cg
 . refine a.cB.kept hg ?_;cases hv:va.ownBlock with
   |none=>exact .inl rfl
   |some x=>exact .inr (fun e=>gn_ a.cB a.cG d_ x hv e.symm)
 . refine a.cA.kept hg ?_;cases hv:vn.ownBlock with
   |none=>exact .inl rfl
   |some x=>exact .inr (fun e=>gn_ a.cA a.cG d_ x hv e.symm)
 . rcases hf with hf|rfl
   . exact h.dp g hf
   . omega
theorem el_.new (h:el_ W B H w ps vp va vn k xa xn r)(hq:swp 1 S∉ps)(hown:w2.ownsRow (B+1+1) 3 1 (.slice (some ⟨g,0,none⟩) (ps.length+1) cap) (ps.length+1) (ia_ (ps++ [swp 1 S])))
 (hg:w.grownBy w2 vp.ownBlock) (hf:vp.ownBlock=some g\/g=w.heap.size):
 el_ W B H ((w2.setCell ⟨B+1,S,none⟩ (.int .i64 ((ps.length:Int)+1))).setCell ⟨H,c,none⟩ (.int .i64 (ps.length:Int))) (ps++ [swp 1 S]) (.slice (some ⟨g,0,none⟩) (ps.length+1) cap) va vn k xa xn (fun x=>if x=c then ps.length else r x):=by
 obtain⟨l,m,n,d,f,o,i⟩:=h.grown hown hg hf;have q:=h.lo;refine⟨⟨(l.setCell (p:=⟨B+1,S,none⟩) i_ _).setCell (p:=⟨H,c,none⟩) s_ _,a3_ (a3_ m i_) s_, ?_, ?_, ?_, ?_⟩,
  ?_,h.lo, ?_,h.da,h.dn⟩
 . refine((n.set S _).setOther s_ _).congr (fun x _=> ?_);rw[aao_ ps (swp 1 S) (swp 1 x) hq];by_cases e:x=S
   . simp[e]
   . have j:swp 1 x≠swp 1 S:=fun h=>e (by rw[<-oj_ 1 x,h,oj_])
     simp[e,j]
 . exact bg_ (bg_ d _ _ (fun x b=>by have:=(d.lt x b).1;simp;omega)) _ _ (fun x b=>by have:=h.da x b;simp;omega)
 . exact bg_ (bg_ f _ _ (fun x b=>by have:=(f.lt x b).1;simp;omega)) _ _ (fun x b=>by have:=h.dn x b;simp;omega)
 . simp only[Μ,ls_];exact bg_ (bg_ hown _ _ (fun x b=>by have:=(hown.lt x b).1;simp;omega)) _ _ (fun x b=>by simp only[Value.ownBlock,Δ]at b;subst b;simpa using i)
 . refine((o.setOther (a:=⟨B+1,S,none⟩) s_ _).set c _).congr (fun x _=> ?_);by_cases e:x=c
   . simp[e]
   . simp[e]
 . intro x b;simp only[Value.ownBlock,Δ]at b;subst b;exact i
theorem el_.old (h:el_ W B H w ps vp va vn k xa xn r){v:Nat}:
 el_ W B H (w.setCell ⟨H,c,none⟩ (.int .i64 (v:Int))) ps vp va vn k xa xn (fun x=>if x=c then v else r x):=by
 have a:=h.mem;have b:=h.lo;refine⟨⟨a.cz.setCell (p:=⟨H,c,none⟩) s_ _,a3_ a.cg s_,a.met.setOther s_ _, ?_, ?_, ?_⟩, ?_,h.lo,h.dp,h.da,h.dn⟩
 . exact bg_ a.cB _ _ (fun x hx=>by have:=h.da x hx;simp;omega)
 . exact bg_ a.cA _ _ (fun x hx=>by have:=h.dn x hx;simp;omega)
 . exact bg_ a.cG _ _ (fun x hx=>by have:=h.dp x hx;simpa using this)
 . refine(h.rw.set c _).congr (fun x _=> ?_);by_cases e:x=c
   . simp[e]
   . simp[e]
theorem el_.add (h:el_ W B H w ps vp va vn k xa xn r){va' vn':Value}{ya yn:List Value}(hb:w2.heap[B]? =some (.cells #[va',vn'] 169 (0,0)))
 (h0:w2.ownsRow (B+1+1) 4 1 va' (k+1) ya) (h1:w2.ownsRow (B+1+1) 174 8 vn' (k+1) yn)
 (ht:ε (fun b=>b=B\/va.ownBlock=some b\/vn.ownBlock=some b) w w2):kt_ W B w2 ps vp va' vn' (k+1) (k+1) ya yn:=by
 have a:=h.mem;have d:=κ a.cg;refine⟨ht.below a.cz o_ ?_,hb,ht.row a.met ?_,h0,h1,ht.own a.cG ?_⟩
 . rintro x (rfl|e|e)
   . omega
   . have:=(a.cB.lt _ e).1;omega
   . have:=(a.cA.lt _ e).1;omega
 . rintro(e|e|e)
   . omega
   . have:=(a.cB.lt _ e).1;omega
   . have:=(a.cA.lt _ e).1;omega
 . rintro g c (rfl|e|e)
   . have:=(a.cG.lt _ c).1;omega
   . exact gn_ a.cG a.cB d_ g c e
   . exact gn_ a.cG a.cA d_ g c e
theorem el_.cY (h:el_ W B H w ps vp va vn k xa xn r){r':Nat->Nat}(e:∀x,x<8->r x=r' x):el_ W B H w ps vp va vn k xa xn r':=
 ⟨h.mem,h.rw.congr (fun x hx=>by rw[e x hx]),h.lo,h.dp,h.da,h.dn⟩
end
def υ (w:World)(bp:Nat)(s:ByteArray)(a:Nat)(vn:Value)(bk:Bool)(sp:Int):Prop:=w.heap[bp]? =some (.cells #[.string s,.int .i64 (a:Int),vn,.bool bk,.int .i64 sp] 125 (0,0))
theorem υ.cells (h:υ w bp s a vn bk sp):w.cell? ⟨bp,0,none⟩=some (.string s)/\w.cell? ⟨bp,1,none⟩=some (.int .i64 (a:Int))/\w.cell? ⟨bp,2,none⟩=some vn/\w.cell? ⟨bp,3,none⟩=some (.bool bk)/\w.cell? ⟨bp,4,none⟩=some (.int .i64 sp)/\w.frozen? ⟨bp,1,none⟩=false/\w.frozen? ⟨bp,3,none⟩=false/\w.frozen? ⟨bp,4,none⟩=false:=by
 unfold υ at h;simp[World.cell?,World.frozen?,h]
theorem υ.go (h:υ w bp s a vn bk sp)(b:Nat):υ (w.setCell ⟨bp,1,none⟩ (.int .i64 (b:Int))) bp s b vn bk sp:=by
 unfold υ at h ⊢;simp[World.setCell,Array.getElem?_modify,h]
def ς (s:ByteArray)(a b:Nat):Bool:=decide (a<s.size)&&((s.data.toList.getD a 0).toNat==b)
theorem ach_ (h:a<s.size):ς s a b=(s[a].toNat==b):=by
 unfold ς;have c:a<s.data.toList.length:=by rw[Array.length_toList];exact h
 rw[gd_,ge_ c];simp[h];rfl
theorem mw_ (bp:Nat)(s:ByteArray)(a b:Nat)(vn:Value)(bk:Bool)(sp:Int)(w:World)(hs:s.size<=40)(h:υ w bp s a vn bk sp):
 Calls prog 169 #[.pointer (some ⟨bp,0,none⟩),.int .u8 (b:Int)] w
  fun e w'=>e= .returned (.bool (ς s a b))/\υ w' bp s (if ς s a b then a+1 else a) vn bk sp/\ε (fun k=>k=bp) w w':=by
 obtain⟨o,p,r,t,u,f1,f3,f4⟩:=h.cells;have i:=α h;have g:∀q,ε (fun k=>k=bp) w (w.drewN q):=fun q=>by
  have c:=below_drewN (Below.refl w.heap.size w) q;exact⟨c.os,c.tape,c.output,c.size,fun k hk _=>c.block k hk⟩
 clear h;by_cases l:a<s.size
 . have f:=ach_ (b:=b) l;have n:¬(s.size:Int)<=(a:Int):=o_;by_cases c:s[a].toNat=b
   . have d:ς s a b=true:=by rw[f];simp[c]
     rw[d];have m:((s[a].toNat:Int) !=(b:Int))=false:=by simp[c]
     clear f d;go_enter func169,ntmps169;go_wp2_with fail;go_quiet (fail);go_wp2_with fail;go_ret;refine⟨rfl, ?_,(g nq).set ⟨bp,1,none⟩ _ (.inl rfl)⟩;have j:=υ.go (w:=w.drewN nq) (b:=a+1) i.out;rw[show((a+1:Nat):Int)=(a:Int)+1 by simp]at j;exact j
   . have d:ς s a b=false:=by rw[f];simp[c]
     rw[d];have m:((s[a].toNat:Int) !=(b:Int))=true:=s_;clear f d;go_enter func169,ntmps169;go_wp2_with fail;go_quiet (fail);go_wp2_with fail;go_ret;exact⟨rfl,i.out,g nq⟩
 . have d:ς s a b=false:=by unfold ς;simp[l]
   rw[d];have n:(s.size:Int)<=(a:Int):=o_;clear d;go_enter func169,ntmps169;go_wp2_with fail;go_quiet (fail);go_wp2_with fail;go_ret;exact⟨rfl,i.out,g nq⟩
def θ (s:ByteArray)(a:Nat):Nat:=(s.data.toList.getD a 0).toNat
theorem cp_ (h:a<s.size):θ s a=s[a].toNat:=by
 unfold θ;have b:a<s.data.toList.length:=by rw[Array.length_toList];exact h
 rw[gd_,ge_ b];rfl
theorem mx_ (h:¬a<s.size):θ s a=0:=by
 unfold θ;rw[gd_,getElem?_eq_none (by rw[Array.length_toList];exact Nat.le_of_not_lt h)];rfl
def c7_ (s:ByteArray)(a:Nat):Bool:=decide (97<=θ s a)&&decide (θ s a<=104)
def d0_ (s:ByteArray)(a:Nat):Bool:=decide (48<=θ s a)&&decide (θ s a<=57)
theorem im_ (w:World)(q:Nat):ε (fun k=>k=bp) w (w.drewN q):=by
 have a:=below_drewN (Below.refl w.heap.size w) q;exact⟨a.os,a.tape,a.output,a.size,fun k hk _=>a.block k hk⟩
theorem ε.drewN {S:Nat->Prop}(h:ε S w w2)(q:Nat):ε S w (w2.drewN q):=by
 have a:=below_drewN (Below.refl w2.heap.size w2) q;exact⟨a.os.trans h.os,a.tape.trans h.tape,a.output.trans h.output,Nat.le_trans h.size a.size,fun k hk hs=>(a.block k (Nat.lt_of_lt_of_le hk h.size)).trans (h.block k hk hs)⟩
theorem ui_ (bp:Nat)(s:ByteArray)(a:Nat)(vn:Value)(bk:Bool)(sp:Int)(w:World)(hs:s.size<=40)(h:υ w bp s a vn bk sp):
 Calls prog 194 #[.pointer (some ⟨bp,0,none⟩)] w
  fun e w'=>e= .returned (.tuple #[.int .i64 (if c7_ s a then(θ s a:Int)- 97 else 0),.bool (c7_ s a)])/\υ w' bp s (if c7_ s a then a+1 else a) vn bk sp/\ε (fun k=>k=bp) w w':=by
 obtain⟨l,m,n,o,p,f1,f3,f4⟩:=h.cells;have i:=α h;clear h;by_cases t:a<s.size
 . have f:=cp_ t;have u:¬(s.size:Int)<=(a:Int):=o_;by_cases q:97<=s[a].toNat/\s[a].toNat<=104
   . have c:c7_ s a=true:=by unfold c7_;rw[f];simp[q.1,q.2]
     simp only[c,if_true];rw[f];have g:=fun w=>pm_ (s[a].toNat:Int) w o_ o_
     clear f c;go_enter func194,ntmps194;go_wp2_with fail;go_quiet (fail);go_wp2_with fail;have d:Hid (υ (w.drewN nq) bp s a vn bk sp):=i.out;have j:=im_ (bp:=bp) w nq;generalize w.drewN nq=w2 at*;obtain⟨l,m,n,o,p,f1,f3,f4⟩:=d.out.cells;go_quiet ((go_at_call 121;exact Calls.quiet_of_same (g _)));go_wp2_with fail;go_ret2;refine⟨rfl, ?_,(j.drewN nq).set ⟨bp,1,none⟩ _ (.inl rfl)⟩;have r:=υ.go (w:=w2.drewN nq) (b:=a+1) d.out;rw[show((a+1:Nat):Int)=(a:Int)+1 by simp]at r;exact r
   . have c:c7_ s a=false:=by unfold c7_;rw[f];simp;omega
     simp only[c,Bool.false_eq_true,if_false];have g:=fun w=>w6_ (s[a].toNat:Int) w o_
     clear f c;go_enter func194,ntmps194;go_wp2_with fail;go_quiet (fail);go_wp2_with fail;have d:Hid (υ (w.drewN nq) bp s a vn bk sp):=i.out;have j:=im_ (bp:=bp) w nq;generalize w.drewN nq=w2 at*;obtain⟨l,m,n,o,p,f1,f3,f4⟩:=d.out.cells;go_quiet ((go_at_call 121;exact Calls.quiet_of_same (g _)));go_wp2_with fail;go_ret2;exact⟨rfl,d.out,j.drewN nq⟩
 . have c:c7_ s a=false:=by unfold c7_;rw[mx_ t];simp
   simp only[c,Bool.false_eq_true,if_false];have u:(s.size:Int)<=(a:Int):=o_;clear c;go_enter func194,ntmps194;go_wp2_with fail;go_quiet (fail);go_wp2_with fail;go_ret2;exact⟨rfl,i.out,im_ w nq⟩
theorem uj_ (bp:Nat)(s:ByteArray)(a:Nat)(vn:Value)(bk:Bool)(sp:Int)(w:World)(hs:s.size<=40)(h:υ w bp s a vn bk sp):
 Calls prog 195 #[.pointer (some ⟨bp,0,none⟩)] w
  fun e w'=>e= .returned (.tuple #[.int .i64 (if d0_ s a then(θ s a:Int)- 48 else 0),.bool (d0_ s a)])/\υ w' bp s (if d0_ s a then a+1 else a) vn bk sp/\ε (fun k=>k=bp) w w':=by
 obtain⟨j,l,m,n,o,f1,f3,f4⟩:=h.cells;have g:=α h;clear h;by_cases r:a<s.size
 . have f:=cp_ r;have v:¬(s.size:Int)<=(a:Int):=o_;by_cases p:48<=s[a].toNat/\s[a].toNat<=57
   . have c:d0_ s a=true:=by unfold d0_;rw[f];simp[p.1,p.2]
     simp only[c,if_true];rw[f];have t:¬(s[a].toNat:Int)<48:=o_;have x:¬(57:Int)<(s[a].toNat:Int):=o_;have y:(48:Int)<=(s[a].toNat:Int):=o_;clear f c;go_enter func195,ntmps195;go_wp2_with fail;go_quiet (fail);go_wp2_with fail;have d:Hid (υ (w.drewN nq) bp s a vn bk sp):=g.out;have i:=im_ (bp:=bp) w nq;generalize w.drewN nq=w2 at*;obtain⟨j,l,m,n,o,f1,f3,f4⟩:=d.out.cells;go_quiet (fail);go_wp2_with fail;go_ret2;refine⟨rfl, ?_,(i.drewN nq).set ⟨bp,1,none⟩ _ (.inl rfl)⟩;have q:=υ.go (w:=w2.drewN nq) (b:=a+1) d.out;rw[show((a+1:Nat):Int)=(a:Int)+1 by simp]at q;exact q
   . have c:d0_ s a=false:=by unfold d0_;rw[f];simp;omega
     simp only[c,Bool.false_eq_true,if_false];clear f c;have u:(s[a].toNat:Int)<48\/(¬(s[a].toNat:Int)<48/\(57:Int)<(s[a].toNat:Int)):=o_;rcases u with t|⟨t,x⟩
     all_goals
      go_enter func195,ntmps195;go_wp2_with fail;go_quiet (fail);go_wp2_with fail;have d:Hid (υ (w.drewN nq) bp s a vn bk sp):=g.out;have i:=im_ (bp:=bp) w nq;generalize w.drewN nq=w2 at*;obtain⟨j,l,m,n,o,f1,f3,f4⟩:=d.out.cells;go_quiet (fail);go_wp2_with fail;go_ret2;exact⟨rfl,d.out,i.drewN nq⟩
 . have c:d0_ s a=false:=by unfold d0_;rw[mx_ r];simp
   simp only[c,Bool.false_eq_true,if_false];have v:(s.size:Int)<=(a:Int):=o_;clear c;go_enter func195,ntmps195;go_wp2_with fail;go_quiet (fail);go_wp2_with fail;go_ret2;exact⟨rfl,g.out,im_ w nq⟩
theorem υ.back (h:υ w bp s a vn bk sp)(pl:Int):υ ((w.setCell ⟨bp,3,none⟩ (.bool true)).setCell ⟨bp,4,none⟩ (.int .i64 pl)) bp s a vn true pl:=by
 unfold υ at h ⊢;simp[World.setCell,Array.getElem?_modify,h]
theorem aci_ (bp:Nat)(s:ByteArray)(a:Nat)(vn:Value)(bk:Bool)(sp pl:Int)(w:World)(h:υ w bp s a vn bk sp):
 Calls prog 196 #[.pointer (some ⟨bp,0,none⟩),.int .i64 pl] w
  fun e w'=>e= .returned (.tuple #[])/\υ w' bp s a vn true (if bk then sp else pl)/\ε (fun k=>k=bp) w w':=by
 obtain⟨c,d,f,g,i,f1,f3,f4⟩:=h.cells;have b:=α h;clear h;cases bk
 . go_enter func196,ntmps196;go_wp2_with fail;go_end0
   exact⟨rfl,b.out.back pl,((ε.refl (fun k=>k=bp) w).set ⟨bp,3,none⟩ _ (.inl rfl)).set ⟨bp,4,none⟩ _ (.inl rfl)⟩
 . go_enter func196,ntmps196;go_wp2_with fail;go_end0
   exact⟨rfl,b.out,ε.refl _ w⟩
def ea_ (s:ByteArray)(a:Nat):Bool:=decide (s.size<=a)||(θ s a==124)||(θ s a==41)
theorem acj_ (bp:Nat)(s:ByteArray)(a:Nat)(vn:Value)(bk:Bool)(sp:Int)(w:World)(hs:s.size<=40)(h:υ w bp s a vn bk sp):
 Calls prog 183 #[.pointer (some ⟨bp,0,none⟩)] w
  fun e w'=>e= .returned (.bool (ea_ s a))/\υ w' bp s a vn bk sp/\ε (fun k=>k=bp) w w':=by
 obtain⟨l,m,n,o,p,f1,f3,f4⟩:=h.cells;have f:=α h;clear h;by_cases x:a<s.size
 . have t:=cp_ x;have y:¬(s.size:Int)<=(a:Int):=o_;have v:(s[a].toNat=124)\/(s[a].toNat≠124/\s[a].toNat=41)\/(s[a].toNat≠124/\s[a].toNat≠41):=o_;have c:ea_ s a=((s[a].toNat==124)||(s[a].toNat==41)):=by unfold ea_;rw[t,decide_eq_false o_,Bool.false_or]
   rw[c];clear t c;rcases v with g|⟨g,q⟩|⟨g,q⟩
   . have r:((s[a].toNat:Int)==124)=true:=s_;have i:(s[a].toNat==124)=true:=by simp[g]
     rw[i,Bool.true_or];go_enter func183,ntmps183;go_wp2_with fail;go_quiet (fail);go_wp2_with fail;have b:Hid (υ (w.drewN nq) bp s a vn bk sp):=f.out;have d:=im_ (bp:=bp) w nq;generalize w.drewN nq=w2 at*;obtain⟨l,m,n,o,p,f1,f3,f4⟩:=b.out.cells;go_quiet (fail);go_wp2_with fail;go_ret;exact⟨b6_ i_,b.out,d.drewN nq⟩
   . have r:((s[a].toNat:Int)==124)=false:=s_;have u:((s[a].toNat:Int)==41)=true:=s_;have j:(s[a].toNat==41)=true:=by simp[q]
     rw[j,Bool.or_true];go_enter func183,ntmps183;go_wp2_with fail;go_quiet (fail);go_wp2_with fail;have b:Hid (υ (w.drewN nq) bp s a vn bk sp):=f.out;have d:=im_ (bp:=bp) w nq;generalize w.drewN nq=w2 at*;obtain⟨l,m,n,o,p,f1,f3,f4⟩:=b.out.cells;go_quiet (fail);go_wp2_with fail;go_ret;exact⟨b6_ i_,b.out,d.drewN nq⟩
   . have r:((s[a].toNat:Int)==124)=false:=s_;have u:((s[a].toNat:Int)==41)=false:=s_;have i:(s[a].toNat==124)=false:=by simp[g]
     have j:(s[a].toNat==41)=false:=by simp[q]
     rw[i,j,Bool.or_false];go_enter func183,ntmps183;go_wp2_with fail;go_quiet (fail);go_wp2_with fail;have b:Hid (υ (w.drewN nq) bp s a vn bk sp):=f.out;have d:=im_ (bp:=bp) w nq;generalize w.drewN nq=w2 at*;obtain⟨l,m,n,o,p,f1,f3,f4⟩:=b.out.cells;go_quiet (fail);go_wp2_with fail;go_ret;exact⟨b6_ i_,b.out,d.drewN nq⟩
 . have c:ea_ s a=true:=by unfold ea_;simp;left;left;omega
   rw[c];have y:(s.size:Int)<=(a:Int):=o_;clear c;go_enter func183,ntmps183;go_wp2_with fail;go_quiet (fail);go_wp2_with fail;go_ret;exact⟨rfl,f.out,im_ w nq⟩
structure Sp where
 a:Nat
 bk:Bool
 sp:Nat
def Sp.go (t:Sp):Sp:=⟨t.a+1,t.bk,t.sp⟩
def Sp.tell (t:Sp)(pl:Nat):Sp:=⟨t.a,true,if t.bk then t.sp else pl⟩
inductive ψ (α:Type) where
 |no (t:Sp):ψ α
 |ok (x:α) (t:Sp):ψ α
section
variable (s:ByteArray)
def eb_ (t:Sp):ψ (Nat×Nat):=
 if c7_ s t.a then
  if ς s (t.a+1) 45 then
   if c7_ s (t.a+1+1)then .ok (θ s t.a - 97,θ s (t.a+1+1)- 97) t.go.go.go else .no t.go.go
  else .ok (θ s t.a - 97,θ s t.a - 97) t.go
 else .no t
def a2_ (pl f g:Nat)(t:Sp):Sp:=if g<f then t.tell pl else t
def f7_ (N:Nat->Bool)(f g:Nat):Nat->Bool:=fun c=>N c||(decide (f<=c)&&decide (c<=g))
def em_:Nat->(Nat->Bool)->Sp->ψ (Nat->Bool)
 |0,_,t=> .no t
 |n+1,N,t=>
  match eb_ s t with
  | .no t'=> .no t'
  | .ok (f,g) t'=>if ς s t'.a 93 then .ok (f7_ N f g) (a2_ t.a f g t').go else em_ n (f7_ N f g) (a2_ t.a f g t')
def f8_ (t:Sp):ψ (Nat->Bool):=
 if ς s t.a 94 then
  match em_ s (s.size+1) (fun _=>false) t.go with
  | .no t'=> .no t'
  | .ok N t'=> .ok (fun c=> !N c) t'
 else em_ s (s.size+1) (fun _=>false) t
def cq_ (t:Sp):ψ (Nat×Nat×Bool):=
 if d0_ s t.a then
  if ς s (t.a+1) 125 then .ok (θ s t.a - 48,θ s t.a - 48,false) t.go.go
  else if ς s (t.a+1) 44 then
   if ς s (t.a+1+1) 125 then .ok (θ s t.a - 48,θ s t.a - 48+1,true) t.go.go.go
   else if d0_ s (t.a+1+1)then
    if ς s (t.a+1+1+1) 125 then .ok (θ s t.a - 48,θ s (t.a+1+1)- 48,false) (a2_ t.a (θ s t.a - 48) (θ s (t.a+1+1)- 48) t.go.go.go).go
    else .no (a2_ t.a (θ s t.a - 48) (θ s (t.a+1+1)- 48) t.go.go.go)
   else .no t.go.go
  else .no t.go
 else .no t
def c0_ (t:Sp):ψ ζ:=
 if ς s t.a 91 then
  match f8_ s t.go with
  | .no t'=> .no t'
  | .ok N t'=> .ok (.one N) t'
 else if ς s t.a 46 then .ok (.one (fun _=>true)) t.go
 else if c7_ s t.a then .ok (.one (fun c=>decide (c=θ s t.a - 97))) t.go
 else .no t
def fy_ (atom:Sp->ψ ζ)(t:Sp):ψ ζ:=
 match atom t with
 | .no t'=> .no t'
 | .ok p t1=>
  if ς s t1.a 42 then .ok (.rep p 0 1 true) t1.go
  else if ς s t1.a 43 then .ok (.rep p 1 2 true) t1.go
  else if ς s t1.a 63 then .ok (.rep p 0 1 false) t1.go
  else if ς s t1.a 123 then
   match cq_ s t1.go with
   | .no t'=> .no t'
   | .ok (lo,co,en) t'=> .ok (.rep p lo co en) t'
  else .ok p t1
def cr_ (atom:Sp->ψ ζ):Nat->ζ->Sp->ψ ζ
 |0,_,t=> .no t
 |n+1,p,t=>
  if ea_ s t.a then .ok p t
  else match fy_ s atom t with
   | .no t'=> .no t'
   | .ok q t'=>cr_ atom n (.chain p q) t'
def gw_ (atom:Sp->ψ ζ):Nat->ζ->Sp->ψ ζ
 |0,_,t=> .no t
 |n+1,p,t=>
  if ς s t.a 124 then
   match cr_ s atom (s.size+1) .none t.go with
   | .no t'=> .no t'
   | .ok q t'=>gw_ atom n (.alt p q) t'
  else .ok p t
def ec_ (atom:Sp->ψ ζ)(t:Sp):ψ ζ:=
 match cr_ s atom (s.size+1) .none t with
 | .no t'=> .no t'
 | .ok p t'=>gw_ s atom (s.size+1) p t'
def bh_:Nat->Sp->ψ ζ
 |0=>c0_ s
 |k+1=>fun t=>
  if ς s t.a 40 then
   match ec_ s (bh_ k) t.go with
   | .no t'=> .no t'
   | .ok p t'=>if ς s t'.a 41 then .ok p t'.go else .no t'
  else c0_ s t
end
section
variable {s:ByteArray}
theorem dl_ (h:ς s a b=true):a<s.size:=by
 unfold ς at h;simp at h;exact h.1
theorem in_ (h:c7_ s a=true):a<s.size:=by
 refine cc_ fun hn=> ?_
 unfold c7_ at h;rw[mx_ hn]at h;simp at h
theorem uk_ (h:d0_ s a=true):a<s.size:=by
 refine cc_ fun hn=> ?_
 unfold d0_ at h;rw[mx_ hn]at h;simp at h
theorem jz_ (h:c7_ s a=true):θ s a - 97<8/\97<=θ s a:=by
 unfold c7_ at h;simp at h;omega
theorem lm_ (h:d0_ s a=true):θ s a - 48<10/\48<=θ s a:=by
 unfold d0_ at h;simp at h;omega
@[simp] theorem spanF_a (pl f g:Nat) (t:Sp):(a2_ pl f g t).a=t.a:=by unfold a2_ Sp.tell;split<;>rfl
@[simp] theorem go_a (t:Sp):t.go.a=t.a+1:=rfl
theorem my_ {t t':Sp}{f:Nat}(h:eb_ s t= .ok (f,g) t'):t.a<t'.a/\t'.a<=s.size/\f<8/\g<8:=by
 unfold eb_ at h;split at h
 . rename_i h1;have d:=jz_ h1;have b:=in_ h1;split at h
   . rename_i h2;split at h
     . rename_i h3;have e:=jz_ h3;have c:=in_ h3;simp only[ψ.ok.injEq,Prod.mk.injEq]at h;obtain⟨⟨rfl,rfl⟩,rfl⟩:=h;simp only[go_a];omega
     . simp at h
   . simp only[ψ.ok.injEq,Prod.mk.injEq]at h;obtain⟨⟨rfl,rfl⟩,rfl⟩:=h;simp only[go_a];omega
 . simp at h
theorem qv_ {N':Nat->Bool}{t t':Sp}(h:em_ s n N t= .ok N' t'):t.a<t'.a/\t'.a<=s.size:=by
 induction n generalizing N t with
 |zero=>simp[em_]at h
 |succ n ih=>
  simp only[em_]at h;cases hp:eb_ s t with
  |no t1=>rw[hp]at h;simp at h
  |ok x t1=>
   obtain⟨f,g⟩:=x;rw[hp]at h;have b:=my_ hp;simp only at h;split at h
   . rename_i h2;have c:=dl_ h2;simp only[ψ.ok.injEq]at h;obtain⟨_,rfl⟩:=h;simp;omega
   . have:=ih h;simp at this;omega
theorem ok_ {t t':Sp}(h:f8_ s t= .ok N t'):t.a<t'.a/\t'.a<=s.size:=by
 unfold f8_ at h;split at h
 . cases hp:em_ s (s.size+1) (fun _=>false) t.go with
   |no t1=>rw[hp]at h;simp at h
   |ok x t1=>
    rw[hp]at h;have:=qv_ hp;simp only[ψ.ok.injEq]at h;obtain⟨_,rfl⟩:=h;simp at this;omega
 . exact qv_ h
theorem qw_ {co:Nat}{t t':Sp}(h:cq_ s t= .ok (lo,co,en) t'):t.a<t'.a/\t'.a<=s.size/\co<=10/\lo<=9:=by
 unfold cq_ at h;split at h
 . rename_i h1;have d:=lm_ h1;split at h
   . rename_i h2;have b:=dl_ h2;simp only[ψ.ok.injEq,Prod.mk.injEq]at h;obtain⟨⟨rfl,rfl,rfl⟩,rfl⟩:=h;simp only[go_a];omega
   . split at h
     . split at h
       . rename_i h2;have b:=dl_ h2;simp only[ψ.ok.injEq,Prod.mk.injEq]at h;obtain⟨⟨rfl,rfl,rfl⟩,rfl⟩:=h;simp only[go_a];omega
       . split at h
         . rename_i h3;have e:=lm_ h3;split at h
           . rename_i h4;have c:=dl_ h4;simp only[ψ.ok.injEq,Prod.mk.injEq]at h;obtain⟨⟨rfl,rfl,rfl⟩,rfl⟩:=h;simp only[go_a,spanF_a];omega
           . simp at h
         . simp at h
     . simp at h
 . simp at h
def gx_ (s:ByteArray)(B:Nat)(atom:Sp->ψ ζ):Prop:=∀t p t',atom t= .ok p t'->t.a<t'.a/\t'.a<=s.size/\p.size<=(t'.a - t.a)*B
theorem ul_:gx_ s 1 (c0_ s):=by
 intro t p a h;unfold c0_ at h;split at h
 . cases hp:f8_ s t.go with
   |no t1=>rw[hp]at h;simp at h
   |ok x t1=>
    rw[hp]at h;have:=ok_ hp;simp only[ψ.ok.injEq]at h;obtain⟨rfl,rfl⟩:=h;simp at this;simp only[ζ.size];omega
 . split at h
   . rename_i h2;have:=dl_ h2;simp only[ψ.ok.injEq]at h;obtain⟨rfl,rfl⟩:=h;simp only[ζ.size,go_a];omega
   . split at h
     . rename_i h2;have:=in_ h2;simp only[ψ.ok.injEq]at h;obtain⟨rfl,rfl⟩:=h;simp only[ζ.size,go_a];omega
     . simp at h
theorem mz_ {l l':Nat}(h:x<=l*B)(hc:c<=10)(hl:l<=l'):x*c<=l'*(B*10):=by
 have a:x*c<=(l*B)*10:=Nat.mul_le_mul h hc;have b:l*B*10<=l'*B*10:=mul_le_mul_right _ (mul_le_mul_right _ hl);rw[<-Nat.mul_assoc];omega
theorem ol_ {atom:Sp->ψ ζ}(ha:gx_ s B atom):gx_ s (B*10) (fy_ s atom):=by
 intro t p i h;unfold fy_ at h;cases hp:atom t with
 |no t1=>rw[hp]at h;simp at h
 |ok q t1=>
  rw[hp]at h;obtain⟨d,e,a⟩:=ha _ _ _ hp;simp only at h;split at h
  . rename_i h4;have:=dl_ h4;simp only[ψ.ok.injEq]at h;obtain⟨rfl,rfl⟩:=h;refine⟨z_,z_,mz_ a o_ z_⟩
  . split at h
    . rename_i h4;have:=dl_ h4;simp only[ψ.ok.injEq]at h;obtain⟨rfl,rfl⟩:=h;refine⟨z_,z_,mz_ a o_ z_⟩
    . split at h
      . rename_i h4;have:=dl_ h4;simp only[ψ.ok.injEq]at h;obtain⟨rfl,rfl⟩:=h;refine⟨z_,z_,mz_ a o_ z_⟩
      . split at h
        . cases hc:cq_ s t1.go with
          |no t2=>rw[hc]at h;simp at h
          |ok x t2=>
           obtain⟨g,co,f⟩:=x;rw[hc]at h;have b:=qw_ hc;simp only[ψ.ok.injEq]at h;obtain⟨rfl,rfl⟩:=h;simp only[go_a]at b;exact⟨o_,o_,mz_ a b.2.2.1 o_⟩
        . simp only[ψ.ok.injEq]at h;obtain⟨rfl,rfl⟩:=h;have:=mz_ (c:=1) a o_ ι;exact⟨d,e,o_⟩
theorem m0_ (h1:a<=b)(h2:b<=c)(B:Nat):(b - a)*B+(c - b)*B=(c - a)*B:=by
 rw[<-Nat.add_mul];congr 1;omega
theorem ku_ {atom:Sp->ψ ζ}(ha:gx_ s B atom){p q:ζ}{t t':Sp}(hz:t.a<=s.size)(h:cr_ s atom n p t= .ok q t'):t.a<=t'.a/\t'.a<=s.size/\q.size<=p.size+(t'.a - t.a)*(B*10):=by
 induction n generalizing p t with
 |zero=>simp[cr_]at h
 |succ n ih=>
  simp only[cr_]at h;split at h
  . simp only[ψ.ok.injEq]at h;obtain⟨rfl,rfl⟩:=h;omega
  . cases hp:fy_ s atom t with
    |no t1=>rw[hp]at h;simp at h
    |ok q1 t1=>
     rw[hp]at h;obtain⟨b,c,f⟩:=ol_ ha _ _ _ hp;obtain⟨d,g,e⟩:=ih c h;have:=m0_ (Nat.le_of_lt b) d (B*10);simp only[ζ.size]at e;omega
theorem qx_ {atom:Sp->ψ ζ}(ha:gx_ s B atom){p q:ζ}{t t':Sp}(hz:t.a<=s.size)(h:gw_ s atom n p t= .ok q t'):t.a<=t'.a/\t'.a<=s.size/\q.size<=p.size+(t'.a - t.a)*(B*10):=by
 induction n generalizing p t with
 |zero=>simp[gw_]at h
 |succ n ih=>
  simp only[gw_]at h;split at h
  . rename_i hh;have j:=dl_ hh;cases hp:cr_ s atom (s.size+1) .none t.go with
    |no t1=>rw[hp]at h;simp at h
    |ok q1 t1=>
     rw[hp]at h;obtain⟨b,c,d⟩:=ku_ ha z_ hp;obtain⟨e,g,f⟩:=ih c h;simp only[ζ.size,go_a]at b d f;have:=m0_ (a:=t.a) o_ e (B*10);have i:(t1.a - (t.a+1))*(B*10)<=(t1.a - t.a)*(B*10):=mul_le_mul_right _ o_;omega
  . simp only[ψ.ok.injEq]at h;obtain⟨rfl,rfl⟩:=h;omega
theorem qy_ {atom:Sp->ψ ζ}(ha:gx_ s B atom){q:ζ}{t t':Sp}(hz:t.a<=s.size)(h:ec_ s atom t= .ok q t'):t.a<=t'.a/\t'.a<=s.size/\q.size<=(t'.a - t.a)*(B*10):=by
 unfold ec_ at h;cases hp:cr_ s atom (s.size+1) .none t with
 |no t1=>rw[hp]at h;simp at h
 |ok q1 t1=>
  rw[hp]at h;obtain⟨b,c,d⟩:=ku_ ha hz hp;obtain⟨e,f,g⟩:=qx_ ha c h;have:=m0_ b e (B*10);simp only[ζ.size]at d;omega
theorem ib_ (k:Nat):gx_ s (10^k) (bh_ s k):=by
 induction k with
 |zero=>exact ul_
 |succ k ih=>
  intro t p f h;simp only[bh_]at h;split at h
  . rename_i hh;have d:=dl_ hh;cases hp:ec_ s (bh_ s k) t.go with
    |no t1=>rw[hp]at h;simp at h
    |ok q1 t1=>
     rw[hp]at h;obtain⟨b,c,a⟩:=qy_ ih z_ hp;simp only at h;split at h
     . rename_i hh2;have e:=dl_ hh2;simp only[ψ.ok.injEq]at h;obtain⟨rfl,rfl⟩:=h;simp only[go_a]at b a ⊢;refine⟨o_,o_, ?_⟩;rw[Nat.pow_succ];exact Nat.le_trans a (mul_le_mul_right _ o_)
     . simp at h
  . obtain⟨b,c,a⟩:=ul_ _ _ _ h;refine⟨b,c,Nat.le_trans a (mul_le_mul_left _ ?_)⟩;exact Nat.pow_pos o_
end
def Α (d:Nd):Array Value:= #[.int .i64 ((d.kind:Nat):Int),.int .i64 ((d.size:Nat):Int),.bool (d.S 0),.bool (d.S 1),.bool (d.S 2),.bool (d.S 3),.bool (d.S 4),.bool (d.S 5),.bool (d.S 6),.bool (d.S 7),.int .i64 ((d.least:Nat):Int),.int .i64 ((d.cV:Nat):Int),.bool d.en,.int .i64 ((d.one:Nat):Int),.int .i64 ((d.two:Nat):Int)]
def i7_ (L:List Nd):List Value:=L.flatMap fun d=>(Α d).toList
theorem ack_ (L:List Nd)(d:Nd):i7_ L++(Α d).toList=i7_ (L++ [d]):=by simp[i7_]
theorem acl_ (L:List Nd)(i j:Nat)(d:Nd)(h:L[i]? =some d)(hj:j<15):(i7_ L)[i*15+j]? =(Α d)[j]? :=by
 induction L generalizing i with
 |nil=>simp at h
 |cons e L ih=>
  cases i with
  |zero=>
   simp at h;subst h;simp only[i7_,flatMap_cons,Nat.zero_mul,Nat.zero_add];rw[gl_ (by simp[Α];omega)];simp
  |succ i=>
   have a:(Α e).toList.length=15:=rfl;simp only[i7_,flatMap_cons];rw[getElem?_append_right (by rw[a];omega),a,show(i+1)*15+j - 15=i*15+j by omega];exact ih i (by simpa using h)
structure τ (w:World)(bp:Nat)(s:ByteArray)(t:Sp)(vn:Value)(L:List Nd):Prop where
 par:υ w bp s t.a vn t.bk (t.sp:Int)
 own:w.ownsRow (bp+1) 132 15 vn L.length (i7_ L)
theorem τ.lt {t:Sp}{L:List Nd}(h:τ w bp s t vn L):bp<w.heap.size:=κ h.par
theorem τ.below {t:Sp}{L:List Nd}(h:τ w bp s t vn L)(hb:Bl w w2):τ w2 bp s t vn L:=
 ⟨(hb.block _ h.lt).trans h.par,ao_ h.own hb⟩
theorem υ.nodes (h:υ w bp s a vn bk sp)(u:Value):υ (w.setCell ⟨bp,2,none⟩ u) bp s a u bk sp:=by
 unfold υ at h ⊢;simp[World.setCell,Array.getElem?_modify,h]
theorem υ.ew (h:υ w bp s a vn bk sp):w.frozen? ⟨bp,2,none⟩=false:=by
 unfold υ at h;simp[World.frozen?,h]
theorem acm_:(prog.info? 132).map (fun i=>(i.zero,i.size,i.bytes))=some (some (.agg #[.int .i64 0,.int .i64 0,.bool false,.bool false,.bool false,.bool false,.bool false,.bool false,.bool false,.bool false,.int .i64 0,.int .i64 0,.bool false,.int .i64 0,.int .i64 0]),15,64):=k_
theorem om_ (bp:Nat)(s:ByteArray)(t:Sp)(vn:Value)(L:List Nd)(d:Nd)(w:World)(h:τ w bp s t vn L)(hl:L.length<=1000):
 Calls prog 182 #[.pointer (some ⟨bp,2,none⟩),.agg (Α d)] w
  fun e w'=>e= .returned (.int .i64 ((L.length:Nat):Int))/\∃vn',τ w' bp s t vn' (L++ [d])/\Below bp w w':=by
 obtain⟨i8,aa,ac,ad,ae⟩:=info_parts acm_;have ag:=h.lt;obtain⟨W,i,-,-,-⟩:=ν w (Α d) 132;have af:w.heap.size+1<=W.heap.size:=by rw[i];simp
 have l:=ob_ i;have n:=h.below l;have b:=aw_ i;obtain⟨x0,x1,x2,x3,x4,_,_,_⟩:=n.par.cells;clear x0 x1 x3 x4;unfold Α at i;have D:Hid (Α d= #[.int .i64 ((d.kind:Nat):Int),.int .i64 ((d.size:Nat):Int),.bool (d.S 0),.bool (d.S 1),.bool (d.S 2),.bool (d.S 3),.bool (d.S 4),.bool (d.S 5),.bool (d.S 6),.bool (d.S 7),.int .i64 ((d.least:Nat):Int),.int .i64 ((d.cV:Nat):Int),.bool d.en,.int .i64 ((d.one:Nat):Int),.int .i64 ((d.two:Nat):Int)]):=rfl;rw[D.out];go_enter func182,ntmps182;go_upto_region 1 with fail;rw[<-i];clear i;have E:=cell_of_row W w.heap.size 0 (Α d) 132 (0,0) b;have G:=cell_of_row W w.heap.size 1 (Α d) 132 (0,0) b;have N:=cell_of_row W w.heap.size 2 (Α d) 132 (0,0) b;have O:=cell_of_row W w.heap.size 3 (Α d) 132 (0,0) b;have P:=cell_of_row W w.heap.size 4 (Α d) 132 (0,0) b;have Q:=cell_of_row W w.heap.size 5 (Α d) 132 (0,0) b;have R:=cell_of_row W w.heap.size 6 (Α d) 132 (0,0) b;have T:=cell_of_row W w.heap.size 7 (Α d) 132 (0,0) b;have U:=cell_of_row W w.heap.size 8 (Α d) 132 (0,0) b;have V:=cell_of_row W w.heap.size 9 (Α d) 132 (0,0) b;have H:=cell_of_row W w.heap.size 10 (Α d) 132 (0,0) b;have I:=cell_of_row W w.heap.size 11 (Α d) 132 (0,0) b;have J:=cell_of_row W w.heap.size 12 (Α d) 132 (0,0) b;have K:=cell_of_row W w.heap.size 13 (Α d) 132 (0,0) b;have M:=cell_of_row W w.heap.size 14 (Α d) 132 (0,0) b;simp[Α]at E G N O P Q R T U V H I J K M;have m:Hid (τ (W.alloc (.cells (Α d) 132)) bp s t vn L):=n.below ξ;have z:=m.out.own;have Y:bp+1<=(W.alloc (.cells (Α d) 132)).heap.size:=s_;have q:Below bp w (W.alloc (.cells (Α d) 132)):=(l.alloc o_ _).mono o_;have r:Hid (∀g f c,c.ownsRow (bp+1) 132 15 (.slice (some ⟨g,0,none⟩) (L.length+1) f) (L.length+1) (i7_ L++(Α d).toList)->(W.alloc (.cells (Α d) 132)).grownBy c vn.ownBlock->
  c.cell? ⟨bp,2,none⟩=some vn/\c.frozen? ⟨bp,2,none⟩=false/\Hid (τ (c.setCell ⟨bp,2,none⟩ (.slice (some ⟨g,0,none⟩) (L.length+1) f)) bp s t (.slice (some ⟨g,0,none⟩) (L.length+1) f) (L++ [d])/\Below bp w (c.setCell ⟨bp,2,none⟩ (.slice (some ⟨g,0,none⟩) (L.length+1) f)))):=by
  intro g f c A v;have k:=m.out;have y:=fun x e=>k.own.lt x e
  have X:c.heap[bp]? =(W.alloc (.cells (Α d) 132)).heap[bp]? :=v.block bp k.lt (fun e=>by have:=(y _ e.symm).1;omega);have o:υ c bp s t.a vn t.bk (t.sp:Int):=X.trans k.par;obtain⟨_,_,z2,_,_,_,_,_⟩:=o.cells;rw[ack_]at A;refine⟨z2,o.ew,⟨o.nodes _,by rw[Μ];exact ownsRow_setCell_below A i_ _⟩, ?_⟩;exact(q.grown v (by have:=k.lt;omega) (fun x e=>by have:=(y x e).1;omega)).setCell (p:=⟨bp,2,none⟩) i_ _
 clear n b m l q;unfold Α at z Y r;have ah:bp<W.heap.size:=o_;go_region_law
  ((refine step_append_lies _ (by rfl) _ _ _ (by rfl) (bp+1) 132 i8 (.agg #[.int .i64 0,.int .i64 0,.bool false,.bool false,.bool false,.bool false,.bool false,.bool false,.bool false,.bool false,.int .i64 0,.int .i64 0,.bool false,.int .i64 0,.int .i64 0]) 15 64 underlying121 aa ac ad ae rfl d_ vn L.length (i7_ L) (by rfl) z ⟨W.heap.size,0,none⟩ 1 1 [.int .i64 ((d.kind:Nat):Int),.int .i64 ((d.size:Nat):Int),.bool (d.S 0),.bool (d.S 1),.bool (d.S 2),.bool (d.S 3),.bool (d.S 4),.bool (d.S 5),.bool (d.S 6),.bool (d.S 7),.int .i64 ((d.least:Nat):Int),.int .i64 ((d.cV:Nat):Int),.bool d.en,.int .i64 ((d.one:Nat):Int),.int .i64 ((d.two:Nat):Int)] (by rfl) (by rfl) (qj_ _ _ _) (by intro u C;simp at C;rcases C with rfl|rfl|rfl|rfl|rfl|rfl|rfl|rfl|rfl|rfl|rfl|rfl|rfl|rfl|rfl<;>rfl) d_ u_ o_ s_ (W.heap.size+1) i_ ?_;intro g f c B j Z ab;obtain⟨f0,f1,F⟩:=r.out g f c B ⟨j.os,j.tape,j.output,j.size,j.block⟩;clear Z ab B j))
 all_goals go_wp2_with fail
 all_goals
  go_ret;exact⟨i_,⟨_,F.out.1⟩,F.out.2⟩
end Go.Proofs.YtpngikmcjkjdaaaGreatDoor
