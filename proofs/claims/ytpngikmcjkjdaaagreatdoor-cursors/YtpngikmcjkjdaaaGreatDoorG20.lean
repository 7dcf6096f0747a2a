import Derived.Test.YtpngikmcjkjdaaaGreatDoorG0
import Derived.Test.YtpngikmcjkjdaaaGreatDoorG19
set_option linter.unusedVariables false
set_option linter.unusedSimpArgs false
set_option maxRecDepth 20000
set_option maxHeartbeats 80000000
namespace Go.Proofs.YtpngikmcjkjdaaaGreatDoor
open Go.RowKit Tryz
theorem ve_ {s:ByteArray}{a b j:Nat}(h:a+j<b)(hb:b<=s.size):(sub s a b)[j]? =some (ad_ s (a+j)):=by
 unfold sub;rw[List.getElem?_drop,List.getElem?_take_of_lt h,j5_ o_]
theorem abh_ {s:ByteArray}{a b:Nat}(h:a<=b)(hb:b<=s.size):(txt s).drop a=sub s a b++(txt s).drop b:=by
 have h1:=gv_ (s:=s) h hb;have h2:sub s b s.size=(txt s).drop b:=by unfold sub;rw[List.take_of_length_le (by rw[bc_];omega)]
 have h3:sub s a s.size=(txt s).drop a:=by unfold sub;rw[List.take_of_length_le (by rw[bc_];omega)]
 rw[<-h2,<-h3,h1]
theorem p5_ {s:ByteArray}{i:Nat}{l:List Nat}{z:Nat}(hsub:sub s i (i+(l.length+1))=l++ [z])(hle:i+(l.length+1)<=s.size)(hz:z∉l)(j:Nat)(hj:i<=j)(hj2:j<=i+l.length):(ad_ s j=z↔j=i+l.length):=by
 have h1:=ve_ (s:=s) (a:=i) (b:=i+(l.length+1)) (j:=j - i) o_ hle;rw[hsub,show i+(j - i)=j by omega]at h1;by_cases e:j - i<l.length
 . rw[List.getElem?_append_left e]at h1;have hm:ad_ s j∈l:=List.mem_of_getElem? h1;constructor
   . intro h;rw[h]at hm;exact absurd hm hz
   . intro h;omega
 . rw[List.getElem?_append_right o_,show j - i - l.length=0 by omega]at h1;simp at h1;exact⟨fun _=>o_,fun _=>h1.symm⟩
theorem et_ {s:ByteArray}{i c n:Nat}{l:List Nat}(hsub:sub s i (i+n)=c::l)(hle:i+n<=s.size)(hn:0<n):ad_ s i=c:=by
 have h1:=ve_ (s:=s) (a:=i) (b:=i+n) (j:=0) o_ hle;rw[hsub]at h1;simpa using h1.symm
theorem oo_ (s:ByteArray)(i:Nat)(l:List Nat)(w:World)(hs:s.size<=40)(hsub:sub s i (i+(l.length+2))=91::l++ [93])(hle:i+(l.length+2)<=s.size)(hz:93∉l):
 Calls prog 147 #[.string s,.int .i64 (i:Int)] w fun e w'=>e= .returned (.int .i64 ((i+(l.length+2):Nat):Int))/\w=w':=by
 have hb:=p5_ (l:=91::l) (z:=93) (i:=i) (s:=s) hsub hle (by simp[hz]);have h0:ad_ s i=91:=et_ hsub hle o_;simp only[List.length_cons]at hb;have hlt:i<s.size:=o_;have hce:=a9_ hlt;rw[h0]at hce;have t40:((s[i].toNat:Int)==40)=false:=by rw[<-hce];rfl
 have t91:((s[i].toNat:Int)==91)=true:=by rw[<-hce];rfl
 have HBB:Hid (∀(j:Nat),i<=j->j<=i+(l.length+1)->(ad_ s j=93↔j=i+(l.length+1))):=hb;clear hb hsub hz h0 hce;go_enter func147,ntmps147;go_wp2_with fail;go_loop [1] (fun j'=>∃j:Nat,j'= .int .i64 (j:Int)/\i<=j/\j<=i+(l.length+1)) (fun j'=>100 - (intOf j').toNat)
 case atStart=>exact⟨i,rfl,lr__,o_⟩
 case round=>
  obtain⟨j,rfl,hj1,hj2⟩:=hrel;clear t40 t91;have hjl:j<s.size:=o_;have hje:=a9_ hjl;have hbj:=HBB.out j hj1 hj2;rw[hje]at hbj;by_cases e:j=i+(l.length+1)
  . have t93:((s[j].toNat:Int) !=93)=false:=by rw[hbj.2 e];rfl
    have HE:Hid (j=i+(l.length+1)):=e;clear hbj hje e;go_wp2_with fail;go_ret;exact⟨ej_ (by rw[HE.out];omega),rfl⟩
  . have t93:((s[j].toNat:Int) !=93)=true:=by
     have:s[j].toNat≠93:=fun h=>e (hbj.1 h)
     simp only[bne_iff_ne,ne_eq];omega
    clear hbj hje;go_wp2_with fail;go_round
    case rel=>exact⟨j+1,by go_num,o_,o_⟩
    case measure=>simp[intOf];omega
theorem p6_ (s:ByteArray)(i:Nat)(w:World)(hs:s.size<=40)(hlt:i<s.size)(h1:ad_ s i≠40)(h2:ad_ s i≠91):
 Calls prog 147 #[.string s,.int .i64 (i:Int)] w fun e w'=>e= .returned (.int .i64 ((i+1:Nat):Int))/\w=w':=by
 have hce:=a9_ hlt;rw[hce]at h1 h2;have t40:((s[i].toNat:Int)==40)=false:=by simp only[beq_eq_false_iff_ne,ne_eq];omega
 have t91:((s[i].toNat:Int)==91)=false:=by simp only[beq_eq_false_iff_ne,ne_eq];omega
 clear h1 h2 hce;go_enter func147,ntmps147;go_wp2_with fail;go_ret;exact⟨ej_ o_,rfl⟩
theorem yo_ (s:ByteArray)(i r:Nat)(w:World)(hs:s.size<=40)(hlt:i<s.size)(h1:ad_ s i=40)(hr:c1_ ((txt s).drop i) 0 i=r)(hr2:r<=40):
 Calls prog 147 #[.string s,.int .i64 (i:Int)] w fun e w'=>e= .returned (.int .i64 ((r+1:Nat):Int))/\w=w':=by
 have hce:=a9_ hlt;rw[h1]at hce;have t40:((s[i].toNat:Int)==40)=true:=by rw[<-hce];rfl
 have HC:=t6_ s i w hs o_;rw[hr]at HC;clear h1 hce hr;go_enter func147,ntmps147;go_wp2_with (go_at_call 174;refine HC.mono ?_;rintro e w' ⟨rfl,rfl⟩);go_ret;exact⟨ej_ o_,rfl⟩
theorem abi_ (s:ByteArray)(i k:Nat)(la:List Nat)(q:Pat)(w:World)(hs:s.size<=40)(h:dl_ k la q)(hsub:sub s i (i+la.length)=la)(hle:i+la.length<=s.size):
 Calls prog 147 #[.string s,.int .i64 (i:Int)] w fun e w'=>e= .returned (.int .i64 ((i+la.length:Nat):Int))/\w=w':=by
 have h0:∀ {la:List Nat} {q:Pat},eh_ la q->sub s i (i+la.length)=la->i+la.length<=s.size->Calls prog 147 #[.string s,.int .i64 (i:Int)] w fun e w'=>e= .returned (.int .i64 ((i+la.length:Nat):Int))/\w=w':=by
  intro la q h hsub hle;rcases h with ⟨c,hc,rfl,_⟩|⟨rfl,_⟩|⟨ps,_,h1,⟨rfl,_⟩|⟨rfl,_⟩⟩
  . have hb:=et_ hsub hle i_;exact p6_ s i w hs (by simp at hle;omega) o_ o_
  . have hb:=et_ hsub hle i_;exact p6_ s i w hs (by simp at hle;omega) o_ o_
  . have hz:93∉ps.flatMap Prt.text:=fun hm=>by have:=h7_ h1 93 hm;omega
    have hl:(91::ps.flatMap Prt.text++ [93]:List Nat).length=(ps.flatMap Prt.text).length+2:=i_;rw[hl]at hsub hle ⊢;exact oo_ s i (ps.flatMap Prt.text) w hs hsub hle hz
  . have hz:93∉94::ps.flatMap Prt.text:=fun hm=>by
     rcases List.mem_cons.1 hm with h|h
     . omega
     . have:=h7_ h1 93 h;omega
    have hl:(91::94::ps.flatMap Prt.text++ [93]:List Nat).length=(94::ps.flatMap Prt.text).length+2:=i_;rw[hl]at hsub hle ⊢;exact oo_ s i (94::ps.flatMap Prt.text) w hs hsub hle hz
 cases k with
 |zero=>exact h0 h hsub hle
 |succ k=>
  rcases h with h|⟨l',rfl,h⟩
  . exact h0 h hsub hle
  . have hlen:(40::l'++ [41]).length=l'.length+2:=i_;have hb:ad_ s i=40:=et_ (l:=l'++ [41]) hsub hle o_;have hr:c1_ ((txt s).drop i) 0 i=i+1+l'.length:=by
     rw[abh_ (show i<=i+(40::l'++ [41]).length by omega) hle,hsub];exact aa4_ (ob_ k) h i _
    have:=yo_ s i _ w hs o_ hb hr o_;rw[hlen];rw[show i+1+l'.length+1=i+(l'.length+2)by omega]at this;exact this
theorem sf_ (s:ByteArray)(i:Nat)(w:World)(hs:s.size<=40)(hi:i<=s.size)(h:i<s.size->ad_ s i≠42/\ad_ s i≠43/\ad_ s i≠63/\ad_ s i≠123):
 Calls prog 148 #[.string s,.int .i64 (i:Int)] w fun e w'=>e= .returned (.int .i64 (i:Int))/\w=w':=by
 by_cases hlt:i<s.size
 . have hce:=a9_ hlt;have h':=h hlt;rw[hce]at h';have hn:¬(s.size:Int)<=(i:Int):=o_;have t42:((s[i].toNat:Int)==42)=false:=by simp only[beq_eq_false_iff_ne,ne_eq];omega
   have t43:((s[i].toNat:Int)==43)=false:=by simp only[beq_eq_false_iff_ne,ne_eq];omega
   have t63:((s[i].toNat:Int)==63)=false:=by simp only[beq_eq_false_iff_ne,ne_eq];omega
   have t123:((s[i].toNat:Int)==123)=false:=by simp only[beq_eq_false_iff_ne,ne_eq];omega
   clear h h' hce;go_enter func148,ntmps148;go_wp2_with fail;go_ret;exact⟨rfl,rfl⟩
 . have hn:(s.size:Int)<=(i:Int):=o_;clear h;go_enter func148,ntmps148;go_wp2_with fail;go_ret;exact⟨rfl,rfl⟩
theorem jw_ (s:ByteArray)(i:Nat)(w:World)(hs:s.size<=40)(hlt:i<s.size)(h:ad_ s i=42\/ad_ s i=43\/ad_ s i=63):
 Calls prog 148 #[.string s,.int .i64 (i:Int)] w fun e w'=>e= .returned (.int .i64 ((i+1:Nat):Int))/\w=w':=by
 have hce:=a9_ hlt;rw[hce]at h;have hn:¬(s.size:Int)<=(i:Int):=o_;rcases h with h|h|h
 . have t42:((s[i].toNat:Int)==42)=true:=by rw[h];rfl
   clear h hce;go_enter func148,ntmps148;go_wp2_with fail;go_ret;exact⟨ej_ o_,rfl⟩
 . have t42:((s[i].toNat:Int)==42)=false:=by rw[h];rfl
   have t43:((s[i].toNat:Int)==43)=true:=by rw[h];rfl
   clear h hce;go_enter func148,ntmps148;go_wp2_with fail;go_ret;exact⟨ej_ o_,rfl⟩
 . have t42:((s[i].toNat:Int)==42)=false:=by rw[h];rfl
   have t43:((s[i].toNat:Int)==43)=false:=by rw[h];rfl
   have t63:((s[i].toNat:Int)==63)=true:=by rw[h];rfl
   clear h hce;go_enter func148,ntmps148;go_wp2_with fail;go_ret;exact⟨ej_ o_,rfl⟩
theorem iq_ (s:ByteArray)(i:Nat)(l:List Nat)(w:World)(hs:s.size<=40)(hsub:sub s i (i+(l.length+2))=123::l++ [125])(hle:i+(l.length+2)<=s.size)(hz:125∉l):
 Calls prog 148 #[.string s,.int .i64 (i:Int)] w fun e w'=>e= .returned (.int .i64 ((i+(l.length+2):Nat):Int))/\w=w':=by
 have hb:=p5_ (l:=123::l) (z:=125) (i:=i) (s:=s) hsub hle (by simp[hz]);have h0:ad_ s i=123:=et_ hsub hle o_;simp only[List.length_cons]at hb;have hlt:i<s.size:=o_;have hce:=a9_ hlt;rw[h0]at hce;have hn:¬(s.size:Int)<=(i:Int):=o_;have t42:((s[i].toNat:Int)==42)=false:=by rw[<-hce];rfl
 have t43:((s[i].toNat:Int)==43)=false:=by rw[<-hce];rfl
 have t63:((s[i].toNat:Int)==63)=false:=by rw[<-hce];rfl
 have t123:((s[i].toNat:Int)==123)=true:=by rw[<-hce];rfl
 have HBB:Hid (∀(j:Nat),i<=j->j<=i+(l.length+1)->(ad_ s j=125↔j=i+(l.length+1))):=hb;clear hb hsub hz h0 hce;go_enter func148,ntmps148;go_wp2_with fail;go_loop [1] (fun j'=>∃j:Nat,j'= .int .i64 (j:Int)/\i<=j/\j<=i+(l.length+1)) (fun j'=>100 - (intOf j').toNat)
 case atStart=>exact⟨i,rfl,lr__,o_⟩
 case round=>
  obtain⟨j,rfl,hj1,hj2⟩:=hrel;clear t42 t43 t63 t123 hn;have hjl:j<s.size:=o_;have hje:=a9_ hjl;have hbj:=HBB.out j hj1 hj2;rw[hje]at hbj;by_cases e:j=i+(l.length+1)
  . have t93:((s[j].toNat:Int) !=125)=false:=by rw[hbj.2 e];rfl
    have HE:Hid (j=i+(l.length+1)):=e;clear hbj hje e;go_wp2_with fail;go_ret;exact⟨ej_ (by rw[HE.out];omega),rfl⟩
  . have t93:((s[j].toNat:Int) !=125)=true:=by
     have:s[j].toNat≠125:=fun h=>e (hbj.1 h)
     simp only[bne_iff_ne,ne_eq];omega
    clear hbj hje;go_wp2_with fail;go_round
    case rel=>exact⟨j+1,by go_num,o_,o_⟩
    case measure=>simp[intOf];omega
theorem wg_ (s:ByteArray)(i:Nat)(m:Mk)(w:World)(hs:s.size<=40)(hm:m.ok)(hsub:sub s i (i+m.text.length)=m.text)(hle:i+m.text.length<=s.size)(hno:m= .none->i<s.size->ad_ s i≠42/\ad_ s i≠43/\ad_ s i≠63/\ad_ s i≠123):
 Calls prog 148 #[.string s,.int .i64 (i:Int)] w fun e w'=>e= .returned (.int .i64 ((i+m.text.length:Nat):Int))/\w=w':=by
 cases m with
 |none=>exact sf_ s i w hs (by have:i+0<=s.size:=hle;omega) (hno rfl)
 |star=>exact jw_ s i w hs (by simp[Mk.text]at hle;omega) (.inl (et_ hsub hle (by simp[Mk.text])))
 |plus=>exact jw_ s i w hs (by simp[Mk.text]at hle;omega) (.inr (.inl (et_ hsub hle (by simp[Mk.text]))))
 |opt=>exact jw_ s i w hs (by simp[Mk.text]at hle;omega) (.inr (.inr (et_ hsub hle (by simp[Mk.text]))))
 |just n=>exact iq_ s i [48+n] w hs hsub hle (by have:n<=9:=hm;simp;omega)
 |more n=>exact iq_ s i [48+n,44] w hs hsub hle (by have:n<=9:=hm;simp;omega)
 |span n m=>exact iq_ s i [48+n,44,48+m] w hs hsub hle (by have:n<=m/\m<=9:=hm;simp;omega)
theorem ky_ {m:ByteArray}{l:List Nat}(h:txt m=l):m.toList=l.map UInt8.ofNat:=by
 rw[ByteArray.toList_eq,<-h];unfold txt;rw[List.map_map];have:(UInt8.ofNat ∘ UInt8.toNat)=id:=by funext x;simp
 rw[this,List.map_id]
theorem dp_ {m:ByteArray}{l:List Nat}(h:txt m=l){j:Nat}(hj:j<l.length):j<m.size/\ad_ m j=l.getD j 0:=by
 have hs:m.size=l.length:=by rw[<-bc_,h]
 have:=j5_ (s:=m) (a:=j) o_;rw[h]at this;exact⟨o_,by rw[List.getD_eq_getElem?_getD,this];rfl⟩
theorem f3_ (mk:Mk)(m:ByteArray)(w:World)(hm:mk.ok)(h:txt m=mk.text):Calls prog 149 #[.string m] w fun e w'=>e= .returned (.tuple #[.int .i64 (mk.lo:Int),.int .i64 mk.hi])/\Below w.heap.size w w':=by
 have hl:=ky_ h;cases mk with
 |none=>
  simp only[Mk.text,List.map]at hl;have h0:m.toList.isEmpty=true:=by rw[hl];rfl
  clear hl h hm;go_enter func149,ntmps149;go_wp2_with fail;go_ret2;exact⟨rfl,br__⟩
 |star=>
  simp only[Mk.text,List.map]at hl;have h0:m.toList.isEmpty=false:=by rw[hl];rfl
  have h42:(m.toList==[42])=true:=by rw[hl];rfl
  clear hl h hm;go_enter func149,ntmps149;go_wp2_with fail;go_ret2;exact⟨rfl,br__⟩
 |plus=>
  simp only[Mk.text,List.map]at hl;have h0:m.toList.isEmpty=false:=by rw[hl];rfl
  have h42:(m.toList==[42])=false:=by rw[hl];rfl
  have h43:(m.toList==[43])=true:=by rw[hl];rfl
  clear hl h hm;go_enter func149,ntmps149;go_wp2_with fail;go_ret2;exact⟨rfl,br__⟩
 |opt=>
  simp only[Mk.text,List.map]at hl;have h0:m.toList.isEmpty=false:=by rw[hl];rfl
  have h42:(m.toList==[42])=false:=by rw[hl];rfl
  have h43:(m.toList==[43])=false:=by rw[hl];rfl
  have h63:(m.toList==[63])=true:=by rw[hl];rfl
  clear hl h hm;go_enter func149,ntmps149;go_wp2_with fail;go_ret2;exact⟨rfl,br__⟩
 |just n=>
  obtain⟨hl1,hb1⟩:=dp_ h (j:=1) (by simp[Mk.text]);have hsz:m.size=3:=by rw[<-bc_,h];rfl
  have hm1:m[1].toNat=48+n:=by rw[<-a9_ hl1,hb1];rfl
  simp only[Mk.text,List.map]at hl;have h0:m.toList.isEmpty=false:=by rw[hl];rfl
  have h42:(m.toList==[42])=false:=by rw[hl];rfl
  have h43:(m.toList==[43])=false:=by rw[hl];rfl
  have h63:(m.toList==[63])=false:=by rw[hl];rfl
  have hn9:n<=9:=hm;have HM1:=hi__ hm1;have hw1:((m[1].toNat:Int)- 48)=(n:Int):=by rw[hm1];omega
  have hg1:(48:Int)<=(m[1].toNat:Int):=by rw[hm1];omega
  have hg2:(m[1].toNat:Int)<=57:=by rw[hm1];omega
  clear hl h hb1 hm1;go_enter func149,ntmps149;go_wp2_with fail;go_ret2;exact⟨rfl,br__⟩
 |more n=>
  obtain⟨hl1,hb1⟩:=dp_ h (j:=1) (by simp[Mk.text]);have hsz:m.size=4:=by rw[<-bc_,h];rfl
  have hm1:m[1].toNat=48+n:=by rw[<-a9_ hl1,hb1];rfl
  simp only[Mk.text,List.map]at hl;have h0:m.toList.isEmpty=false:=by rw[hl];rfl
  have h42:(m.toList==[42])=false:=by rw[hl];rfl
  have h43:(m.toList==[43])=false:=by rw[hl];rfl
  have h63:(m.toList==[63])=false:=by rw[hl];rfl
  have hn9:n<=9:=hm;have HM1:=hi__ hm1;have hw1:((m[1].toNat:Int)- 48)=(n:Int):=by rw[hm1];omega
  have hg1:(48:Int)<=(m[1].toNat:Int):=by rw[hm1];omega
  have hg2:(m[1].toNat:Int)<=57:=by rw[hm1];omega
  clear hl h hb1 hm1;go_enter func149,ntmps149;go_wp2_with fail;go_ret2;exact⟨rfl,br__⟩
 |span n k=>
  obtain⟨hl1,hb1⟩:=dp_ h (j:=1) (by simp[Mk.text]);have hsz:m.size=5:=by rw[<-bc_,h];rfl
  have hm1:m[1].toNat=48+n:=by rw[<-a9_ hl1,hb1];rfl
  simp only[Mk.text,List.map]at hl;have h0:m.toList.isEmpty=false:=by rw[hl];rfl
  have h42:(m.toList==[42])=false:=by rw[hl];rfl
  have h43:(m.toList==[43])=false:=by rw[hl];rfl
  have h63:(m.toList==[63])=false:=by rw[hl];rfl
  have hn9:n<=k/\k<=9:=hm;obtain⟨hl3,hb3⟩:=dp_ h (j:=3) (by simp[Mk.text]);have hm3:m[3].toNat=48+k:=by rw[<-a9_ hl3,hb3];rfl
  have hw3:((m[3].toNat:Int)- 48)=(k:Int):=by rw[hm3];omega
  have hw4:IntKind.u8.wrap ((m[3].toNat:Int)- 48)=(k:Int):=by rw[hw3,IntKind.wrap_u8];omega
  have hw5:IntKind.i64.wrap (k:Int)=(k:Int):=by rw[IntKind.wrap_i64];omega
  have hg3:(48:Int)<=(m[3].toNat:Int):=by rw[hm3];omega
  have hg4:(m[3].toNat:Int)<=57:=by rw[hm3];omega
  clear hb3 hm3;have HM1:=hi__ hm1;have hw1:((m[1].toNat:Int)- 48)=(n:Int):=by rw[hm1];omega
  have hg1:(48:Int)<=(m[1].toNat:Int):=by rw[hm1];omega
  have hg2:(m[1].toNat:Int)<=57:=by rw[hm1];omega
  clear hl h hb1 hm1;go_enter func149,ntmps149;go_wp2_with fail;go_quiet (fail);go_wp2_with fail;go_ret2;exact⟨rfl,below_drewN br__ nq⟩
def pieC (l:List (ByteArray×ByteArray)):List Value:=l.flatMap fun x=> [.string x.1,.string x.2]
theorem yp_ (l:List (ByteArray×ByteArray))(x y:ByteArray):pieC l++ [.string x,.string y]=pieC (l++ [(x,y)]):=by simp[pieC]
theorem ad3_ (l:List (ByteArray×ByteArray))(k:Nat)(x:ByteArray×ByteArray)(h:l[k]? =some x):(pieC l)[k*2]? =some (.string x.1)/\(pieC l)[k*2+1]? =some (.string x.2):=by
 induction l generalizing k with
 |nil=>simp at h
 |cons q ps ih=>
  cases k with
  |zero=>simp at h;subst h;simp[pieC]
  |succ k=>
   have:=ih k (by simpa using h);rw[show(k+1)*2=k*2+1+1 by omega];simpa [pieC] using this
theorem abj_:(prog.info? 143).map (fun i=>(i.zero,i.size,i.bytes))=some (some (.agg #[.string ByteArray.empty,.string ByteArray.empty]),2,32):=k_
theorem mv_ {s:ByteArray}{pre l post:List Nat}(h:txt s=pre++l++post):sub s pre.length (pre.length+l.length)=l/\pre.length+l.length<=s.size:=by
 have hs:s.size=pre.length+l.length+post.length:=by rw[<-bc_,h];simp only[List.length_append]
 refine⟨?_,o_⟩;unfold sub;rw[h,List.take_append_of_le_length i_,List.take_of_length_le i_,List.drop_append_of_le_length o_,List.drop_of_length_le lr__,List.nil_append]
def ad4_ (its:List Itm)(w:World)(e:Ending)(w':World):Prop:=
 ∃(v:Value) (Ps:List (ByteArray×ByteArray)),e= .returned v/\Ps.map (fun x=>(txt x.1,txt x.2))=its.map (fun i=>(i.la,i.m.text))/\w'.ownsRow w.heap.size 143 2 v Ps.length (pieC Ps)/\Below w.heap.size w w'
theorem ph_ {k:Nat}{s:ByteArray}{its:List Itm}(hits:∀i∈its,dl_ k i.la i.q/\i.m.ok)(ht:txt s=its.flatMap Itm.text){j:Nat}(hj:j<its.length):
 ∃it,its[j]? =some it/\dl_ k it.la it.q/\it.m.ok/\sub s ((its.take j).flatMap Itm.text).length (((its.take j).flatMap Itm.text).length+it.la.length)=it.la/\sub s (((its.take j).flatMap Itm.text).length+it.la.length) (((its.take j).flatMap Itm.text).length+it.la.length+it.m.text.length)=it.m.text/\
  ((its.take j).flatMap Itm.text).length+it.la.length+it.m.text.length<=s.size/\((its.take (j+1)).flatMap Itm.text).length=((its.take j).flatMap Itm.text).length+it.la.length+it.m.text.length/\1<=it.la.length/\
  (it.m= .none->((its.take j).flatMap Itm.text).length+it.la.length<s.size->ad_ s (((its.take j).flatMap Itm.text).length+it.la.length)≠42/\ad_ s (((its.take j).flatMap Itm.text).length+it.la.length)≠43/\ad_ s (((its.take j).flatMap Itm.text).length+it.la.length)≠63/\ad_ s (((its.take j).flatMap Itm.text).length+it.la.length)≠123):=by
 have hm:its[j]∈its:=List.getElem_mem hj;obtain⟨hA,hok⟩:=hits _ hm;have hsplit:its=its.take j++its[j]::its.drop (j+1):=by rw[List.getElem_cons_drop,List.take_append_drop]
 have htxt:txt s=(its.take j).flatMap Itm.text++its[j].la++(its[j].m.text++(its.drop (j+1)).flatMap Itm.text):=by
  rw[ht];conv=>lhs;rw[hsplit]
  rw[List.flatMap_append,List.flatMap_cons];simp[Itm.text]
 obtain⟨h1,h2⟩:=mv_ htxt;obtain⟨h3,h4⟩:=mv_ (s:=s) (pre:=(its.take j).flatMap Itm.text++its[j].la) (l:=its[j].m.text) (post:=(its.drop (j+1)).flatMap Itm.text) (by rw[htxt];simp);rw[List.length_append]at h3 h4;obtain⟨c,l',hc,_⟩:=hA.head;refine⟨its[j],by rw[List.getElem?_eq_getElem hj],hA,hok,h1,h3,h4, ?_,by rw[hc];simp,fun hno hlt=> ?_⟩
 . rw[List.take_succ_eq_append_getElem hj,List.flatMap_append,List.length_append];simp only[List.flatMap_cons,List.flatMap_nil,List.append_nil,Itm.text,List.length_append];omega
 . rw[hno]at htxt;simp only[Mk.text,List.nil_append]at htxt;have hs:s.size=(txt s).length:=(bc_ s).symm;rw[htxt]at hs;simp only[List.length_append]at hs;cases hd:its.drop (j+1)with
   |nil=>rw[hd]at hs;simp only[List.flatMap_nil,List.length_nil]at hs;omega
   |cons y ys=>
    have hy:y∈its:=List.mem_of_mem_drop (by rw[hd];simp);obtain⟨hAy,_⟩:=hits y hy;obtain⟨c',l'',hc',n1,n2,n3,n4⟩:=hAy.head;rw[hd,List.flatMap_cons]at htxt;have hb:ad_ s (((its.take j).flatMap Itm.text).length+its[j].la.length)=c':=by
     have hx:=j5_ (s:=s) (a:=((its.take j).flatMap Itm.text).length+its[j].la.length) hlt;rw[htxt,List.getElem?_append_right (by rw[List.length_append];omega),List.length_append,Nat.sub_self,Itm.text,hc']at hx;simp only[List.cons_append,List.getElem?_cons_zero,Option.some.injEq]at hx;exact hx.symm
    rw[hb];exact⟨n1,n2,n3,n4⟩
theorem op_ (k:Nat)(s:ByteArray)(its:List Itm)(w:World)(hs:s.size<=40)(hits:∀i∈its,dl_ k i.la i.q/\i.m.ok)(ht:txt s=its.flatMap Itm.text):
 Calls prog 112 #[.string s] w (ad4_ its w):=by
 obtain⟨i0,hi0,hz0,hz01,hz02⟩:=info_parts abj_;have HIT:=fun j (hj:j<its.length)=>ph_ hits ht hj
 have HEND:Hid ((its.flatMap Itm.text).length=s.size):=by unfold Hid;rw[<-ht,bc_]
 clear hits ht;go_enter func112,ntmps112;go_wp2_with fail;go_loopw [3,4,5,6] (fun l' i' _ _ wr=>∃(j i:Nat) (Ps:List (ByteArray×ByteArray)),j<=its.length/\i'= .int .i64 (i:Int)/\Hid (((its.take j).flatMap Itm.text).length=i)/\Hid (Ps.map (fun x=>(txt x.1,txt x.2))=(its.take j).map (fun i=>(i.la,i.m.text)))/\j<=i/\Ps.length=j/\wr.ownsRow w.heap.size 143 2 l' Ps.length (pieC Ps)/\Below w.heap.size w wr) (fun _ i' _ _ _=>100 - (intOf i').toNat)
 case atStart=>exact⟨0,0,[],o_,rfl,by simp[Hid],by simp[Hid],o_,rfl,on__,br__⟩
 case round=>
  obtain⟨j,i,Ps,hj,rfl,HI,HPS,hji,hpl,hown,hB⟩:=hrel;by_cases hlt:j<its.length
  . obtain⟨it,hit,hA,hok,h1,h2,h3,h4,h5,h6⟩:=HIT j hlt;rw[HI.out]at h1 h2 h3 h4 h6;have hil:(i:Int)<(s.size:Int):=o_;have HC1:=abi_ s i k it.la it.q wr hs hA h1 o_;have HC2:=wg_ s (i+it.la.length) it.m wr hs hok h2 h3 h6;obtain⟨na,HNA⟩:=hx__ (i+it.la.length);rw[HNA.out]at HC1 HC2 h1 h2 h3 h4;obtain⟨nb,HNB⟩:=hx__ (na+it.m.text.length);rw[HNB.out]at HC2 h2 h3 h4;have hna:i<na:=by rw[<-HNA.out];omega
    have hnb:na<=nb:=by rw[<-HNB.out];omega
    have x1:=fq_ s i na;have x2:=fq_ s na nb;rw[h1]at x1;rw[h2]at x2;have HN:Hid ((Ps++ [(s.extract i na,s.extract na nb)]).map (fun x=>(txt x.1,txt x.2))=(its.take (j+1)).map (fun i=>(i.la,i.m.text))):=by
     unfold Hid;rw[List.map_append,HPS.out,List.take_add_one,List.map_append,hit];simp[x1,x2]
    have H4:Hid (((its.take (j+1)).flatMap Itm.text).length=nb):=h4;have hq1:na<=s.size:=o_;have hi1:(i:Int)<=(na:Int):=o_;have hi2:(na:Int)<=(nb:Int):=o_;have hi3:(nb:Int)<=(s.size:Int):=o_;have hsz:=hB.size;clear hit hA hok h1 h2 h4 h6 x1 x2 HPS HI HNA HNB;obtain⟨e1,HE1⟩:=hx__ (s.extract i na);obtain⟨e2,HE2⟩:=hx__ (s.extract na nb);have hnaa:=hown.alloc (.cells #[.string (s.extract i na),.string (s.extract na nb)] 143);have HB:Hid (Below w.heap.size w wr):=hB;have HOW:Hid (∀x,(u3:Value).ownBlock=some x->w.heap.size<=x):=fun x e=>(hown.lt x e).1
    clear hown hB;go_wp2_with (first|(go_at_call 147;refine HC1.mono ?_;rintro e w' ⟨rfl,rfl⟩)|(go_at_call 148;refine HC2.mono ?_;rintro e w' ⟨rfl,rfl⟩));go_region_law
     ((refine step_append_lies _ (by rfl) _ _ _ (by rfl) w.heap.size 143 i0 (.agg #[.string ByteArray.empty,.string ByteArray.empty]) 2 32 underlying139 hi0 hz0 hz01 hz02 rfl d_ u3 Ps.length (pieC Ps) (by rfl) hnaa ⟨wr.heap.size,0,none⟩ 1 1 [.string (s.extract i na),.string (s.extract na nb)] (by rfl) (by rfl) (jp_ _ _ _) (by intro u hu;simp at hu;rcases hu with rfl|rfl<;>rfl) d_ u_ o_ s_ (wr.heap.size+1) i_ ?_;intro g' cap' w6 hown' hgr' hfr' hlt2;have HO3:Hid (w6.ownsRow w.heap.size 143 2 (.slice (some ⟨g',0,none⟩) (Ps.length+1) cap') (Ps.length+1) (pieC Ps++ [.string (s.extract i na),.string (s.extract na nb)])):=hown';have HB3:Hid (Below w.heap.size w w6):=(HB.out.alloc o_ _).grown ⟨hgr'.os,hgr'.tape,hgr'.output,hgr'.size,hgr'.block⟩ s_ (fun x e=>HOW.out x e);clear hfr' hlt2 hown' hgr'))
    all_goals
     go_wp2_with fail;go_roundw
     case rel=>
      have ho:=HO3.out;rw[yp_]at ho;exact⟨j+1,nb,Ps++ [(s.extract i na,s.extract na nb)],o_,rfl,H4,HN,o_,s_,by rw[List.length_append];rw[hpl]at ho ⊢;exact ho,HB3.out⟩
     case measure=>simp[intOf];omega
  . obtain rfl:j=its.length:=o_;have hie:s.size=i:=by rw[<-HEND.out,<-HI.out,List.take_of_length_le lr__]
    subst hie;have hn:¬(s.size:Int)<(s.size:Int):=o_;have HP2:Hid (Ps.map (fun x=>(txt x.1,txt x.2))=its.map (fun i=>(i.la,i.m.text))):=by
     have:=HPS.out;rw[List.take_of_length_le lr__]at this;exact this
    have HO:Hid (wr.ownsRow w.heap.size 143 2 u3 Ps.length (pieC Ps)):=hown;have HB:Hid (Below w.heap.size w wr):=hB;clear HPS HI hown hB hpl;go_wp2_with fail;go_ret;exact⟨_,Ps,rfl,HP2.out,HO.out,HB.out⟩
theorem t9_ (m:Mk)(hm:m.ok)(q:Pat):(m.app q).size<=q.size*10:=by
 cases m with
 |none=>show q.size<=_;omega
 |star=>show q.size*1<=_;omega
 |plus=>show q.size*2<=_;omega
 |opt=>show q.size*1<=_;omega
 |just n=>exact Nat.mul_le_mul_left _ (by have:n<=9:=hm;omega)
 |more n=>exact Nat.mul_le_mul_left _ (by have:n<=9:=hm;omega)
 |span n m=>exact Nat.mul_le_mul_left _ (by have:n<=m/\m<=9:=hm;omega)
def SizA (A:List Nat->Pat->Prop)(B:Nat):Prop:=∀l p,A l p->p.size<=l.length*B
theorem abk_ {A:List Nat->Pat->Prop}{B:Nat}(hA:SizA A B){its:List Itm}(h:∀i∈its,A i.la i.q/\i.m.ok):(its.map fun i=>i.pat.size).sum<=(its.flatMap Itm.text).length*(B*10):=by
 induction its with
 |nil=>simp
 |cons i its ih=>
  have h1:=ih (fun y hy=>h y (by simp[hy]));obtain⟨h2,h3⟩:=h i i_;have h4:=hA _ _ h2;have h5:=t9_ i.m h3 i.q;simp only[List.map_cons,List.sum_cons,List.flatMap_cons,List.length_append,Nat.add_mul];have h6:i.q.size*10<=i.la.length*(B*10):=by rw[<-Nat.mul_assoc];exact Nat.mul_le_mul_right _ h4
  have h7:i.la.length*(B*10)<=i.text.length*(B*10):=Nat.mul_le_mul_right _ (by simp[Itm.text]);have h8:i.pat.size=(i.m.app i.q).size:=rfl;omega
theorem SeqT.size_le {A:List Nat->Pat->Prop}{B:Nat}(hA:SizA A B){l:List Nat}{p:Pat}(h:SeqT A l p):p.size<=l.length*(B*10):=by
 obtain⟨its,h1,rfl,rfl⟩:=h;rw[ju_];simpa [Pat.size] using abk_ hA h1
theorem PatT.size_le {A:List Nat->Pat->Prop}{B:Nat}(hA:SizA A B){l:List Nat}{p:Pat}(h:PatT A l p):p.size<=l.length*(B*10):=by
 obtain⟨x,xs,h1,h2,rfl,rfl⟩:=h;have h3:=h1.size_le hA;rw[p1_,List.length_append,Nat.add_mul];have h4:(xs.map fun y=>y.2.size).sum<=(dw_ xs).length*(B*10):=by
  clear h1 h3;induction xs with
  |nil=>simp
  |cons y xs ih=>
   have h5:=ih (fun z hz=>h2 z (by simp[hz]));have h6:=(h2 y i_).size_le hA;have h7:(dw_ (y::xs)).length=1+y.1.length+(dw_ xs).length:=by simp[dw_];omega
   rw[h7,List.map_cons,List.sum_cons,Nat.add_mul,Nat.add_mul];omega
 omega
theorem oq_ (k:Nat):SizA (dl_ k) (10^k):=by
 have h0:∀l p,eh_ l p->p.size=1/\1<=l.length:=by
  intro l p h;rcases h with ⟨c,hc,rfl,rfl⟩|⟨rfl,rfl⟩|⟨ps,_,h1,⟨rfl,rfl⟩|⟨rfl,rfl⟩⟩
  . exact⟨rfl,i_⟩
  . exact⟨rfl,i_⟩
  . exact⟨rfl,i_⟩
  . exact⟨rfl,i_⟩
 induction k with
 |zero=>intro l p h;have:=h0 l p h;rw[this.1];simp;omega
 |succ k ih=>
  intro l p h;rcases h with h|⟨l',rfl,h⟩
  . have:=h0 l p h;rw[this.1];have:1<=10^(k+1):=Nat.pow_pos o_;exact Nat.le_trans o_ (Nat.mul_le_mul (show 1<=l.length by omega) this)
  . have:=h.size_le ih;rw[Nat.pow_succ];exact Nat.le_trans this (Nat.mul_le_mul_right _ s_)
theorem or_ {l:List Nat}{p:Pat}(h:eh_ l p):p.size=1:=by
 rcases h with ⟨c,hc,rfl,rfl⟩|⟨rfl,rfl⟩|⟨ps,_,h1,⟨rfl,rfl⟩|⟨rfl,rfl⟩⟩<;>rfl
theorem p7_ {k n:Nat}(hk:k<=6)(hn:n<=40):n*10^k<=40000000:=by
 have h1:10^k<=10^6:=Nat.pow_le_pow_right o_ hk;have h2:n*10^k<=40*10^6:=Nat.mul_le_mul hn h1;omega
def wh_ (k:Nat):Prop:=∀(s:ByteArray) (p:Pat) (w:World),s.size<=40->PatT (dl_ k) (txt s) p->Calls prog 71 #[.string s] w fun e w'=>e= .returned (.int .i64 (p.size:Int))/\Below w.heap.size w w'
def pi_ (k:Nat):Prop:=∀(x y:ByteArray) (i:Itm) (w:World),x.size<=40->dl_ k i.la i.q->i.m.ok->txt x=i.la->txt y=i.m.text->Calls prog 113 #[.agg #[.string x,.string y]] w fun e w'=>e= .returned (.int .i64 (i.pat.size:Int))/\Below w.heap.size w w'
theorem fv_ {a b:Int}(ha:0<=a)(hb:0<=b)(ha2:a<=10)(hb2:b<=1000000000):wrap64 (a*b)=a*b:=by
 have h1:a*b<=10*1000000000:=Int.mul_le_mul ha2 hb2 hb o_;have h2:0<=a*b:=Int.mul_nonneg ha hb;unfold wrap64;omega
theorem vf_ (m:Mk)(hm:m.ok)(q:Pat):(∃h:Nat,m.hi=(h:Int)/\h<=9/\(m.app q).size=h*q.size)\/(m= .star/\(m.app q).size=q.size)\/(m.hi= -1/\m≠ .star/\m.lo<=9/\(m.app q).size=(m.lo+1)*q.size):=by
 cases m with
 |none=>exact .inl ⟨1,rfl,o_,by show q.size=_;omega⟩
 |star=>exact .inr (.inl ⟨rfl,by show q.size*1=_;omega⟩)
 |plus=>exact .inr (.inr ⟨rfl,i_,by show 1<=9;omega,by show q.size*2=(1+1)*q.size;omega⟩)
 |opt=>exact .inl ⟨1,rfl,o_,by show q.size*1=_;omega⟩
 |just n=>exact .inl ⟨n,rfl,hm,by show q.size*n=_;exact Nat.mul_comm _ _⟩
 |more n=>exact .inr (.inr ⟨rfl,i_,hm,by show q.size*(n+1)=(n+1)*q.size;exact Nat.mul_comm _ _⟩)
 |span n m=>exact .inl ⟨m,rfl,hm.2,by show q.size*m=_;exact Nat.mul_comm _ _⟩
def Mk.isStar:Mk->Bool
 | .star=>true
 |_=>false
theorem p8_ {m:Mk}(h:m≠ .star):m.isStar=false:=by cases m<;>first|rfl|exact absurd rfl h
theorem yq_ {m:Mk}{y:ByteArray}(h:txt y=m.text):(y.toList==[42])=m.isStar:=by
 have hl:=ky_ h;cases m<;>simp only[Mk.text,List.map]at hl<;>rw[hl]<;>rfl
structure sg_ (x:ByteArray)(n:Nat):Prop where
 pos:1<=x.size
 sz:n<=40000000
 way:(ad_ x 0≠40/\n=1)\/(ad_ x 0=40/\2<=x.size/\∀w,Calls prog 71 #[.string (x.extract 1 (x.size - 1))] w fun e w'=>e= .returned (.int .i64 (n:Int))/\Below w.heap.size w w')
theorem jx_ (x y:ByteArray)(m:Mk)(n r:Nat)(w:World)(hx:x.size<=40)(hm:m.ok)(hy:txt y=m.text)(hn:sg_ x n)(hr:(∃h:Nat,m.hi=(h:Int)/\h<=9/\r=h*n)\/(m= .star/\r=n)\/(m.hi= -1/\m≠ .star/\m.lo<=9/\r=(m.lo+1)*n)):
 Calls prog 113 #[.agg #[.string x,.string y]] w fun e w'=>e= .returned (.int .i64 (r:Int))/\Below w.heap.size w w':=by
 have hst:=yq_ hy;obtain⟨W,hW,BW,hWs,b0⟩:=nw__ w #[.string x,.string y] 143;obtain⟨c0,c1,_,_⟩:=aa_ b0;have hp:=hn.pos;have hnz:=hn.sz;have hce:=a9_ (s:=x) (a:=0) o_;obtain⟨hi,HHI⟩:=hx__ (m.hi);obtain⟨lo,HLO⟩:=hx__ (m.lo);rw[HHI.out,HLO.out]at hr;rcases hn.way with ⟨h40,rfl⟩|⟨h40,hx2,HC⟩
 . have t40:((x[0].toNat:Int)==40)=false:=by rw[<-hce];simp only[beq_eq_false_iff_ne,ne_eq];omega
   clear hce h40 hn;rcases hr with ⟨h,rfl,hh,rfl⟩|⟨rfl,rfl⟩|⟨rfl,hne,hlo,rfl⟩
   . go_enter func113,ntmps113;go_upto_region 1 with fail;rw[<-hW];clear hW;have HT:=f3_ _ y W hm hy;have B1:Below w.heap.size w W:=BW;have d0:=b0;rw[HHI.out,HLO.out]at HT;clear hst hm hy;go_wp2_with fail;refine HT.mono ?_;clear HT;rintro e w2 ⟨rfl,hB2⟩;have B2:Below w.heap.size w w2:=B1.trans (hB2.mono (by have:=B1.size;have:=ac_ d0;omega));have f0:=(hB2.block _ (ac_ d0)).trans d0;clear c0 c1;obtain⟨c0,c1,_,_⟩:=aa_ f0;clear hB2;have hwr:=fv_ (a:=(h:Int)) (b:=(1:Int)) o_ o_ o_ o_;have hge:(0:Int)<=(h:Int):=o_;go_wp2_with fail;go_ret;exact⟨ej_ (by first|(rw[hwr];simp)|simp),B2⟩
   . go_enter func113,ntmps113;go_upto_region 1 with fail;rw[<-hW];clear hW;have HT:=f3_ _ y W hm hy;have B1:Below w.heap.size w W:=BW;have d0:=b0;have HST:Hid ((y.toList==[42])=true):=hst;simp only[show Mk.star.lo=0 from rfl,show Mk.star.hi= -1 from rfl,show((0:Nat):Int)=0 from rfl]at HT;clear hst hm hy HHI HLO;go_wp2_with fail;refine HT.mono ?_;clear HT;rintro e w2 ⟨rfl,hB2⟩;have B2:Below w.heap.size w w2:=B1.trans (hB2.mono (by have:=B1.size;have:=ac_ d0;omega));have f0:=(hB2.block _ (ac_ d0)).trans d0;clear c0 c1;obtain⟨c0,c1,_,_⟩:=aa_ f0;clear hB2;have hst2:(y.toList==[42])=true:=HST.out;go_wp2_with fail;go_ret;exact⟨rfl,B2⟩
   . go_enter func113,ntmps113;go_upto_region 1 with fail;rw[<-hW];clear hW;have HT:=f3_ _ y W hm hy;have B1:Below w.heap.size w W:=BW;have d0:=b0;have HST:Hid ((y.toList==[42])=false):=by unfold Hid;rw[hst];exact p8_ hne
     rw[HHI.out,HLO.out]at HT;clear hst hm hy hne;go_wp2_with fail;refine HT.mono ?_;clear HT;rintro e w2 ⟨rfl,hB2⟩;have B2:Below w.heap.size w w2:=B1.trans (hB2.mono (by have:=B1.size;have:=ac_ d0;omega));have f0:=(hB2.block _ (ac_ d0)).trans d0;clear c0 c1;obtain⟨c0,c1,_,_⟩:=aa_ f0;clear hB2;have hst2:(y.toList==[42])=false:=HST.out;have hwr:=fv_ (a:=(lo:Int)+1) (b:=(1:Int)) o_ o_ o_ o_;go_wp2_with fail;go_ret;exact⟨ej_ (by first|(rw[hwr];simp)|simp),B2⟩
 . have t40:((x[0].toNat:Int)==40)=true:=by rw[<-hce,h40];rfl
   have HC:=HC W;have hxs:((x.size:Int)- 1)=((x.size - 1:Nat):Int):=o_;obtain⟨xe,HXE⟩:=hx__ (x.size - 1);rw[HXE.out]at HC hxs;have hx3:1<=xe:=by rw[<-HXE.out];omega
   have hx4:xe<=x.size:=by rw[<-HXE.out];omega
   clear hce h40 hn;rcases hr with ⟨h,rfl,hh,rfl⟩|⟨rfl,rfl⟩|⟨rfl,hne,hlo,rfl⟩
   . go_enter func113,ntmps113;go_upto_region 1 with fail;rw[<-hW];clear hW;go_wp2_with fail;refine HC.mono ?_;clear HC;rintro e w1 ⟨rfl,hB1⟩;have B1:Below w.heap.size w w1:=BW.trans (hB1.mono o_);have d0:=(hB1.block _ o_).trans b0;clear c0 c1;obtain⟨c0,c1,_,_⟩:=aa_ d0;have HT:=f3_ _ y w1 hm hy;rw[HHI.out,HLO.out]at HT;clear hst hm hy;go_wp2_with fail;refine HT.mono ?_;clear HT;rintro e w2 ⟨rfl,hB2⟩;have B2:Below w.heap.size w w2:=B1.trans (hB2.mono (by have:=B1.size;have:=ac_ d0;omega));have f0:=(hB2.block _ (ac_ d0)).trans d0;clear c0 c1;obtain⟨c0,c1,_,_⟩:=aa_ f0;clear hB2;have hwr:=fv_ (a:=(h:Int)) (b:=(n:Int)) o_ o_ o_ o_;have hge:(0:Int)<=(h:Int):=o_;go_wp2_with fail;go_ret;exact⟨ej_ (by first|(rw[hwr];simp)|simp),B2⟩
   . go_enter func113,ntmps113;go_upto_region 1 with fail;rw[<-hW];clear hW;go_wp2_with fail;refine HC.mono ?_;clear HC;rintro e w1 ⟨rfl,hB1⟩;have B1:Below w.heap.size w w1:=BW.trans (hB1.mono o_);have d0:=(hB1.block _ o_).trans b0;clear c0 c1;obtain⟨c0,c1,_,_⟩:=aa_ d0;have HT:=f3_ _ y w1 hm hy;have HST:Hid ((y.toList==[42])=true):=hst;simp only[show Mk.star.lo=0 from rfl,show Mk.star.hi= -1 from rfl,show((0:Nat):Int)=0 from rfl]at HT;clear hst hm hy HHI HLO;go_wp2_with fail;refine HT.mono ?_;clear HT;rintro e w2 ⟨rfl,hB2⟩;have B2:Below w.heap.size w w2:=B1.trans (hB2.mono (by have:=B1.size;have:=ac_ d0;omega));have f0:=(hB2.block _ (ac_ d0)).trans d0;clear c0 c1;obtain⟨c0,c1,_,_⟩:=aa_ f0;clear hB2;have hst2:(y.toList==[42])=true:=HST.out;go_wp2_with fail;go_ret;exact⟨rfl,B2⟩
   . go_enter func113,ntmps113;go_upto_region 1 with fail;rw[<-hW];clear hW;go_wp2_with fail;refine HC.mono ?_;clear HC;rintro e w1 ⟨rfl,hB1⟩;have B1:Below w.heap.size w w1:=BW.trans (hB1.mono o_);have d0:=(hB1.block _ o_).trans b0;clear c0 c1;obtain⟨c0,c1,_,_⟩:=aa_ d0;have HT:=f3_ _ y w1 hm hy;have HST:Hid ((y.toList==[42])=false):=by unfold Hid;rw[hst];exact p8_ hne
     rw[HHI.out,HLO.out]at HT;clear hst hm hy hne;go_wp2_with fail;refine HT.mono ?_;clear HT;rintro e w2 ⟨rfl,hB2⟩;have B2:Below w.heap.size w w2:=B1.trans (hB2.mono (by have:=B1.size;have:=ac_ d0;omega));have f0:=(hB2.block _ (ac_ d0)).trans d0;clear c0 c1;obtain⟨c0,c1,_,_⟩:=aa_ f0;clear hB2;have hst2:(y.toList==[42])=false:=HST.out;have hwr:=fv_ (a:=(lo:Int)+1) (b:=(n:Int)) o_ o_ o_ o_;go_wp2_with fail;go_ret;exact⟨ej_ (by first|(rw[hwr];simp)|simp),B2⟩
end Go.Proofs.YtpngikmcjkjdaaaGreatDoor
