import Derived.Test.YtpngikmcjkjdaaaGreatDoorG0
import Derived.BigQuiet
import Derived.Deep.OwnRows
import Derived.Deep.QuietTactic
import Derived.Deep.Upon
import Derived.Test.YtpngikmcjkjdaaaGreatDoorG2
import Derived.Test.YtpngikmcjkjdaaaGreatDoorG8
set_option linter.unusedVariables false
set_option linter.unusedSimpArgs false
set_option maxRecDepth 20000
set_option maxHeartbeats 80000000
namespace Go.Proofs.YtpngikmcjkjdaaaGreatDoor
open Go.RowKit Tryz
def fj_ (t:Nat->ByteArray)(n:Nat)(cx:Nat->Value):Nat->Value:=fun i=>if i<60 then .string (if i<n then t i else ByteArray.empty)else if i=60 then .int .i64 (n:Int)else cx (i - 61)
def BxAt (w:World)(bx:Nat)(t:Nat->ByteArray)(n:Nat)(cx:Nat->Value):Prop:=w.rowIs bx 72 81 (fj_ t n cx)
section
variable {w:World} {bx n:Nat} {t:Nat->ByteArray} {cx:Nat->Value}
theorem BxAt.cnt (h:BxAt w bx t n cx):w.cell? ⟨bx,60,none⟩=some (.int .i64 (n:Int)):=by
 have:=World.rowIs.cell h (i:=60) o_;simpa [fj_] using this
theorem BxAt.all (h:BxAt w bx t n cx){i:Nat}(hi:i<60):w.cell? ⟨bx,i,none⟩=some (.string (if i<n then t i else ByteArray.empty)):=by
 have:=World.rowIs.cell h (i:=i) o_;rw[this];simp[fj_,hi]
theorem BxAt.tune (h:BxAt w bx t n cx)(hn:n<=60){i:Nat}(hi:i<n):w.cell? ⟨bx,i,none⟩=some (.string (t i)):=by
 rw[h.all o_,if_pos hi]
end
theorem q0_ (w:World)(bx n:Nat)(t:Nat->ByteArray)(cx:Nat->Value)(s:ByteArray)(p:Nat)(h:BxAt w bx t n cx)(hn:n<=60)(hpl:IsPl t n s p):
 Calls prog 126 #[.pointer (some ⟨bx,0,none⟩),.string s] w fun e w'=>e= .returned (.int .i64 (p:Int))/\w'=w:=by
 have c1:=h.cnt;have hle:=hpl.le;go_enter func126,ntmps126;go_wp2_with fail;go_loop [5] (fun v=>∃i:Nat,i<=p/\v= .int .i64 (i:Int)) (fun v=>n - (intOf v).toNat)
 case atStart=>exact⟨0,o_,rfl⟩
 case round=>
  obtain⟨i,hi,rfl⟩:=hrel;by_cases hlt:i<n
  . have c2:=h.tune hn hlt;have hi2:(i:Int)<(n:Int):=o_;by_cases hb:i<p
    . have hb1:Op.bytesLess (t i).toList s.toList=true:=hpl.lo i hb;clear h hpl;go_wp2_with fail;go_round
      case rel=>exact⟨i+1,o_,by go_num⟩
      case measure=>simp[intOf];omega
    . have e:i=p:=o_;subst e;have hb1:Op.bytesLess (t i).toList s.toList=false:=hpl.at' hlt;clear h hpl;go_wp2_with fail;go_ret;exact⟨rfl,rfl⟩
  . have e:i=p:=o_;subst e;have hi2:¬(i:Int)<(n:Int):=o_;clear h hpl;go_wp2_with fail;go_ret;exact⟨rfl,rfl⟩
theorem ng_ (w:World)(bx n:Nat)(t:Nat->ByteArray)(cx:Nat->Value)(s:ByteArray)(p:Nat)(h:BxAt w bx t n cx)(hn:n<=60):
 Calls prog 127 #[.pointer (some ⟨bx,0,none⟩),.int .i64 (p:Int),.string s] w fun e w'=>e= .returned (.bool (decide (p<n/\t p=s)))/\w'=w:=by
 have c1:=h.cnt;by_cases hlt:p<n
 . have c2:=h.tune hn hlt;have hi:(p:Int)<(n:Int):=o_;by_cases hb:t p=s
   . have hb1:((t p).toList==s.toList)=true:=by rw[fr_];simp[hb]
     have e:decide (p<n/\t p=s)=true:=by simp[hlt,hb]
     rw[e];clear hb h e;go_enter func127,ntmps127;go_wp2_with fail;go_ret;exact⟨rfl,rfl⟩
   . have hb1:((t p).toList==s.toList)=false:=by rw[fr_];simp[hb]
     have e:decide (p<n/\t p=s)=false:=by simp[hb]
     rw[e];clear hb h e;go_enter func127,ntmps127;go_wp2_with fail;go_ret;exact⟨rfl,rfl⟩
 . have hi:¬(p:Int)<(n:Int):=o_;have e:decide (p<n/\t p=s)=false:=by simp[hlt]
   rw[e];clear h e;go_enter func127,ntmps127;go_wp2_with fail;go_ret;exact⟨rfl,rfl⟩
theorem q1_ (t:Nat->ByteArray)(s:ByteArray)(n:Nat):∃p,IsPl t n s p:=by
 induction n with
 |zero=>exact⟨0,lr__,fun j hj=>o_,fun h=>o_⟩
 |succ n ih=>
  obtain⟨p,h⟩:=ih;by_cases e:p<n
  . exact⟨p,o_,h.lo,fun _=>h.at' e⟩
  . have he:p=n:=by have:=h.le;omega
    subst he;cases hb:less (t p) s with
    |false=>exact⟨p,o_,h.lo,fun _=>hb⟩
    |true=>exact⟨p+1,o_,fun j hj=>by
     by_cases e':j=p
     . rw[e'];exact hb
     . exact h.lo j o_,fun h'=>o_⟩
def de_ (s:ByteArray):Bool:=decide (s.size<=12)&&ba_ s s.size
def dn_ (t:Nat->ByteArray)(n:Nat)(s:ByteArray)(p:Nat):Bool:=de_ s&& !(decide (p<n/\t p=s))&&decide (n<60)
def dj_ (t:Nat->ByteArray)(n:Nat)(s:ByteArray)(p:Nat):Int:=if de_ s then(if p<n/\t p=s then 0 else if n<60 then 0 else 9)else 7
def addT (t:Nat->ByteArray)(n:Nat)(s:ByteArray)(p:Nat):Nat->ByteArray:=if dn_ t n s p then ins t p s else t
def addN (t:Nat->ByteArray)(n:Nat)(s:ByteArray)(p:Nat):Nat:=if dn_ t n s p then n+1 else n
def c5_ (t:Nat->ByteArray)(n:Nat)(s:ByteArray)(p:Nat):Bool:=de_ s&&decide (p<n/\t p=s)
def dk_ (s:ByteArray):Int:=if de_ s then 0 else 7
def fk_ (t:Nat->ByteArray)(n:Nat)(s:ByteArray)(p:Nat):Nat->ByteArray:=if c5_ t n s p then del t p else t
def e7_ (t:Nat->ByteArray)(n:Nat)(s:ByteArray)(p:Nat):Nat:=if c5_ t n s p then n - 1 else n
def gb_ (t:Nat->ByteArray)(n:Nat)(cx:Nat->Value)(i:Nat):Nat->Value:=fun j=>if j<60 then .string (if i<j/\j<=n then t (j - 1)else if j<n then t j else ByteArray.empty)else fj_ t n cx j
theorem ae0_ (w:World)(bx n:Nat)(t:Nat->ByteArray)(cx:Nat->Value)(s:ByteArray)(p:Nat)(h:BxAt w bx t n cx)(hn:n<=60)(hs:s.size<=maxLen)(hp:IsPl t n s p):
 Calls prog 83 #[.pointer (some ⟨bx,0,none⟩),.string s] w fun e w'=>e= .returned (.tuple #[.bool (dn_ t n s p),.int .i64 (dj_ t n s p)])/\BxAt w' bx (addT t n s p) (addN t n s p) cx/\ab_ (fun k=>k=bx) w w':=by
 have HT:=jd_ s w hs;have hle:=hp.le;cases htu:de_ s with
 |false=>
  rw[show(decide (s.size<=12)&&ba_ s s.size)=false from htu]at HT;have e1:dn_ t n s p=false:=by simp[dn_,htu]
  have e2:dj_ t n s p=7:=by simp[dj_,htu]
  rw[addT,addN,e1,e2];have HF:=hi__ h;clear h e1 e2;go_enter func83,ntmps83;go_wp2_with (go_at_call 98;refine HT.mono ?_;rintro e w' ⟨rfl,hw'⟩;obtain rfl:w=w':=hw'.symm);go_ret2;exact⟨rfl,HF.out,ab_.refl _ _⟩
 |true=>
  rw[show(decide (s.size<=12)&&ba_ s s.size)=true from htu]at HT;have HP:=q0_ w bx n t cx s p h hn hp;have HSt:=ng_ w bx n t cx s p h hn;have HF:=hi__ h;have HPL:=hi__ hp;have c1:=h.cnt;by_cases hst:p<n/\t p=s
  . rw[show decide (p<n/\t p=s)=true by simp[hst]]at HSt;have e1:dn_ t n s p=false:=by simp[dn_,hst]
    have e2:dj_ t n s p=0:=by simp[dj_,htu,hst]
    rw[addT,addN,e1,e2];clear h e1 e2 hp hst;go_enter func83,ntmps83;go_wp2_with (first
     |(go_at_call 98;refine HT.mono ?_;rintro e w' ⟨rfl,hw'⟩;obtain rfl:w=w':=hw'.symm)
     |(go_at_call 126;refine HP.mono ?_;rintro e w' ⟨rfl,hw'⟩;obtain rfl:w=w':=hw'.symm)
     |(go_at_call 127;refine HSt.mono ?_;rintro e w' ⟨rfl,hw'⟩;obtain rfl:w=w':=hw'.symm))
    go_ret2;exact⟨rfl,HF.out,ab_.refl _ _⟩
  . rw[show decide (p<n/\t p=s)=false by simp[hst]]at HSt;by_cases h60:n<60
    . have e1:dn_ t n s p=true:=by simp only[dn_,htu,hst,h60,decide_false,decide_true,Bool.not_false,Bool.and_self]
      have e2:dj_ t n s p=0:=by simp only[dj_,htu,hst,h60,if_true,if_false]
      rw[addT,addN,e1,e2];have hlt:¬(60:Int)<=(n:Int):=o_;clear h e1 e2 hp hst;go_enter func83,ntmps83;go_wp2_with (first
       |(go_at_call 98;refine HT.mono ?_;rintro e w' ⟨rfl,hw'⟩;obtain rfl:w=w':=hw'.symm)
       |(go_at_call 126;refine HP.mono ?_;rintro e w' ⟨rfl,hw'⟩;obtain rfl:w=w':=hw'.symm)
       |(go_at_call 127;refine HSt.mono ?_;rintro e w' ⟨rfl,hw'⟩;obtain rfl:w=w':=hw'.symm))
      go_loopw [7] (fun v wr=>∃i:Nat,p<=i/\i<=n/\v= .int .i64 (i:Int)/\wr.rowIs bx 72 81 (gb_ t n cx i)/\ab_ (fun k=>k=bx) w wr) (fun v _=>(intOf v).toNat)
      case atStart=>exact⟨n,hle,lr__,rfl,HF.out.congr (fun j hj=>by
       unfold gb_;by_cases a:j<60
       . rw[if_pos a,if_neg o_,fj_,if_pos a]
       . rw[if_neg a]),ab_.refl _ _⟩
      case round=>
       obtain⟨i,h1,h2,rfl,hr,ht⟩:=hrel;have c60:wr.cell? ⟨bx,60,none⟩=some (.int .i64 (n:Int)):=by
        have:=hr.cell (i:=60) o_;rw[this];simp[gb_,fj_]
       have hfz:=hr.frozen;by_cases hpi:p<i
       . obtain⟨k,rfl⟩:∃k,i=k+1:=⟨i - 1,o_⟩;have hgt:(p:Int)<(k:Int)+1:=o_;have c3:wr.cell? ⟨bx,k,none⟩=some (.string (t k)):=by
          rw[hr.cell (i:=k) o_,gb_,if_pos o_,if_neg o_,if_pos o_]
         have c4:∃x,wr.cell? ⟨bx,k+1,none⟩=some (.string x):=by
          rw[hr.cell (i:=k+1) o_,gb_,if_pos o_];exact⟨_,rfl⟩
         obtain⟨x,c4⟩:=c4;have hf:=hfz (k+1);have HR:Hid (wr.rowIs bx 72 81 (gb_ t n cx (k+1))):=hr;have HTT:Hid (ab_ (fun k=>k=bx) w wr):=ht;clear hr ht hfz HF c1 HP HSt HT;rw[show((k+1:Nat):Int)=(k:Int)+1 by simp];have hwk:IntKind.i64.wrap (k:Int)=(k:Int):=by rw[IntKind.wrap_i64];omega
         have hwk2:IntKind.i64.wrap ((k:Int)+1 - 1)=(k:Int):=by rw[Int.add_sub_cancel];exact hwk
         go_wp2_with fail;go_region
         go_wp2_with fail;go_roundw
         case rel=>
          refine⟨k,o_,o_,by go_num, ?_, ?_⟩
          . refine(HR.out.set (k+1) (.string (t k))).congr (fun j hj=> ?_);unfold gb_;by_cases a:j<60
            . rw[if_pos a,if_pos a];by_cases e:j=k+1
              . subst e;rw[if_pos rfl,if_pos o_];simp
              . rw[if_neg e];by_cases b:k+1<j/\j<=n
                . have b':k<j/\j<=n:=o_;simp only[b,b',and_self,if_true]
                . have b':¬(k<j/\j<=n):=o_;simp only[b,b',if_false]
            . rw[if_neg a,if_neg a,if_neg o_]
          . have:=HTT.out.set ⟨bx,k+1,none⟩ (.string (t k)) (.inl rfl);exact⟨this.os,this.tape,this.output,this.size,this.block⟩
         case measure=>simp[intOf]
       . have e:p=i:=o_;subst e;have hgt:¬(p:Int)<(p:Int):=o_;have c4:∃x,wr.cell? ⟨bx,p,none⟩=some (.string x):=by
          rw[hr.cell (i:=p) o_,gb_,if_pos o_];exact⟨_,rfl⟩
         obtain⟨x,c4⟩:=c4;have hf:=hfz p;have hf2:=hfz 60;have HR:Hid (wr.rowIs bx 72 81 (gb_ t n cx p)):=hr;have HTT:Hid (ab_ (fun k=>k=bx) w wr):=ht;have c62:(wr.setCell ⟨bx,p,none⟩ (.string s)).cell? ⟨bx,60,none⟩=some (.int .i64 (n:Int)):=by
          rw[(hr.set p (.string s)).cell (i:=60) o_,if_neg o_];simp[gb_,fj_]
         have f62:(wr.setCell ⟨bx,p,none⟩ (.string s)).frozen? ⟨bx,60,none⟩=false:=(hr.set p (.string s)).frozen 60;have hwn:IntKind.i64.wrap ((n:Int)+1)=(n:Int)+1:=by rw[IntKind.wrap_i64];omega
         clear hr ht hfz HF c1 HP HSt HT;go_wp2_with fail;go_ret2;refine⟨rfl, ?_, ?_⟩
         . refine((HR.out.set p (.string s)).set 60 (.int .i64 ((n:Int)+1))).congr (fun j hj=> ?_);unfold gb_ fj_ ins;by_cases a:j<60
           . rw[if_neg (show¬j=60 by omega),if_pos a];by_cases e:j=p
             . subst e;simp[a];omega
             . rw[if_neg e,if_pos a];by_cases b:j<p
               . have b1:¬(p<j/\j<=n):=o_;have b2:j<n+1:=o_;have b3:j<n:=o_;simp only[b,b1,b2,b3,if_true,if_false]
               . by_cases c:j<=n
                 . have b1:p<j/\j<=n:=o_;have b2:j<n+1:=o_;simp only[b,b1,b2,e,and_self,if_true,if_false]
                 . have b1:¬(p<j/\j<=n):=o_;have b2:¬j<n+1:=o_;have b3:¬j<n:=o_;simp only[b1,b2,b3,if_false]
           . by_cases e:j=60
             . subst e;simp
             . have e2:¬j=p:=o_;simp only[e,e2,a,if_false]
         . exact(HTT.out.set ⟨bx,p,none⟩ (.string s) (.inl rfl)).set ⟨bx,60,none⟩ _ (.inl rfl)
    . have e:n=60:=o_;have e1:dn_ t n s p=false:=by simp[dn_,h60]
      have e2:dj_ t n s p=9:=by simp only[dj_,htu,hst,h60,if_true,if_false]
      rw[addT,addN,e1,e2];have hlt:(60:Int)<=(n:Int):=o_;clear h e1 e2 hp hst e;go_enter func83,ntmps83;go_wp2_with (first
       |(go_at_call 98;refine HT.mono ?_;rintro e w' ⟨rfl,hw'⟩;obtain rfl:w=w':=hw'.symm)
       |(go_at_call 126;refine HP.mono ?_;rintro e w' ⟨rfl,hw'⟩;obtain rfl:w=w':=hw'.symm)
       |(go_at_call 127;refine HSt.mono ?_;rintro e w' ⟨rfl,hw'⟩;obtain rfl:w=w':=hw'.symm))
      go_ret2;exact⟨rfl,HF.out,ab_.refl _ _⟩
def gl_ (t:Nat->ByteArray)(n:Nat)(cx:Nat->Value)(p i:Nat):Nat->Value:=fun j=>if j<60 then .string (if p<=j/\j<i then t (j+1)else if j<n then t j else ByteArray.empty)else if j=60 then .int .i64 ((n:Int)- 1)else fj_ t n cx j
theorem ac7_ (w:World)(bx n:Nat)(t:Nat->ByteArray)(cx:Nat->Value)(s:ByteArray)(p:Nat)(h:BxAt w bx t n cx)(hn:n<=60)(hs:s.size<=maxLen)(hp:IsPl t n s p):
 Calls prog 85 #[.pointer (some ⟨bx,0,none⟩),.string s] w fun e w'=>e= .returned (.tuple #[.bool (c5_ t n s p),.int .i64 (dk_ s)])/\BxAt w' bx (fk_ t n s p) (e7_ t n s p) cx/\ab_ (fun k=>k=bx) w w':=by
 have HT:=jd_ s w hs;have hle:=hp.le;cases htu:de_ s with
 |false=>
  rw[show(decide (s.size<=12)&&ba_ s s.size)=false from htu]at HT;have e1:c5_ t n s p=false:=by simp[c5_,htu]
  have e2:dk_ s=7:=by simp[dk_,htu]
  rw[fk_,e7_,e1,e2];have HF:=hi__ h;clear h e1 e2;go_enter func85,ntmps85;go_wp2_with (go_at_call 98;refine HT.mono ?_;rintro e w' ⟨rfl,hw'⟩;obtain rfl:w=w':=hw'.symm);go_ret2;exact⟨rfl,HF.out,ab_.refl _ _⟩
 |true=>
  rw[show(decide (s.size<=12)&&ba_ s s.size)=true from htu]at HT;have HP:=q0_ w bx n t cx s p h hn hp;have HSt:=ng_ w bx n t cx s p h hn;have HF:=hi__ h;have c1:=h.cnt;have f1:=World.rowIs.frozen h 60;have e2:dk_ s=0:=by simp[dk_,htu]
  by_cases hst:p<n/\t p=s
  . rw[show decide (p<n/\t p=s)=true by simp[hst]]at HSt;have e1:c5_ t n s p=true:=by simp[c5_,htu,hst]
    rw[fk_,e7_,e1,e2];have hpn:=hst.1;have hwn:IntKind.i64.wrap ((n:Int)- 1)=(n:Int)- 1:=by rw[IntKind.wrap_i64];omega
    clear h e1 e2 hp hst;go_enter func85,ntmps85;go_wp2_with (first
     |(go_at_call 98;refine HT.mono ?_;rintro e w' ⟨rfl,hw'⟩;obtain rfl:w=w':=hw'.symm)
     |(go_at_call 126;refine HP.mono ?_;rintro e w' ⟨rfl,hw'⟩;obtain rfl:w=w':=hw'.symm)
     |(go_at_call 127;refine HSt.mono ?_;rintro e w' ⟨rfl,hw'⟩;obtain rfl:w=w':=hw'.symm))
    go_loopw [7] (fun v wr=>∃i:Nat,p<=i/\i<=n - 1/\v= .int .i64 (i:Int)/\wr.rowIs bx 72 81 (gl_ t n cx p i)/\ab_ (fun k=>k=bx) w wr) (fun v _=>n - (intOf v).toNat)
    case atStart=>exact⟨p,lr__,o_,rfl,(HF.out.set 60 (.int .i64 ((n:Int)- 1))).congr (fun j hj=>by
     unfold gl_;by_cases a:j<60
     . have b1:¬(p<=j/\j<p):=o_;have b2:¬j=60:=o_;simp only[a,b1,b2,fj_,if_true,if_false]
     . by_cases b:j=60
       . simp only[a,b,if_true,if_false];simp
       . simp only[a,b,if_false]),(ab_.refl _ _).set _ _ (.inl rfl)⟩
    case round=>
     obtain⟨i,h1,h2,rfl,hr,ht⟩:=hrel;have c60:wr.cell? ⟨bx,60,none⟩=some (.int .i64 ((n:Int)- 1)):=by
      rw[hr.cell (i:=60) o_];simp[gl_]
     have hfz:=hr.frozen;by_cases hpi:i<n - 1
     . have hgt:(i:Int)<(n:Int)- 1:=o_;have c3:wr.cell? ⟨bx,i+1,none⟩=some (.string (t (i+1))):=by
        rw[hr.cell (i:=i+1) o_,gl_,if_pos o_,if_neg o_,if_pos o_]
       have c4:∃x,wr.cell? ⟨bx,i,none⟩=some (.string x):=by
        rw[hr.cell (i:=i) o_,gl_,if_pos o_];exact⟨_,rfl⟩
       obtain⟨x,c4⟩:=c4;have hf:=hfz i;have HR:Hid (wr.rowIs bx 72 81 (gl_ t n cx p i)):=hr;have HTT:Hid (ab_ (fun k=>k=bx) w wr):=ht;have hwk:IntKind.i64.wrap ((i:Int)+1)=(i:Int)+1:=by rw[IntKind.wrap_i64];omega
       clear hr ht hfz HF c1 HP HSt HT;go_wp2_with fail;go_region
       go_wp2_with fail;go_roundw
       case rel=>
        refine⟨i+1,o_,o_,by go_num, ?_, ?_⟩
        . refine(HR.out.set i (.string (t (i+1)))).congr (fun j hj=> ?_);unfold gl_;by_cases a:j<60
          . rw[if_pos a,if_pos a];by_cases e:j=i
            . subst e;rw[if_pos rfl,if_pos o_]
            . rw[if_neg e];by_cases b:p<=j/\j<i
              . have b':p<=j/\j<i+1:=o_;simp only[b,b',and_self,if_true]
              . have b':¬(p<=j/\j<i+1):=o_;simp only[b,b',if_false]
          . rw[if_neg a,if_neg a,if_neg o_]
        . have:=HTT.out.set ⟨bx,i,none⟩ (.string (t (i+1))) (.inl rfl);exact⟨this.os,this.tape,this.output,this.size,this.block⟩
       case measure=>simp[intOf];omega
     . have e:i=n - 1:=o_;have hgt:¬(i:Int)<(n:Int)- 1:=o_;have e0:(n:Int)- 1=((n - 1:Nat):Int):=o_;have c4:∃x,wr.cell? ⟨bx,n - 1,none⟩=some (.string x):=by
        rw[hr.cell (i:=n - 1) o_,gl_,if_pos o_];exact⟨_,rfl⟩
       obtain⟨x,c4⟩:=c4;have hf:=hfz (n - 1);rw[e0]at c60 hgt;have HR:Hid (wr.rowIs bx 72 81 (gl_ t n cx p i)):=hr;have HTT:Hid (ab_ (fun k=>k=bx) w wr):=ht;clear hr ht hfz HF c1 HP HSt HT;obtain⟨m,HM⟩:∃m,Hid (m=n - 1):=⟨n - 1,by unfold Hid;rfl⟩;rw[<-HM.out]at c4 hf c60 hgt;have HE:Hid (i=m):=by unfold Hid;rw[HM.out];exact e
       have hm60:(m:Int)<60:=by have:=HM.out;omega
       clear e e0 h2 hpi hwn;go_wp2_with fail;go_region
       go_wp2_with fail;go_ret2;have hE:=HE.out;have hM:=HM.out;subst hE;refine⟨rfl, ?_, ?_⟩
       . refine(HR.out.set i (.string ByteArray.empty)).congr (fun j hj=> ?_);unfold gl_ fj_ del;by_cases a:j<60
         . rw[if_pos a,if_pos a];by_cases e:j=i
           . rw[if_pos e,if_neg o_]
           . rw[if_neg e];by_cases b:p<=j/\j<i
             . have b1:j<n - 1:=o_;have b2:¬j<p:=o_;simp only[b,b1,b2,and_self,if_true,if_false]
             . by_cases c:j<n
               . have b1:j<n - 1:=o_;have b2:j<p:=o_;simp only[b,b1,b2,c,if_true,if_false]
               . have b1:¬j<n - 1:=o_;simp only[b,b1,c,if_false]
         . by_cases e:j=60
           . have e2:¬(60:Nat)=i:=o_;have e3:((n - 1:Nat):Int)=(n:Int)- 1:=o_;simp only[e,e2,e3,if_true,if_false];simp
           . have e2:¬j=i:=o_;simp only[a,e,e2,if_false]
       . have:=HTT.out.set ⟨bx,i,none⟩ (.string ByteArray.empty) (.inl rfl);exact⟨this.os,this.tape,this.output,this.size,this.block⟩
  . rw[show decide (p<n/\t p=s)=false by simp[hst]]at HSt;have e1:c5_ t n s p=false:=by simp[c5_,hst]
    rw[fk_,e7_,e1,e2];clear h e1 e2 hp hst;go_enter func85,ntmps85;go_wp2_with (first
     |(go_at_call 98;refine HT.mono ?_;rintro e w' ⟨rfl,hw'⟩;obtain rfl:w=w':=hw'.symm)
     |(go_at_call 126;refine HP.mono ?_;rintro e w' ⟨rfl,hw'⟩;obtain rfl:w=w':=hw'.symm)
     |(go_at_call 127;refine HSt.mono ?_;rintro e w' ⟨rfl,hw'⟩;obtain rfl:w=w':=hw'.symm))
    go_ret2;exact⟨rfl,HF.out,ab_.refl _ _⟩
theorem jq_:(prog.info? 9).map (fun i=>(i.zero,i.size,i.bytes))=some (some (.string ByteArray.empty),1,16):=k_
theorem BxAt.below {w w':World}{bx n:Nat}{t:Nat->ByteArray}{cx:Nat->Value}(h:BxAt w bx t n cx)(hb:Below w.heap.size w w'):BxAt w' bx t n cx:=World.rowIs.of_block h (hb.block bx (World.rowIs.lt h))
theorem ae1_ (w:World)(bx n:Nat)(t:Nat->ByteArray)(cx:Nat->Value)(s:ByteArray)(p:Nat)(h:BxAt w bx t n cx)(hn:n<=60)(hs:s.size<=maxLen)(hp:IsPl t n s p):
 Calls prog 42 #[.pointer (some ⟨bx,0,none⟩),.string s] w fun e w'=>e= .returned (.tuple #[.bool (dn_ t n s p),.int .i64 (dj_ t n s p)])/\BxAt w' bx (addT t n s p) (addN t n s p) cx/\ab_ (fun k=>k=bx) w w':=by
 have HC:=ae0_ w bx n t cx s p h hn hs hp;clear h;go_enter func42,ntmps42;go_wp2_with (go_at_call 83;refine HC.mono ?_;rintro e w1 ⟨rfl,hx,ht⟩;have HX:Hid (BxAt w1 bx (addT t n s p) (addN t n s p) cx):=hx;have HT:Hid (ab_ (fun k=>k=bx) w w1):=ht;clear hx ht);go_ret2;exact⟨rfl,HX.out,HT.out⟩
theorem ac8_ (w:World)(bx n:Nat)(t:Nat->ByteArray)(cx:Nat->Value)(s:ByteArray)(p:Nat)(h:BxAt w bx t n cx)(hn:n<=60)(hs:s.size<=maxLen)(hp:IsPl t n s p):
 Calls prog 44 #[.pointer (some ⟨bx,0,none⟩),.string s] w fun e w'=>e= .returned (.tuple #[.bool (c5_ t n s p),.int .i64 (dk_ s)])/\BxAt w' bx (fk_ t n s p) (e7_ t n s p) cx/\ab_ (fun k=>k=bx) w w':=by
 have HC:=ac7_ w bx n t cx s p h hn hs hp;clear h;go_enter func44,ntmps44;go_wp2_with (go_at_call 85;refine HC.mono ?_;rintro e w1 ⟨rfl,hx,ht⟩;have HX:Hid (BxAt w1 bx (fk_ t n s p) (e7_ t n s p) cx):=hx;have HT:Hid (ab_ (fun k=>k=bx) w w1):=ht;clear hx ht);go_ret2;exact⟨rfl,HX.out,HT.out⟩
theorem u5_:Tryz.zeroCells72.size=81:=k_
def cur0:Nat->Value:=fun j=>if j%5=0 then .bool false else if j%5=1 then .slice none 0 0 else if j%5=2 then .slice none 0 0 else if j%5=3 then .bool false else .string ByteArray.empty
theorem aad_ (t:Nat->ByteArray):∀i,i<81->Tryz.zeroCells72[i]? =some (fj_ t 0 cur0 i)
 |0,_=>rfl
 |1,_=>rfl
 |2,_=>rfl
 |3,_=>rfl
 |4,_=>rfl
 |5,_=>rfl
 |6,_=>rfl
 |7,_=>rfl
 |8,_=>rfl
 |9,_=>rfl
 |10,_=>rfl
 |11,_=>rfl
 |12,_=>rfl
 |13,_=>rfl
 |14,_=>rfl
 |15,_=>rfl
 |16,_=>rfl
 |17,_=>rfl
 |18,_=>rfl
 |19,_=>rfl
 |20,_=>rfl
 |21,_=>rfl
 |22,_=>rfl
 |23,_=>rfl
 |24,_=>rfl
 |25,_=>rfl
 |26,_=>rfl
 |27,_=>rfl
 |28,_=>rfl
 |29,_=>rfl
 |30,_=>rfl
 |31,_=>rfl
 |32,_=>rfl
 |33,_=>rfl
 |34,_=>rfl
 |35,_=>rfl
 |36,_=>rfl
 |37,_=>rfl
 |38,_=>rfl
 |39,_=>rfl
 |40,_=>rfl
 |41,_=>rfl
 |42,_=>rfl
 |43,_=>rfl
 |44,_=>rfl
 |45,_=>rfl
 |46,_=>rfl
 |47,_=>rfl
 |48,_=>rfl
 |49,_=>rfl
 |50,_=>rfl
 |51,_=>rfl
 |52,_=>rfl
 |53,_=>rfl
 |54,_=>rfl
 |55,_=>rfl
 |56,_=>rfl
 |57,_=>rfl
 |58,_=>rfl
 |59,_=>rfl
 |60,_=>rfl
 |61,_=>rfl
 |62,_=>rfl
 |63,_=>rfl
 |64,_=>rfl
 |65,_=>rfl
 |66,_=>rfl
 |67,_=>rfl
 |68,_=>rfl
 |69,_=>rfl
 |70,_=>rfl
 |71,_=>rfl
 |72,_=>rfl
 |73,_=>rfl
 |74,_=>rfl
 |75,_=>rfl
 |76,_=>rfl
 |77,_=>rfl
 |78,_=>rfl
 |79,_=>rfl
 |80,_=>rfl
 |i+81,h=>o_
theorem ae2_ (w:World)(t:Nat->ByteArray):
 Calls prog 19 #[] w fun e w'=>Below w.heap.size w w'/\∃bx,e= .returned (.pointer (some ⟨bx,0,none⟩))/\w.heap.size<=bx/\BxAt w' bx t 0 cur0:=by
 go_enter func19,ntmps19;go_wp2_with fail;go_ret;exact⟨br__.alloc lr__ _,_,rfl,lr__,_,ag_ rfl,u5_,aad_ t⟩
structure Cu where
 op:Bool
 vA:Value
 vN:Value
 bg:Bool
 la:ByteArray
def shut:Cu:=⟨false,.slice none 0 0,.slice none 0 0,false,ByteArray.empty⟩
def cuv (c:Nat->Cu):Nat->Value:=fun j=>if j%5=0 then .bool (c (j/5)).op else if j%5=1 then(c (j/5)).vA else if j%5=2 then(c (j/5)).vN else if j%5=3 then .bool (c (j/5)).bg else .string (c (j/5)).la
theorem ty_:cuv (fun _=>shut)=cur0:=by
 funext j;unfold cuv cur0 shut;rfl
def b3_ (c:Nat->Cu)(k:Nat)(d:Cu):Nat->Cu:=fun i=>if i=k then d else c i
def opB (c:Nat->Cu)(k:Int):Bool:=decide (0<=k/\k<4)&&(c k.toNat).op
theorem i3_ {c:Nat->Cu}{k:Int}(h:¬(0<=k/\k<4)):opB c k=false:=by simp[opB,h]
theorem ml_ (c:Nat->Cu){k:Nat}(h:k<4):opB c (k:Int)=(c k).op:=by
 have:(0:Int)<=k/\(k:Int)<4:=o_;simp[opB,this]
theorem BxAt.cu {w:World}{bx n:Nat}{t:Nat->ByteArray}{c:Nat->Cu}(h:BxAt w bx t n (cuv c)){k:Nat}(hk:k<4):
 w.cell? ⟨bx,61+5*k,none⟩=some (.bool (c k).op)/\w.cell? ⟨bx,61+5*k+1,none⟩=some (c k).vA/\w.cell? ⟨bx,61+5*k+2,none⟩=some (c k).vN/\w.cell? ⟨bx,61+5*k+3,none⟩=some (.bool (c k).bg)/\w.cell? ⟨bx,61+5*k+4,none⟩=some (.string (c k).la):=by
 have key:∀f,f<5->w.cell? ⟨bx,61+5*k+f,none⟩=some (cuv c (5*k+f)):=fun f hf=>by
  rw[World.rowIs.cell h (i:=61+5*k+f) o_,fj_,if_neg o_,if_neg o_];congr 2
  omega
 have d:∀f,f<5->(5*k+f)/5=k/\(5*k+f)%5=f:=fun f hf=>o_
 have r:∀f,f<5->cuv c (5*k+f)=if f=0 then .bool (c k).op else if f=1 then(c k).vA else if f=2 then(c k).vN else if f=3 then .bool (c k).bg else .string (c k).la:=fun f hf=>by
  unfold cuv;rw[(d f hf).1,(d f hf).2]
 exact⟨by rw[<-Nat.add_zero (61+5*k),key 0 o_,r 0 o_];rfl,by rw[key 1 o_,r 1 o_];rfl,by rw[key 2 o_,r 2 o_];rfl,by rw[key 3 o_,r 3 o_];rfl,by rw[key 4 o_,r 4 o_];rfl⟩
theorem BxAt.put {w:World}{bx n:Nat}{t:Nat->ByteArray}{c:Nat->Cu}(h:BxAt w bx t n (cuv c)){k:Nat}(hk:k<4)(d:Cu):
 BxAt (((((w.setCell ⟨bx,61+5*k,none⟩ (.bool d.op)).setCell ⟨bx,61+5*k+1,none⟩ d.vA).setCell ⟨bx,61+5*k+2,none⟩ d.vN).setCell ⟨bx,61+5*k+3,none⟩ (.bool d.bg)).setCell ⟨bx,61+5*k+4,none⟩ (.string d.la)) bx t n (cuv (b3_ c k d))/\
 ab_ (fun j=>j=bx) w (((((w.setCell ⟨bx,61+5*k,none⟩ (.bool d.op)).setCell ⟨bx,61+5*k+1,none⟩ d.vA).setCell ⟨bx,61+5*k+2,none⟩ d.vN).setCell ⟨bx,61+5*k+3,none⟩ (.bool d.bg)).setCell ⟨bx,61+5*k+4,none⟩ (.string d.la)):=by
 refine⟨(((((World.rowIs.set h (61+5*k) (.bool d.op)).set (61+5*k+1) d.vA).set (61+5*k+2) d.vN).set (61+5*k+3) (.bool d.bg)).set (61+5*k+4) (.string d.la)).congr (fun j hj=> ?_),(((((ab_.refl (fun j=>j=bx) w).set ⟨bx,61+5*k,none⟩ (.bool d.op) (.inl rfl)).set ⟨bx,61+5*k+1,none⟩ d.vA (.inl rfl)).set ⟨bx,61+5*k+2,none⟩ d.vN (.inl rfl)).set ⟨bx,61+5*k+3,none⟩ (.bool d.bg) (.inl rfl)).set ⟨bx,61+5*k+4,none⟩ (.string d.la) (.inl rfl)⟩;unfold fj_ cuv b3_;by_cases a:j<60
 . simp only[a,if_true,show¬j=61+5*k+4 by omega,show¬j=61+5*k+3 by omega,show¬j=61+5*k+2 by omega,show¬j=61+5*k+1 by omega,show¬j=61+5*k by omega,if_false]
 . by_cases b:j=60
   . simp only[b,show¬(60:Nat)=61+5*k+4 by omega,show¬(60:Nat)=61+5*k+3 by omega,show¬(60:Nat)=61+5*k+2 by omega,show¬(60:Nat)=61+5*k+1 by omega,show¬(60:Nat)=61+5*k by omega,if_false];simp
   . by_cases q:(j - 61)/5=k
     . simp only[a,b,q,if_false,if_true];rcases (show(j - 61)%5=0\/(j - 61)%5=1\/(j - 61)%5=2\/(j - 61)%5=3\/(j - 61)%5=4 by omega)with f|f|f|f|f
       . have e:j=61+5*k:=o_;simp only[f,if_pos e,show¬j=61+5*k+4 by omega,show¬j=61+5*k+3 by omega,show¬j=61+5*k+2 by omega,show¬j=61+5*k+1 by omega,if_false,if_true]
       . have e:j=61+5*k+1:=o_;simp only[f,if_pos e,show¬j=61+5*k+4 by omega,show¬j=61+5*k+3 by omega,show¬j=61+5*k+2 by omega,if_false,if_true,show¬(1:Nat)=0 by omega]
       . have e:j=61+5*k+2:=o_;simp only[f,if_pos e,show¬j=61+5*k+4 by omega,show¬j=61+5*k+3 by omega,if_false,if_true,show¬(2:Nat)=0 by omega,show¬(2:Nat)=1 by omega]
       . have e:j=61+5*k+3:=o_;simp only[f,if_pos e,show¬j=61+5*k+4 by omega,if_false,if_true,show¬(3:Nat)=0 by omega,show¬(3:Nat)=1 by omega,show¬(3:Nat)=2 by omega]
       . have e:j=61+5*k+4:=o_;simp only[f,if_pos e,if_false,show¬(4:Nat)=0 by omega,show¬(4:Nat)=1 by omega,show¬(4:Nat)=2 by omega,show¬(4:Nat)=3 by omega]
     . simp only[a,b,q,if_false,show¬j=61+5*k+4 by omega,show¬j=61+5*k+3 by omega,show¬j=61+5*k+2 by omega,show¬j=61+5*k+1 by omega,show¬j=61+5*k by omega]
theorem mm_ (w:World)(bx n:Nat)(t:Nat->ByteArray)(c:Nat->Cu)(k:Int)(h:BxAt w bx t n (cuv c)):
 Calls prog 130 #[.pointer (some ⟨bx,0,none⟩),.int .i64 k] w fun e w'=>e= .returned (.bool (opB c k))/\w'=w:=by
 by_cases h0:0<=k
 . by_cases h4:k<4
   . obtain⟨m,rfl⟩:∃m:Nat,k=m:=⟨k.toNat,o_⟩;have hm:m<4:=o_;rw[ml_ c hm];obtain⟨c0,_⟩:=h.cu hm;generalize (c m).op=bb at*;clear h;rcases (show m=0\/m=1\/m=2\/m=3 by omega)with rfl|rfl|rfl|rfl
     all_goals
      go_enter func130,ntmps130;go_wp2_with fail;go_ret;exact⟨rfl,rfl⟩
   . rw[i3_ o_];have q1:decide (k<4)=false:=s_;clear h;go_enter func130,ntmps130;go_wp2_with fail;go_ret;exact⟨rfl,rfl⟩
 . rw[i3_ o_];have q1:decide (0<=k)=false:=s_;clear h;go_enter func130,ntmps130;go_wp2_with fail;go_ret;exact⟨rfl,rfl⟩
def fl_ (c:Nat->Cu)(k:Int):Int:=if opB c k then 0 else 10
def ef_ (c:Nat->Cu)(k:Int):Nat->Cu:=if opB c k then b3_ c k.toNat shut else c
theorem aae_ (w:World)(bx n:Nat)(t:Nat->ByteArray)(c:Nat->Cu)(k:Int)(h:BxAt w bx t n (cuv c)):
 Calls prog 94 #[.pointer (some ⟨bx,0,none⟩),.int .i64 k] w fun e w'=>e= .returned (.int .i64 (fl_ c k))/\BxAt w' bx t n (cuv (ef_ c k))/\ab_ (fun j=>j=bx) w w':=by
 have HO:=mm_ w bx n t c k h;have HF:=hi__ h;unfold fl_ ef_;cases hop:opB c k with
 |false=>
  rw[hop]at HO;clear h;go_enter func94,ntmps94;go_wp2_with (go_at_call 130;refine HO.mono ?_;rintro e w1 ⟨rfl,hw1⟩;obtain rfl:w=w1:=hw1.symm);go_ret;exact⟨rfl,HF.out,ab_.refl _ _⟩
 |true=>
  rw[hop]at HO;have hk:0<=k/\k<4:=by
   by_cases hh:0<=k/\k<4
   . exact hh
   . rw[i3_ hh]at hop;cases hop
  obtain⟨m,rfl⟩:∃m:Nat,k=m:=⟨k.toNat,o_⟩;have hm:m<4:=o_;obtain⟨c0,c1,c2,c3,c4⟩:=h.cu hm;have hfz:=World.rowIs.frozen h;clear h hop hk;rcases (show m=0\/m=1\/m=2\/m=3 by omega)with rfl|rfl|rfl|rfl
  . have f0:=hfz 61;go_enter func94,ntmps94;go_wp2_with (go_at_call 130;refine HO.mono ?_;rintro e w1 ⟨rfl,hw1⟩;obtain rfl:w=w1:=hw1.symm);go_ret;have hp:=HF.out.put (k:=0) o_ shut;exact⟨rfl,hp.1,hp.2⟩
  . have f0:=hfz 66;go_enter func94,ntmps94;go_wp2_with (go_at_call 130;refine HO.mono ?_;rintro e w1 ⟨rfl,hw1⟩;obtain rfl:w=w1:=hw1.symm);go_ret;have hp:=HF.out.put (k:=1) o_ shut;exact⟨rfl,hp.1,hp.2⟩
  . have f0:=hfz 71;go_enter func94,ntmps94;go_wp2_with (go_at_call 130;refine HO.mono ?_;rintro e w1 ⟨rfl,hw1⟩;obtain rfl:w=w1:=hw1.symm);go_ret;have hp:=HF.out.put (k:=2) o_ shut;exact⟨rfl,hp.1,hp.2⟩
  . have f0:=hfz 76;go_enter func94,ntmps94;go_wp2_with (go_at_call 130;refine HO.mono ?_;rintro e w1 ⟨rfl,hw1⟩;obtain rfl:w=w1:=hw1.symm);go_ret;have hp:=HF.out.put (k:=3) o_ shut;exact⟨rfl,hp.1,hp.2⟩
def dx_ (d:Cu)(M:Tab)(s:ByteArray):Bool:= !(d.bg&& !(less d.la s))&&M.accepts (bu_ s)
theorem pa_ {a b:ByteArray}:(Op.bytesLess a.toList b.toList||a.toList==b.toList)= !(less b a):=by
 rw[fr_];show(less a b||decide (a=b))= !(less b a)
 by_cases e:a=b
 . subst e;simp[m5_]
 . cases h:less a b with
   |true=>simp[ol_ h]
   |false=>simp[e,sd_ h e]
theorem ac9_ (w:World)(d:Cu)(V:Lay)(M:Tab)(s:ByteArray)(hA:d.vA= .slice (some ⟨V.ba,V.oa,none⟩) M.n V.ca)(hN:d.vN= .slice (some ⟨V.bn,V.on,none⟩) M.n V.cn)(hM:M.Ok)(h:av_ w V M)(hs:de_ s=true):
 Calls prog 160 #[.agg #[.bool d.op,d.vA,d.vN,.bool d.bg,.string d.la],.string s] w fun e w'=>e= .returned (.bool (dx_ d M s))/\Below w.heap.size w w':=by
 have hst:ed_ s/\s.size<=12:=by simp[de_]at hs;exact⟨(ek_ s).1 hs.2,hs.1⟩
 rw[hA,hN];obtain⟨W,hW,BW,hWs,-⟩:=nw__ w #[.bool d.op,.slice (some ⟨V.ba,V.oa,none⟩) M.n V.ca,.slice (some ⟨V.bn,V.on,none⟩) M.n V.cn,.bool d.bg,.string d.la] 67;have HR:=fun(q:Nat)=>adz_ V M s W hM (h.below BW) hst.1 o_
 have b0:=hn__ hW;have cc:W.cell? ⟨w.heap.size,0,none⟩=some (.bool d.op)/\W.cell? ⟨w.heap.size,1,none⟩=some (.slice (some ⟨V.ba,V.oa,none⟩) M.n V.ca)/\W.cell? ⟨w.heap.size,2,none⟩=some (.slice (some ⟨V.bn,V.on,none⟩) M.n V.cn)/\W.cell? ⟨w.heap.size,3,none⟩=some (.bool d.bg)/\W.cell? ⟨w.heap.size,4,none⟩=some (.string d.la):=by simp[World.cell?,b0]
 obtain⟨c0,c1,c2,c3,c4⟩:=cc;have HR0:=HR 0;clear b0 h hA hN hs HR;cases hbg:d.bg with
 |false=>
  rw[hbg]at c3;have e1:dx_ d M s=M.accepts (bu_ s):=by simp[dx_,hbg]
  rw[e1];generalize M.accepts (bu_ s)=ab at*;rw[hbg]at hW;clear e1 hbg;cases ab
  all_goals
   go_enter func160,ntmps160;go_upto_region 1 with fail;rw[<-hW];clear hW;go_wp2_with (go_at_call 74;refine HR0.mono ?_;rintro e w1 ⟨rfl,hb1⟩;have HB1:Hid (Below W.heap.size W w1):=hb1;clear hb1);go_ret;exact⟨rfl,BW.trans (HB1.out.mono o_)⟩
 |true=>
  rw[hbg]at c3;cases hle:less d.la s with
  |false=>
   have q1:(Op.bytesLess s.toList d.la.toList||s.toList==d.la.toList)=true:=by rw[pa_,hle];rfl
   have e1:dx_ d M s=false:=by simp[dx_,hbg,hle]
   rw[e1];rw[hbg]at hW;clear e1 hbg hle;go_enter func160,ntmps160;go_upto_region 1 with fail;rw[<-hW];clear hW;go_wp2_with fail;go_ret;exact⟨rfl,BW⟩
  |true=>
   have q1:(Op.bytesLess s.toList d.la.toList||s.toList==d.la.toList)=false:=by rw[pa_,hle];rfl
   have e1:dx_ d M s=M.accepts (bu_ s):=by simp[dx_,hbg,hle]
   rw[e1];generalize M.accepts (bu_ s)=ab at*;rw[hbg]at hW;clear e1 hbg hle;cases ab
   all_goals
    go_enter func160,ntmps160;go_upto_region 1 with fail;rw[<-hW];clear hW;go_wp2_with (go_at_call 74;refine HR0.mono ?_;rintro e w1 ⟨rfl,hb1⟩;have HB1:Hid (Below W.heap.size W w1):=hb1;clear hb1);go_ret;exact⟨rfl,BW.trans (HB1.out.mono o_)⟩
end Go.Proofs.YtpngikmcjkjdaaaGreatDoor
