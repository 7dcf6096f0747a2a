import Derived.Deep.Upon
import Derived.Test.YtpngikmcjkjdaaaGreatDoorC6
set_option linter.unusedVariables false
set_option linter.unusedSimpArgs false
set_option maxRecDepth 20000
set_option maxHeartbeats 80000000
namespace Go.Proofs.YtpngikmcjkjdaaaGreatDoor
open Go.RowKit Tryz List Nat
variable {x:List Value} {base bx i k limit m n:Nat} {t:Nat->ByteArray} {S:Nat->Prop} {cx:Nat->Value} {v:Value} {w w1:World}
def go_ (t:Nat->ByteArray)(n:Nat)(cx:Nat->Value):Nat->Value:=fun i=>if i<60 then .string (if i<n then t i else ByteArray.empty)else if i=60 then .int .i64 (n:Int)else cx (i - 61)
def Θ (w:World)(bx:Nat)(t:Nat->ByteArray)(n:Nat)(cx:Nat->Value):Prop:=w.rowIs bx 72 81 (go_ t n cx)
section
variable {w:World} {bx n:Nat} {t:Nat->ByteArray} {cx:Nat->Value}
theorem Θ.eI (h:Θ w bx t n cx):w.cell? ⟨bx,60,none⟩=some (.int .i64 (n:Int)):=by
 have:=World.rowIs.cell h (i:=60) o_;simpa [go_] using this
theorem Θ.all (h:Θ w bx t n cx)(hi:i<60):w.cell? ⟨bx,i,none⟩=some (.string (if i<n then t i else ByteArray.empty)):=by
 have:=World.rowIs.cell h (i:=i) o_;rw[this];simp[go_,hi]
theorem Θ.dI (h:Θ w bx t n cx)(hn:n<=60)(hi:i<n):w.cell? ⟨bx,i,none⟩=some (.string (t i)):=by
 rw[h.all o_,if_pos hi]
end
theorem tq_ (w:World)(bx n:Nat)(t:Nat->ByteArray)(cx:Nat->Value)(s:ByteArray)(p:Nat)(h:Θ w bx t n cx)(hn:n<=60)(hpl:d3_ t n s p):
 Calls prog 126 #[.pointer (some ⟨bx,0,none⟩),.string s] w fun e w'=>e= .returned (.int .i64 (p:Int))/\w'=w:=by
 have f:=h.eI;have k:=hpl.le;go_enter func126,ntmps126;go_wp2_with fail;go_loop [5] (fun v=>∃i:Nat,i<=p/\v= .int .i64 (i:Int)) (fun v=>n - (intOf v).toNat)
 case atStart=>exact⟨0,o_,rfl⟩
 case round=>
  obtain⟨i,j,rfl⟩:=hrel;by_cases a:i<n
  . have g:=h.dI hn a;have d:(i:Int)<(n:Int):=o_;by_cases b:i<p
    . have c:Op.bytesLess (t i).toList s.toList=true:=hpl.lo i b;clear h hpl;go_wp2_with fail;go_round
      case rel=>exact⟨i+1,o_,by go_num⟩
      case measure=>exact c_
    . have e:i=p:=o_;subst e;have c:Op.bytesLess (t i).toList s.toList=false:=hpl.at' a;clear h hpl;go_wp2_with fail;go_ret;exact⟨rfl,rfl⟩
  . have e:i=p:=o_;subst e;have d:¬(i:Int)<(n:Int):=o_;clear h hpl;go_wp2_with fail;go_ret;exact⟨rfl,rfl⟩
theorem tr_ (w:World)(bx n:Nat)(t:Nat->ByteArray)(cx:Nat->Value)(s:ByteArray)(p:Nat)(h:Θ w bx t n cx)(hn:n<=60):
 Calls prog 127 #[.pointer (some ⟨bx,0,none⟩),.int .i64 (p:Int),.string s] w fun e w'=>e= .returned (.bool (decide (p<n/\t p=s)))/\w'=w:=by
 have f:=h.eI;by_cases b:p<n
 . have g:=h.dI hn b;have d:(p:Int)<(n:Int):=o_;by_cases a:t p=s
   . have c:((t p).toList==s.toList)=true:=by rw[g3_];simp[a]
     have e:decide (p<n/\t p=s)=true:=by simp[b,a]
     rw[e];clear a h e;go_enter func127,ntmps127;go_wp2_with fail;go_ret;exact⟨rfl,rfl⟩
   . have c:((t p).toList==s.toList)=false:=by rw[g3_];simp[a]
     have e:decide (p<n/\t p=s)=false:=by simp[a]
     rw[e];clear a h e;go_enter func127,ntmps127;go_wp2_with fail;go_ret;exact⟨rfl,rfl⟩
 . have d:¬(p:Int)<(n:Int):=o_;have e:decide (p<n/\t p=s)=false:=by simp[b]
   rw[e];clear h e;go_enter func127,ntmps127;go_wp2_with fail;go_ret;exact⟨rfl,rfl⟩
theorem ts_ (t:Nat->ByteArray)(s:ByteArray)(n:Nat):∃p,d3_ t n s p:=by
 induction n with
 |zero=>exact⟨0,ι,fun j hj=>o_,fun h=>o_⟩
 |succ n ih=>
  obtain⟨p,h⟩:=ih;by_cases e:p<n
  . exact⟨p,o_,h.lo,fun _=>h.at' e⟩
  . have b:p=n:=by have:=h.le;omega
    subst b;cases hb:less (t p) s with
    |false=>exact⟨p,o_,h.lo,fun _=>hb⟩
    |true=>exact⟨p+1,o_,fun j hj=>by
     by_cases a:j=p
     . rw[a];exact hb
     . exact h.lo j o_,fun h'=>o_⟩
def ci_ (s:ByteArray):Bool:=decide (s.size<=12)&&as_ s s.size
def dw_ (t:Nat->ByteArray)(n:Nat)(s:ByteArray)(p:Nat):Bool:=ci_ s&& !(decide (p<n/\t p=s))&&decide (n<60)
def e6_ (t:Nat->ByteArray)(n:Nat)(s:ByteArray)(p:Nat):Int:=if ci_ s then(if p<n/\t p=s then 0 else if n<60 then 0 else 9)else 7
def f5_ (t:Nat->ByteArray)(n:Nat)(s:ByteArray)(p:Nat):Nat->ByteArray:=if dw_ t n s p then ins t p s else t
def fx_ (t:Nat->ByteArray)(n:Nat)(s:ByteArray)(p:Nat):Nat:=if dw_ t n s p then n+1 else n
def cu_ (t:Nat->ByteArray)(n:Nat)(s:ByteArray)(p:Nat):Bool:=ci_ s&&decide (p<n/\t p=s)
def dx_ (s:ByteArray):Int:=if ci_ s then 0 else 7
def hr_ (t:Nat->ByteArray)(n:Nat)(s:ByteArray)(p:Nat):Nat->ByteArray:=if cu_ t n s p then del t p else t
def hd_ (t:Nat->ByteArray)(n:Nat)(s:ByteArray)(p:Nat):Nat:=if cu_ t n s p then n - 1 else n
def jv_ (t:Nat->ByteArray)(n:Nat)(cx:Nat->Value)(i:Nat):Nat->Value:=fun j=>if j<60 then .string (if i<j/\j<=n then t (j - 1)else if j<n then t j else ByteArray.empty)else go_ t n cx j
theorem ann_ (w:World)(bx n:Nat)(t:Nat->ByteArray)(cx:Nat->Value)(s:ByteArray)(p:Nat)(h:Θ w bx t n cx)(hn:n<=60)(hs:s.size<=maxLen)(hp:d3_ t n s p):
 Calls prog 83 #[.pointer (some ⟨bx,0,none⟩),.string s] w fun e w'=>e= .returned (.tuple #[.bool (dw_ t n s p),.int .i64 (e6_ t n s p)])/\Θ w' bx (f5_ t n s p) (fx_ t n s p) cx/\ε (fun k=>k=bx) w w':=by
 have o:=nn_ s w hs;have L:=hp.le;cases htu:ci_ s with
 |false=>
  rw[show(decide (s.size<=12)&&as_ s s.size)=false from htu]at o;have g:dw_ t n s p=false:=by simp[dw_,htu]
  have f:e6_ t n s p=7:=by simp[e6_,htu]
  rw[f5_,fx_,g,f];have q:=α h;clear h g f;go_enter func83,ntmps83;go_wp2_with (go_at_call 98;refine o.mono ?_;rintro e w' ⟨rfl,d⟩;obtain rfl:w=w':=d.symm);go_ret2;exact⟨rfl,q.out,ε.refl _ _⟩
 |true=>
  rw[show(decide (s.size<=12)&&as_ s s.size)=true from htu]at o;have u:=tq_ w bx n t cx s p h hn hp;have r:=tr_ w bx n t cx s p h hn;have q:=α h;have O:=α hp;have I:=h.eI;by_cases m:p<n/\t p=s
  . rw[show decide (p<n/\t p=s)=true by simp[m]]at r;have g:dw_ t n s p=false:=by simp[dw_,m]
    have f:e6_ t n s p=0:=by simp[e6_,htu,m]
    rw[f5_,fx_,g,f];clear h g f hp m;go_enter func83,ntmps83;go_wp2_with (first
     |(go_at_call 98;refine o.mono ?_;rintro e w' ⟨rfl,d⟩;obtain rfl:w=w':=d.symm)
     |(go_at_call 126;refine u.mono ?_;rintro e w' ⟨rfl,d⟩;obtain rfl:w=w':=d.symm)
     |(go_at_call 127;refine r.mono ?_;rintro e w' ⟨rfl,d⟩;obtain rfl:w=w':=d.symm))
    go_ret2;exact⟨rfl,q.out,ε.refl _ _⟩
  . rw[show decide (p<n/\t p=s)=false by simp[m]]at r;by_cases B:n<60
    . have g:dw_ t n s p=true:=by simp only[dw_,htu,m,B,decide_false,decide_true,Bool.not_false,Bool.and_self]
      have f:e6_ t n s p=0:=by simp only[e6_,htu,m,B,if_true,if_false]
      rw[f5_,fx_,g,f];have M:¬(60:Int)<=(n:Int):=o_;clear h g f hp m;go_enter func83,ntmps83;go_wp2_with (first
       |(go_at_call 98;refine o.mono ?_;rintro e w' ⟨rfl,d⟩;obtain rfl:w=w':=d.symm)
       |(go_at_call 126;refine u.mono ?_;rintro e w' ⟨rfl,d⟩;obtain rfl:w=w':=d.symm)
       |(go_at_call 127;refine r.mono ?_;rintro e w' ⟨rfl,d⟩;obtain rfl:w=w':=d.symm))
      go_loopw [7] (fun v wr=>∃i:Nat,p<=i/\i<=n/\v= .int .i64 (i:Int)/\wr.rowIs bx 72 81 (jv_ t n cx i)/\ε (fun k=>k=bx) w wr) (fun v _=>(intOf v).toNat)
      case atStart=>exact⟨n,L,ι,rfl,q.out.congr (fun j hj=>by
       unfold jv_;by_cases a:j<60
       . rw[if_pos a,if_neg o_,go_,if_pos a]
       . rw[if_neg a]),ε.refl _ _⟩
      case round=>
       obtain⟨i,S,T,rfl,l,D⟩:=hrel;have Q:wr.cell? ⟨bx,60,none⟩=some (.int .i64 (n:Int)):=by
        have:=l.cell (i:=60) o_;rw[this];simp[jv_,go_]
       have C:=l.frozen;by_cases U:p<i
       . obtain⟨k,rfl⟩:∃k,i=k+1:=⟨i - 1,o_⟩;have K:(p:Int)<(k:Int)+1:=o_;have P:wr.cell? ⟨bx,k,none⟩=some (.string (t k)):=by
          rw[l.cell (i:=k) o_,jv_,if_pos o_,if_neg o_,if_pos o_]
         have A:∃x,wr.cell? ⟨bx,k+1,none⟩=some (.string x):=by
          rw[l.cell (i:=k+1) o_,jv_,if_pos o_];exact⟨_,rfl⟩
         obtain⟨x,A⟩:=A;have J:=C (k+1);have E:=α l;have F:=α D;clear l D C q I u r o;rw[show((k+1:Nat):Int)=(k:Int)+1 by simp];have N:IntKind.i64.wrap (k:Int)=(k:Int):=by rw[IntKind.wrap_i64];omega
         have V:IntKind.i64.wrap ((k:Int)+1 - 1)=(k:Int):=by rw[Int.add_sub_cancel];exact N
         go_wp2_with fail;go_region
         go_wp2_with fail;go_roundw
         case rel=>
          refine⟨k,o_,o_,by go_num, ?_, ?_⟩
          . refine(E.out.set (k+1) (.string (t k))).congr (fun j hj=> ?_);unfold jv_;by_cases a:j<60
            . rw[if_pos a,if_pos a];by_cases e:j=k+1
              . subst e;rw[if_pos rfl,if_pos o_];simp
              . rw[if_neg e];by_cases b:k+1<j/\j<=n
                . have G:k<j/\j<=n:=o_;simp only[b,G,and_self,if_true]
                . have G:¬(k<j/\j<=n):=o_;simp only[b,G,if_false]
            . rw[if_neg a,if_neg a,if_neg o_]
          . have:=F.out.set ⟨bx,k+1,none⟩ (.string (t k)) (.inl rfl);exact⟨this.os,this.tape,this.output,this.size,this.block⟩
         case measure=>simp[intOf]
       . have e:p=i:=o_;subst e;have K:¬(p:Int)<(p:Int):=o_;have A:∃x,wr.cell? ⟨bx,p,none⟩=some (.string x):=by
          rw[l.cell (i:=p) o_,jv_,if_pos o_];exact⟨_,rfl⟩
         obtain⟨x,A⟩:=A;have J:=C p;have E:=α l;have F:=α D;have R:(wr.setCell ⟨bx,p,none⟩ (.string s)).cell? ⟨bx,60,none⟩=some (.int .i64 (n:Int)):=by
          rw[(l.set p (.string s)).cell (i:=60) o_,if_neg o_];simp[jv_,go_]
         have f62:(wr.setCell ⟨bx,p,none⟩ (.string s)).frozen? ⟨bx,60,none⟩=false:=(l.set p (.string s)).frozen 60;have W:IntKind.i64.wrap ((n:Int)+1)=(n:Int)+1:=by rw[IntKind.wrap_i64];omega
         clear l D C q I u r o;go_wp2_with fail;go_ret2;refine⟨rfl, ?_, ?_⟩
         . refine((E.out.set p (.string s)).set 60 (.int .i64 ((n:Int)+1))).congr (fun j hj=> ?_);unfold jv_ go_ ins;by_cases a:j<60
           . rw[if_neg (show¬j=60 by omega),if_pos a];by_cases e:j=p
             . subst e;simp[a];omega
             . rw[if_neg e,if_pos a];by_cases b:j<p
               . have y:¬(p<j/\j<=n):=o_;have z:j<n+1:=o_;have H:j<n:=o_;simp only[b,y,z,H,if_true,if_false]
               . by_cases c:j<=n
                 . have y:p<j/\j<=n:=o_;have z:j<n+1:=o_;simp only[b,y,z,e,and_self,if_true,if_false]
                 . have y:¬(p<j/\j<=n):=o_;have z:¬j<n+1:=o_;have H:¬j<n:=o_;simp only[y,z,H,if_false]
           . by_cases e:j=60
             . subst e;simp
             . have f:¬j=p:=o_;simp only[e,f,a,if_false]
         . exact(F.out.set ⟨bx,p,none⟩ (.string s) (.inl rfl)).set ⟨bx,60,none⟩ _ (.inl rfl)
    . have e:n=60:=o_;have g:dw_ t n s p=false:=by simp[dw_,B]
      have f:e6_ t n s p=9:=by simp only[e6_,htu,m,B,if_true,if_false]
      rw[f5_,fx_,g,f];have M:(60:Int)<=(n:Int):=o_;clear h g f hp m e;go_enter func83,ntmps83;go_wp2_with (first
       |(go_at_call 98;refine o.mono ?_;rintro e w' ⟨rfl,d⟩;obtain rfl:w=w':=d.symm)
       |(go_at_call 126;refine u.mono ?_;rintro e w' ⟨rfl,d⟩;obtain rfl:w=w':=d.symm)
       |(go_at_call 127;refine r.mono ?_;rintro e w' ⟨rfl,d⟩;obtain rfl:w=w':=d.symm))
      go_ret2;exact⟨rfl,q.out,ε.refl _ _⟩
def kk_ (t:Nat->ByteArray)(n:Nat)(cx:Nat->Value)(p i:Nat):Nat->Value:=fun j=>if j<60 then .string (if p<=j/\j<i then t (j+1)else if j<n then t j else ByteArray.empty)else if j=60 then .int .i64 ((n:Int)- 1)else go_ t n cx j
theorem ano_ (w:World)(bx n:Nat)(t:Nat->ByteArray)(cx:Nat->Value)(s:ByteArray)(p:Nat)(h:Θ w bx t n cx)(hn:n<=60)(hs:s.size<=maxLen)(hp:d3_ t n s p):
 Calls prog 85 #[.pointer (some ⟨bx,0,none⟩),.string s] w fun e w'=>e= .returned (.tuple #[.bool (cu_ t n s p),.int .i64 (dx_ s)])/\Θ w' bx (hr_ t n s p) (hd_ t n s p) cx/\ε (fun k=>k=bx) w w':=by
 have o:=nn_ s w hs;cases htu:ci_ s with
 |false=>
  rw[show(decide (s.size<=12)&&as_ s s.size)=false from htu]at o;have l:cu_ t n s p=false:=by simp[cu_,htu]
  have f:dx_ s=7:=by simp[dx_,htu]
  rw[hr_,hd_,l,f];have u:=α h;clear h l f;go_enter func85,ntmps85;go_wp2_with (go_at_call 98;refine o.mono ?_;rintro e w' ⟨rfl,d⟩;obtain rfl:w=w':=d.symm);go_ret2;exact⟨rfl,u.out,ε.refl _ _⟩
 |true=>
  rw[show(decide (s.size<=12)&&as_ s s.size)=true from htu]at o;have C:=tq_ w bx n t cx s p h hn hp;have y:=tr_ w bx n t cx s p h hn;have u:=α h;have J:=h.eI;have f1:=World.rowIs.frozen h 60;have f:dx_ s=0:=by simp[dx_,htu]
  by_cases r:p<n/\t p=s
  . rw[show decide (p<n/\t p=s)=true by simp[r]]at y;have l:cu_ t n s p=true:=by simp[cu_,htu,r]
    rw[hr_,hd_,l,f];have X:=r.1;have S:IntKind.i64.wrap ((n:Int)- 1)=(n:Int)- 1:=by rw[IntKind.wrap_i64];omega
    clear h l f hp r;go_enter func85,ntmps85;go_wp2_with (first
     |(go_at_call 98;refine o.mono ?_;rintro e w' ⟨rfl,d⟩;obtain rfl:w=w':=d.symm)
     |(go_at_call 126;refine C.mono ?_;rintro e w' ⟨rfl,d⟩;obtain rfl:w=w':=d.symm)
     |(go_at_call 127;refine y.mono ?_;rintro e w' ⟨rfl,d⟩;obtain rfl:w=w':=d.symm))
    go_loopw [7] (fun v wr=>∃i:Nat,p<=i/\i<=n - 1/\v= .int .i64 (i:Int)/\wr.rowIs bx 72 81 (kk_ t n cx p i)/\ε (fun k=>k=bx) w wr) (fun v _=>n - (intOf v).toNat)
    case atStart=>exact⟨p,ι,o_,rfl,(u.out.set 60 (.int .i64 ((n:Int)- 1))).congr (fun j hj=>by
     unfold kk_;by_cases a:j<60
     . have q:¬(p<=j/\j<p):=o_;have A:¬j=60:=o_;simp only[a,q,A,go_,if_true,if_false]
     . by_cases b:j=60
       . simp only[a,b,if_true,if_false];simp
       . simp only[a,b,if_false]),(ε.refl _ _).set _ _ (.inl rfl)⟩
    case round=>
     obtain⟨i,U,P,rfl,g,E⟩:=hrel;have K:wr.cell? ⟨bx,60,none⟩=some (.int .i64 ((n:Int)- 1)):=by
      rw[g.cell (i:=60) o_];simp[kk_]
     have D:=g.frozen;by_cases R:i<n - 1
     . have I:(i:Int)<(n:Int)- 1:=o_;have T:wr.cell? ⟨bx,i+1,none⟩=some (.string (t (i+1))):=by
        rw[g.cell (i:=i+1) o_,kk_,if_pos o_,if_neg o_,if_pos o_]
       have z:∃x,wr.cell? ⟨bx,i,none⟩=some (.string x):=by
        rw[g.cell (i:=i) o_,kk_,if_pos o_];exact⟨_,rfl⟩
       obtain⟨x,z⟩:=z;have M:=D i;have F:=α g;have G:=α E;have Y:IntKind.i64.wrap ((i:Int)+1)=(i:Int)+1:=by rw[IntKind.wrap_i64];omega
       clear g E D u J C y o;go_wp2_with fail;go_region
       go_wp2_with fail;go_roundw
       case rel=>
        refine⟨i+1,o_,o_,by go_num, ?_, ?_⟩
        . refine(F.out.set i (.string (t (i+1)))).congr (fun j hj=> ?_);unfold kk_;by_cases a:j<60
          . rw[if_pos a,if_pos a];by_cases e:j=i
            . subst e;rw[if_pos rfl,if_pos o_]
            . rw[if_neg e];by_cases b:p<=j/\j<i
              . have H:p<=j/\j<i+1:=o_;simp only[b,H,and_self,if_true]
              . have H:¬(p<=j/\j<i+1):=o_;simp only[b,H,if_false]
          . rw[if_neg a,if_neg a,if_neg o_]
        . have:=G.out.set ⟨bx,i,none⟩ (.string (t (i+1))) (.inl rfl);exact⟨this.os,this.tape,this.output,this.size,this.block⟩
       case measure=>exact c_
     . have e:i=n - 1:=o_;have I:¬(i:Int)<(n:Int)- 1:=o_;have L:(n:Int)- 1=((n - 1:Nat):Int):=o_;have z:∃x,wr.cell? ⟨bx,n - 1,none⟩=some (.string x):=by
        rw[g.cell (i:=n - 1) o_,kk_,if_pos o_];exact⟨_,rfl⟩
       obtain⟨x,z⟩:=z;have M:=D (n - 1);rw[L]at K I;have F:=α g;have G:=α E;clear g E D u J C y o;obtain⟨m,B⟩:∃m,Hid (m=n - 1):=⟨n - 1,by unfold Hid;rfl⟩;rw[<-B.out]at z M K I;have N:Hid (i=m):=by unfold Hid;rw[B.out];exact e
       have W:(m:Int)<60:=by have:=B.out;omega
       clear e L P R S;go_wp2_with fail;go_region
       go_wp2_with fail;go_ret2;have Q:=N.out;have V:=B.out;subst Q;refine⟨rfl, ?_, ?_⟩
       . refine(F.out.set i (.string ByteArray.empty)).congr (fun j hj=> ?_);unfold kk_ go_ del;by_cases a:j<60
         . rw[if_pos a,if_pos a];by_cases e:j=i
           . rw[if_pos e,if_neg o_]
           . rw[if_neg e];by_cases b:p<=j/\j<i
             . have q:j<n - 1:=o_;have A:¬j<p:=o_;simp only[b,q,A,and_self,if_true,if_false]
             . by_cases c:j<n
               . have q:j<n - 1:=o_;have A:j<p:=o_;simp only[b,q,A,c,if_true,if_false]
               . have q:¬j<n - 1:=o_;simp only[b,q,c,if_false]
         . by_cases e:j=60
           . have f:¬(60:Nat)=i:=o_;have O:((n - 1:Nat):Int)=(n:Int)- 1:=o_;simp only[e,f,O,if_true,if_false];simp
           . have f:¬j=i:=o_;simp only[a,e,f,if_false]
       . have:=G.out.set ⟨bx,i,none⟩ (.string ByteArray.empty) (.inl rfl);exact⟨this.os,this.tape,this.output,this.size,this.block⟩
  . rw[show decide (p<n/\t p=s)=false by simp[r]]at y;have l:cu_ t n s p=false:=by simp[cu_,r]
    rw[hr_,hd_,l,f];clear h l f hp r;go_enter func85,ntmps85;go_wp2_with (first
     |(go_at_call 98;refine o.mono ?_;rintro e w' ⟨rfl,d⟩;obtain rfl:w=w':=d.symm)
     |(go_at_call 126;refine C.mono ?_;rintro e w' ⟨rfl,d⟩;obtain rfl:w=w':=d.symm)
     |(go_at_call 127;refine y.mono ?_;rintro e w' ⟨rfl,d⟩;obtain rfl:w=w':=d.symm))
    go_ret2;exact⟨rfl,u.out,ε.refl _ _⟩
theorem anp_ (w:World)(bx n:Nat)(t:Nat->ByteArray)(cx:Nat->Value)(s:ByteArray)(p:Nat)(h:Θ w bx t n cx)(hn:n<=60)(hs:s.size<=maxLen)(hp:d3_ t n s p):
 Calls prog 86 #[.pointer (some ⟨bx,0,none⟩),.string s] w fun e w'=>e= .returned (.tuple #[.bool (cu_ t n s p),.int .i64 (dx_ s)])/\w'=w:=by
 have d:=nn_ s w hs;cases htu:ci_ s with
 |false=>
  rw[show(decide (s.size<=12)&&as_ s s.size)=false from htu]at d;have b:cu_ t n s p=false:=by simp[cu_,htu]
  have c:dx_ s=7:=by simp[dx_,htu]
  rw[b,c];clear h b c;go_enter func86,ntmps86;go_wp2_with (go_at_call 98;refine d.mono ?_;rintro e w' ⟨rfl,a⟩;obtain rfl:w=w':=a.symm);go_ret2;exact⟨rfl,rfl⟩
 |true=>
  rw[show(decide (s.size<=12)&&as_ s s.size)=true from htu]at d;have f:=tq_ w bx n t cx s p h hn hp;have g:=tr_ w bx n t cx s p h hn;have c:dx_ s=0:=by simp[dx_,htu]
  have b:cu_ t n s p=decide (p<n/\t p=s):=by simp only[cu_,htu,Bool.true_and]
  rw[b,c];generalize decide (p<n/\t p=s)=bb at*;clear h b c hp;go_enter func86,ntmps86;go_wp2_with (first
   |(go_at_call 98;refine d.mono ?_;rintro e w' ⟨rfl,a⟩;obtain rfl:w=w':=a.symm)
   |(go_at_call 126;refine f.mono ?_;rintro e w' ⟨rfl,a⟩;obtain rfl:w=w':=a.symm)
   |(go_at_call 127;refine g.mono ?_;rintro e w' ⟨rfl,a⟩;obtain rfl:w=w':=a.symm))
  go_ret2;exact⟨rfl,rfl⟩
theorem anq_ (w:World)(bx n:Nat)(t:Nat->ByteArray)(cx:Nat->Value)(h:Θ w bx t n cx):
 Calls prog 87 #[.pointer (some ⟨bx,0,none⟩)] w fun e w'=>e= .returned (.int .i64 (n:Int))/\w'=w:=by
 have a:=h.eI;clear h;go_enter func87,ntmps87;go_wp2_with fail;go_ret;exact⟨rfl,rfl⟩
theorem tt_ (s:ByteArray)(i:Nat)(h:i<s.size):(ω s).getD i 0=s[i]:=l0_ s i h
theorem aak_ (a b:ByteArray)(w:World)(ha:a.size<=maxLen)(hb:b.size<=maxLen):
 Calls prog 159 #[.string a,.string b] w fun e w'=>e= .returned (.int .i64 ((f1_ (ω a) (ω b):Nat):Int))/\∃m,w'=w.drewN m:=by
 unfold maxLen at ha hb;obtain⟨c,g⟩:=δ (f1_ (ω a) (ω b));rw[g.out];have o:=(is_ (ω a) (ω b) c).1 (by rw[g.out];exact ι);rw[eq_,eq_]at o;obtain⟨t,u,_⟩:=o;go_enter func159,ntmps159;go_wp2_with fail;go_loopw [5] (fun v wr=>∃i q:Nat,i<=c/\v= .int .i64 (i:Int)/\wr=w.drewN q) (fun v _=>c - (intOf v).toNat)
 case atStart=>exact⟨0,0,o_,rfl,rfl⟩
 case round=>
  obtain⟨i,q,n,rfl,rfl⟩:=hrel;have d:=r0_ (ω a) (ω b) i (by rw[g.out];exact n);rw[g.out,eq_,eq_]at d;by_cases j:i<a.size
  . by_cases k:i<b.size
    . rw[tt_ a i j,tt_ b i k]at d;by_cases f:a[i]=b[i]
      . have s:i<c:=by
         apply Nat.lt_of_le_of_ne n;intro e;exact d.1 e.symm ⟨j,k,f⟩
        have r:((a[i].toNat:Int)==(b[i].toNat:Int))=true:=by simp[f]
        have l:(i:Int)<(a.size:Int):=o_;have p:(i:Int)<(b.size:Int):=o_;clear d f;go_wp2_with fail;go_quiet (fail);go_wp2_with fail;go_roundw
        case rel=>exact⟨i+1,_,o_,by go_num,rfl⟩
        case measure=>exact c_
      . have r:((a[i].toNat:Int)==(b[i].toNat:Int))=false:=by
         simp only[bq_,ne_eq];intro e;exact f (UInt8.toNat_inj.1 o_)
        have e:c=i:=d.2 (fun h=>f h.2.2);have l:(i:Int)<(a.size:Int):=o_;have p:(i:Int)<(b.size:Int):=o_;clear d f;subst e;go_wp2_with fail;go_quiet (fail);go_wp2_with fail;go_ret;exact⟨rfl,_,by rw[World.drewN_drewN]⟩
    . have e:c=i:=d.2 (fun h=>k h.2.1);have l:(i:Int)<(a.size:Int):=o_;have p:¬(i:Int)<(b.size:Int):=o_;clear d;subst e;go_wp2_with fail;go_quiet (fail);go_wp2_with fail;go_ret;exact⟨rfl,_,by rw[World.drewN_drewN]⟩
  . have e:c=i:=d.2 (fun h=>j h.1);have l:¬(i:Int)<(a.size:Int):=o_;clear d;subst e;go_wp2_with fail;go_quiet (fail);go_wp2_with fail;go_ret;exact⟨rfl,_,by rw[World.drewN_drewN]⟩
theorem anr_ (w:World)(bx n:Nat)(t:Nat->ByteArray)(cx:Nat->Value)(h:Θ w bx t n cx)(hn:n<=60)(hz:∀i,i<n->(t i).size<=12)(i:Nat)(hi:i<n):
 Calls prog 128 #[.pointer (some ⟨bx,0,none⟩),.int .i64 (i:Int)] w fun e w'=>e= .returned (.int .i64 ((gc_ (fun j=>ω (t j)) i:Nat):Int))/\∃m,w'=w.drewN m:=by
 unfold gc_;cases i with
 |zero=>
  rw[if_pos rfl];clear h;go_enter func128,ntmps128;go_wp2_with fail;go_ret;exact⟨rfl,0,rfl⟩
 |succ k=>
  rw[if_neg o_,Nat.add_sub_cancel];have b:=h.dI hn (i:=k) o_;have c:=h.dI hn hi;have g:=hz k o_;have l:=hz (k+1) hi;have a:=fun w=>aak_ (t k) (t (k+1)) w u_ u_
  generalize f1_ (ω (t k)) (ω (t (k+1)))=m at*;have d:((k:Int)+1==0)=false:=s_;have f:IntKind.i64.wrap (k:Int)=(k:Int):=by rw[IntKind.wrap_i64];omega
  rw[show((k+1:Nat):Int)=(k:Int)+1 by simp];clear h;go_enter func128,ntmps128;go_wp2_with fail;go_quiet ((go_at_call 159;exact Calls.quiet_of (a _)));go_wp2_with fail;go_ret;exact⟨rfl,_,rfl⟩
open Classical in
noncomputable def kl_ (t:Nat->ByteArray)(n i m:Nat):Bool:=decide (k8_ (fun j=>ω (t j)) n i m)
open Classical in
theorem ans_ (h:k8_ (fun j=>ω (t j)) n i m):kl_ t n i m=true:=by rw[kl_];exact decide_eq_true h
open Classical in
theorem ant_ (h:¬k8_ (fun j=>ω (t j)) n i m):kl_ t n i m=false:=by rw[kl_];exact decide_eq_false h
open Classical in
theorem aal_ :kl_ t n i m=true↔k8_ (fun j=>ω (t j)) n i m:=by rw[kl_,decide_eq_true_iff]
theorem anu_ (w:World)(bx n:Nat)(t:Nat->ByteArray)(cx:Nat->Value)(h:Θ w bx t n cx)(hn:n<=60)(hz:∀i,i<n->(t i).size<=12)(i m:Nat)(hi:i<n):
 Calls prog 129 #[.pointer (some ⟨bx,0,none⟩),.int .i64 (i:Int),.int .i64 (m:Int)] w fun e w'=>e= .returned (.bool (kl_ t n i m))/\∃q,w'=w.drewN q:=by
 have r:=h.eI;have p:=h.dI hn hi;have E:=hz i hi;go_enter func129,ntmps129;go_wp2_with fail;go_loopw [7] (fun v wr=>∃j q:Nat,wr=w.drewN q/\i<j/\j<=n/\v= .int .i64 (j:Int)/\∀k,i<k->k<j->f1_ (ω (t i)) (ω (t k))≠m) (fun v _=>n - (intOf v).toNat)
 case atStart=>exact⟨i+1,0,rfl,o_,o_,by go_num,fun k s y=>o_⟩
 case round=>
  obtain⟨j,q,a,s,y,rfl,u⟩:=hrel;have f:=α a;have d60:wr.cell? ⟨bx,60,none⟩=some (.int .i64 (n:Int)):=by rw[a];exact r
  have d0:wr.cell? ⟨bx,i,none⟩=some (.string (t i)):=by rw[a];exact p
  clear r p;have o:=α u;clear u;by_cases g:j<n
  . have D:wr.cell? ⟨bx,j,none⟩=some (.string (t j)):=by rw[a];exact h.dI hn g
    have F:=hz j g;clear a;have b:=fun w=>aak_ (t i) (t j) w u_ u_
    obtain⟨c,d⟩:=δ (f1_ (ω (t i)) (ω (t j)));simp only[d.out]at b;have B:(j:Int)<(n:Int):=o_;clear h hz;by_cases e:c=m
    . have C:((c:Int)==(m:Int))=true:=by simp[e]
      go_wp2_with fail;go_quiet ((go_at_call 159;exact Calls.quiet_of (b _)));go_wp2_with fail;go_ret;exact⟨b6_ (ans_ ⟨j,s,g,by rw[<-e];exact d.out⟩).symm,_,by rw[f.out,World.drewN_drewN]⟩
    . have C:((c:Int)==(m:Int))=false:=s_;go_wp2_with fail;go_quiet ((go_at_call 159;exact Calls.quiet_of (b _)));go_wp2_with fail;go_roundw
      case rel=>exact⟨j+1,_,by rw[f.out,World.drewN_drewN],o_,o_,by go_num,fun k l z=>by
       by_cases x:k=j
       . subst x;rw[d.out];exact e
       . exact o.out k l o_⟩
      case measure=>exact c_
  . have e:j=n:=o_;have B:¬(j:Int)<(n:Int):=o_;clear h hz a;go_wp2_with fail;go_ret;refine⟨b6_ (ant_ ?_).symm,_,f.out⟩;rintro⟨k,l,z,A⟩;exact absurd A (o.out k l o_)
theorem mq_:(prog.info? 9).map (fun i=>(i.zero,i.size,i.bytes))=some (some (.string ByteArray.empty),1,16):=k_
theorem Θ.below {w':World}(h:Θ w bx t n cx)(hb:Bl w w'):Θ w' bx t n cx:=World.rowIs.of_block h (hb.block bx (World.rowIs.lt h))
theorem anv_ (t:Nat->ByteArray)(i:Nat):gc_ (fun j=>ω (t j)) i<=(t i).size:=by
 unfold gc_;split
 . omega
 . have:=(is_ (ω (t (i - 1))) (ω (t i)) _).1 ι;rw[eq_,eq_]at this;exact this.2.1
theorem anw_ (w:World)(bx n:Nat)(t:Nat->ByteArray)(cx:Nat->Value)(h:Θ w bx t n cx)(hn:n<=60)(hz:∀i,i<n->(t i).size<=12):
 Calls prog 88 #[.pointer (some ⟨bx,0,none⟩)] w fun e w'=>Bl w w'/\∃v,e= .returned v/\w'.ownsRow w.heap.size 9 1 v (am_ t n n).length (Ζ (am_ t n n)):=by
 obtain⟨i0,O,S,T,U⟩:=info_parts mq_;go_enter func88,ntmps88;go_wp2_with fail;go_loopw [3,4] (fun v a' wr=>∃i:Nat,i<=n/\a'= .int .i64 (i:Int)/\Bl w wr/\wr.ownsRow w.heap.size 9 1 v (am_ t n i).length (Ζ (am_ t n i))) (fun _ a' _=>n - (intOf a').toNat)
 case atStart=>exact⟨0,o_,rfl,μ.alloc ι _,by simp[am_,Ζ],.inr ⟨_,_,_,rfl,ι,ο rfl,by simp[am_],u_,i_,by simp[am_,Ζ];rfl⟩⟩
 case round=>
  obtain⟨i,hi,rfl,a,b⟩:=hrel;have J:=h.below a;have ab:=J.eI;by_cases B:i<n
  . have c0:=J.dI hn B;have z0:=hz i B;have q1:(i:Int)<(n:Int):=o_;have y:=anr_ wr bx n t cx J hn hz i B;have P:=anv_ t i;obtain⟨s,F⟩:=δ (gc_ (fun j=>ω (t j)) i);rw[F.out]at y P;have D:=α a;have l:=α b;clear a b;go_wp2_with (go_at_call 128;refine y.mono ?_;rintro e w' ⟨rfl,V,rfl⟩);have ah:IntKind.i64.wrap ((s:Int)+1)=(s:Int)+1:=by rw[IntKind.wrap_i64];omega
    go_loopw [3,6] (fun v l' wi=>∃m:Nat,s<=m/\m<=(t i).size/\l'= .int .i64 ((m:Int)+1)/\Bl w wi/\wi.ownsRow w.heap.size 9 1 v (am_ t n i++kin t n i m).length (Ζ (am_ t n i++kin t n i m))) (fun _ l' _=>20 - (intOf l').toNat)
    case atStart=>
     refine⟨s,ι,P,rfl,below_drewN D.out V, ?_⟩;rw[xj_ t n i s (by rw[F.out];exact ι),append_nil];exact ao_ l.out (below_drewN μ V)
    case round=>
     obtain⟨m,ad,hm,rfl,a,b⟩:=hrel;rename World=>wi
     have K:=h.below a;have ae:(am_ t n i++kin t n i m).length<=1000:=by
      have a1:=pr_ t n hz i o_;have a2:=pq_ t n i m;rw[Μ];omega
     have ac:=a.size;by_cases af:m<(t i).size
     . have q2:(m:Int)+1<=((t i).size:Int):=o_;have A:=fun wj (hj:Θ wj bx t n cx)=>anu_ wj bx n t cx hj hn hz i (m+1) B
       have Q:gc_ (fun j=>ω (t j)) i<m+1:=by rw[F.out];omega
       have C:=b.alloc (.cells #[.string ((t i).extract 0 (m+1))] 9);have k:=α a;have z:=α b;have Z:=α K;have M:Hid (∀x,(u3:Value).ownBlock=some x->w.heap.size<=x):=fun x e=>(b.lt x e).1
       clear a b K y l;have el:e7_ t n i (m+1)->(am_ t n i++kin t n i m).length+1=(am_ t n i++kin t n i (m+1)).length:=fun hy=>by rw[k9_ hy];simp only[Μ,ls_];omega
       have u:Hid _:=el;clear el;by_cases H:m+1=(t i).size
       . have d:Hid (e7_ t n i (m+1)):=⟨Q,.inl H⟩;have q3:((m:Int)+1==((t i).size:Int))=true:=s_;clear H A;go_wp2_with (at_builtin;refine Υ underlying56 O S T U C ?_;intro g aa w3 r p I;have G:=α r;have E:=α p;clear r p I);go_roundw
         case rel=>
          have c:=G.out;rw[it_,ac_,<-k9_ d.out,u.out d.out]at c;exact⟨m+1,o_,o_,by go_num,(k.out.alloc o_ _).grown E.out s_ (fun x e=>M.out x e),by
           rw[show(am_ t n i).length+(kin t n i m).length+1=(am_ t n i++kin t n i (m+1)).length by have:=u.out d.out;rw[Μ]at this;exact this];exact c⟩
         case measure=>exact c_
       . have q3:((m:Int)+1==((t i).size:Int))=false:=s_;have o:=A wi Z.out;rw[show((m+1:Nat):Int)=(m:Int)+1 by simp]at o;cases hpb:kl_ t n i (m+1)with
         |true=>
          have d:Hid (e7_ t n i (m+1)):=⟨Q,.inr (aal_.1 hpb)⟩;rw[hpb]at o;have L:∀f,(∃q,f=wi.drewN q)->(f.alloc (.cells #[.string ((t i).extract 0 (m+1))] 9)).ownsRow w.heap.size 9 1 u3 (am_ t n i++kin t n i m).length (Ζ (am_ t n i++kin t n i m))/\Bl w f/\w.heap.size<=f.heap.size:=by
           rintro f ⟨q,rfl⟩;exact⟨(ao_ z.out (below_drewN μ q)).alloc _,below_drewN k.out q,(below_drewN k.out q).size⟩
          clear A hpb C;go_wp2_with (first
           |(go_at_call 129;refine o.mono ?_;rintro e f ⟨rfl,R⟩;obtain⟨C,N,ag⟩:=L f R;have X:=α N;clear R N L)
           |(at_builtin;refine Υ underlying56 O S T U C ?_;intro g aa w3 r p I;have G:=α r;have E:=α p;clear r p I))
          go_roundw
          case rel=>
           have c:=G.out;rw[it_,ac_,<-k9_ d.out,u.out d.out]at c;exact⟨m+1,o_,o_,by go_num,(X.out.alloc o_ _).grown E.out s_ (fun x e=>M.out x e),by
           rw[show(am_ t n i).length+(kin t n i m).length+1=(am_ t n i++kin t n i (m+1)).length by have:=u.out d.out;rw[Μ]at this;exact this];exact c⟩
          case measure=>exact c_
         |false=>
          have Y:Hid (¬e7_ t n i (m+1)):=fun hh=>by
           rcases hh.2 with h'|h'
           . exact H h'
           . rw[aal_.2 h']at hpb;cases hpb
          rw[hpb]at o;clear A hpb;go_wp2_with (go_at_call 129;refine o.mono ?_;rintro e w' ⟨rfl,W,rfl⟩);go_roundw
          case rel=>
           have c:=ao_ z.out (below_drewN μ W);rw[<-l3_ Y.out]at c;exact⟨m+1,o_,o_,by go_num,below_drewN k.out W,c⟩
          case measure=>exact c_
     . have e:m=(t i).size:=o_;have q2:¬(m:Int)+1<=((t i).size:Int):=o_;have k:=α a;have z:=α b;clear a b K y l;go_wp2_with fail;go_roundw
       case rel=>
        refine⟨i+1,o_,by go_num,k.out, ?_⟩;have:=z.out;rw[e]at this;exact this
       case measure=>exact c_
  . have e:i=n:=o_;have q1:¬(i:Int)<(n:Int):=o_;subst e;have D:=α a;have l:=α b;clear a b;go_wp2_with fail;go_ret;exact⟨D.out,_,rfl,l.out⟩
theorem anx_ (w:World)(bx n:Nat)(t:Nat->ByteArray)(cx:Nat->Value)(s:ByteArray)(p:Nat)(h:Θ w bx t n cx)(hn:n<=60)(hs:s.size<=maxLen)(hp:d3_ t n s p):
 Calls prog 42 #[.pointer (some ⟨bx,0,none⟩),.string s] w fun e w'=>e= .returned (.tuple #[.bool (dw_ t n s p),.int .i64 (e6_ t n s p)])/\Θ w' bx (f5_ t n s p) (fx_ t n s p) cx/\ε (fun k=>k=bx) w w':=by
 have c:=ann_ w bx n t cx s p h hn hs hp;clear h;go_enter func42,ntmps42;go_wp2_with (go_at_call 83;refine c.mono ?_;rintro e g ⟨rfl,b,a⟩;have f:=α b;have d:=α a;clear b a);go_ret2;exact⟨rfl,f.out,d.out⟩
theorem any_ (w:World)(bx n:Nat)(t:Nat->ByteArray)(cx:Nat->Value)(s:ByteArray)(p:Nat)(h:Θ w bx t n cx)(hn:n<=60)(hs:s.size<=maxLen)(hp:d3_ t n s p):
 Calls prog 44 #[.pointer (some ⟨bx,0,none⟩),.string s] w fun e w'=>e= .returned (.tuple #[.bool (cu_ t n s p),.int .i64 (dx_ s)])/\Θ w' bx (hr_ t n s p) (hd_ t n s p) cx/\ε (fun k=>k=bx) w w':=by
 have c:=ano_ w bx n t cx s p h hn hs hp;clear h;go_enter func44,ntmps44;go_wp2_with (go_at_call 85;refine c.mono ?_;rintro e g ⟨rfl,b,a⟩;have f:=α b;have d:=α a;clear b a);go_ret2;exact⟨rfl,f.out,d.out⟩
theorem anz_ (w:World)(bx n:Nat)(t:Nat->ByteArray)(cx:Nat->Value)(s:ByteArray)(p:Nat)(h:Θ w bx t n cx)(hn:n<=60)(hs:s.size<=maxLen)(hp:d3_ t n s p):
 Calls prog 46 #[.pointer (some ⟨bx,0,none⟩),.string s] w fun e w'=>e= .returned (.tuple #[.bool (cu_ t n s p),.int .i64 (dx_ s)])/\w'=w:=by
 have a:=anp_ w bx n t cx s p h hn hs hp;clear h;go_enter func46,ntmps46;go_wp2_with (go_at_call 86;refine a.mono ?_;rintro e c ⟨rfl,b⟩;obtain rfl:w=c:=b.symm);go_ret2;exact⟨rfl,rfl⟩
theorem an0_ (w:World)(bx n:Nat)(t:Nat->ByteArray)(cx:Nat->Value)(h:Θ w bx t n cx):
 Calls prog 48 #[.pointer (some ⟨bx,0,none⟩)] w fun e w'=>e= .returned (.int .i64 (n:Int))/\w'=w:=by
 have a:=anq_ w bx n t cx h;clear h;go_enter func48,ntmps48;go_wp2_with (go_at_call 87;refine a.mono ?_;rintro e c ⟨rfl,b⟩;obtain rfl:w=c:=b.symm);go_ret;exact⟨rfl,rfl⟩
theorem an1_ (w:World)(bx n:Nat)(t:Nat->ByteArray)(cx:Nat->Value)(h:Θ w bx t n cx)(hn:n<=60)(hz:∀i,i<n->(t i).size<=12):
 Calls prog 49 #[.pointer (some ⟨bx,0,none⟩)] w fun e w'=>Bl w w'/\∃v,e= .returned v/\w'.ownsRow w.heap.size 9 1 v (am_ t n n).length (Ζ (am_ t n n)):=by
 have d:=anw_ w bx n t cx h hn hz;clear h;go_enter func49,ntmps49;go_wp2_with (go_at_call 88;refine d.mono ?_;rintro e g ⟨a,v,rfl,b⟩;have c:=α a;have f:=α b;clear a b);go_ret;exact⟨c.out,_,rfl,f.out⟩
theorem an2_:Tryz.zeroCells72.size=81:=k_
def lh_:Nat->Value:=fun j=>if j%5=0 then .bool false else if j%5=1 then .slice none 0 0 else if j%5=2 then .slice none 0 0 else if j%5=3 then .bool false else .string ByteArray.empty
theorem an3_ (t:Nat->ByteArray):∀i,i<81->Tryz.zeroCells72[i]? =some (go_ t 0 lh_ i)
 |0,_=>rfl
 |1,_=>rfl
 |2,_=>rfl
 |3,_=>rfl
 |4,_=>rfl
 |5,_=>rfl
 |6,_=>rfl
 |7,_=>rfl
 |8,_=>rfl
 |9,_=>rfl
 |10,_=>rfl
 |11,_=>rfl
 |12,_=>rfl
 |13,_=>rfl
 |14,_=>rfl
 |15,_=>rfl
 |16,_=>rfl
 |17,_=>rfl
 |18,_=>rfl
 |19,_=>rfl
 |20,_=>rfl
 |21,_=>rfl
 |22,_=>rfl
 |23,_=>rfl
 |24,_=>rfl
 |25,_=>rfl
 |26,_=>rfl
 |27,_=>rfl
 |28,_=>rfl
 |29,_=>rfl
 |30,_=>rfl
 |31,_=>rfl
 |32,_=>rfl
 |33,_=>rfl
 |34,_=>rfl
 |35,_=>rfl
 |36,_=>rfl
 |37,_=>rfl
 |38,_=>rfl
 |39,_=>rfl
 |40,_=>rfl
 |41,_=>rfl
 |42,_=>rfl
 |43,_=>rfl
 |44,_=>rfl
 |45,_=>rfl
 |46,_=>rfl
 |47,_=>rfl
 |48,_=>rfl
 |49,_=>rfl
 |50,_=>rfl
 |51,_=>rfl
 |52,_=>rfl
 |53,_=>rfl
 |54,_=>rfl
 |55,_=>rfl
 |56,_=>rfl
 |57,_=>rfl
 |58,_=>rfl
 |59,_=>rfl
 |60,_=>rfl
 |61,_=>rfl
 |62,_=>rfl
 |63,_=>rfl
 |64,_=>rfl
 |65,_=>rfl
 |66,_=>rfl
 |67,_=>rfl
 |68,_=>rfl
 |69,_=>rfl
 |70,_=>rfl
 |71,_=>rfl
 |72,_=>rfl
 |73,_=>rfl
 |74,_=>rfl
 |75,_=>rfl
 |76,_=>rfl
 |77,_=>rfl
 |78,_=>rfl
 |79,_=>rfl
 |80,_=>rfl
 |i+81,h=>o_
theorem an4_ (w:World)(t:Nat->ByteArray):
 Calls prog 19 #[] w fun e w'=>Bl w w'/\∃bx,e= .returned (.pointer (some ⟨bx,0,none⟩))/\w.heap.size<=bx/\Θ w' bx t 0 lh_:=by
 go_enter func19,ntmps19;go_wp2_with fail;go_ret;exact⟨μ.alloc ι _,_,rfl,ι,_,ο rfl,an2_,an3_ t⟩
structure Cu where
 op:Bool
 vA:Value
 vN:Value
 bg:Bool
 la:ByteArray
def shut:Cu:=⟨false,.slice none 0 0,.slice none 0 0,false,ByteArray.empty⟩
def Ι (c:Nat->Cu):Nat->Value:=fun j=>if j%5=0 then .bool (c (j/5)).op else if j%5=1 then(c (j/5)).vA else if j%5=2 then(c (j/5)).vN else if j%5=3 then .bool (c (j/5)).bg else .string (c (j/5)).la
theorem aam_:Ι (fun _=>shut)=lh_:=by
 funext j;unfold Ι lh_ shut;rfl
def bk_ (c:Nat->Cu)(k:Nat)(d:Cu):Nat->Cu:=fun i=>if i=k then d else c i
def opB (c:Nat->Cu)(k:Int):Bool:=decide (0<=k/\k<4)&&(c k.toNat).op
theorem li_ {c:Nat->Cu}{k:Int}(h:¬(0<=k/\k<4)):opB c k=false:=by simp[opB,h]
theorem n6_ (c:Nat->Cu)(h:k<4):opB c (k:Int)=(c k).op:=by
 have:(0:Int)<=k/\(k:Int)<4:=o_;simp[opB,this]
theorem Θ.cu {c:Nat->Cu}(h:Θ w bx t n (Ι c))(hk:k<4):
 w.cell? ⟨bx,61+5*k,none⟩=some (.bool (c k).op)/\w.cell? ⟨bx,61+5*k+1,none⟩=some (c k).vA/\w.cell? ⟨bx,61+5*k+2,none⟩=some (c k).vN/\w.cell? ⟨bx,61+5*k+3,none⟩=some (.bool (c k).bg)/\w.cell? ⟨bx,61+5*k+4,none⟩=some (.string (c k).la):=by
 have a:∀f,f<5->w.cell? ⟨bx,61+5*k+f,none⟩=some (Ι c (5*k+f)):=fun f hf=>by
  rw[World.rowIs.cell h (i:=61+5*k+f) o_,go_,if_neg o_,if_neg o_];congr 2
  omega
 have d:∀f,f<5->(5*k+f)/5=k/\(5*k+f)%5=f:=fun f hf=>o_
 have r:∀f,f<5->Ι c (5*k+f)=if f=0 then .bool (c k).op else if f=1 then(c k).vA else if f=2 then(c k).vN else if f=3 then .bool (c k).bg else .string (c k).la:=fun f hf=>by
  unfold Ι;rw[(d f hf).1,(d f hf).2]
 exact⟨by rw[<-Nat.add_zero (61+5*k),a 0 o_,r 0 o_];rfl,by rw[a 1 o_,r 1 o_];rfl,by rw[a 2 o_,r 2 o_];rfl,by rw[a 3 o_,r 3 o_];rfl,by rw[a 4 o_,r 4 o_];rfl⟩
theorem Θ.put {c:Nat->Cu}(h:Θ w bx t n (Ι c))(hk:k<4)(d:Cu):
 Θ (((((w.setCell ⟨bx,61+5*k,none⟩ (.bool d.op)).setCell ⟨bx,61+5*k+1,none⟩ d.vA).setCell ⟨bx,61+5*k+2,none⟩ d.vN).setCell ⟨bx,61+5*k+3,none⟩ (.bool d.bg)).setCell ⟨bx,61+5*k+4,none⟩ (.string d.la)) bx t n (Ι (bk_ c k d))/\
 ε (fun j=>j=bx) w (((((w.setCell ⟨bx,61+5*k,none⟩ (.bool d.op)).setCell ⟨bx,61+5*k+1,none⟩ d.vA).setCell ⟨bx,61+5*k+2,none⟩ d.vN).setCell ⟨bx,61+5*k+3,none⟩ (.bool d.bg)).setCell ⟨bx,61+5*k+4,none⟩ (.string d.la)):=by
 refine⟨(((((World.rowIs.set h (61+5*k) (.bool d.op)).set (61+5*k+1) d.vA).set (61+5*k+2) d.vN).set (61+5*k+3) (.bool d.bg)).set (61+5*k+4) (.string d.la)).congr (fun j hj=> ?_),(((((ε.refl (fun j=>j=bx) w).set ⟨bx,61+5*k,none⟩ (.bool d.op) (.inl rfl)).set ⟨bx,61+5*k+1,none⟩ d.vA (.inl rfl)).set ⟨bx,61+5*k+2,none⟩ d.vN (.inl rfl)).set ⟨bx,61+5*k+3,none⟩ (.bool d.bg) (.inl rfl)).set ⟨bx,61+5*k+4,none⟩ (.string d.la) (.inl rfl)⟩;unfold go_ Ι bk_;by_cases a:j<60
 . simp only[a,if_true,show¬j=61+5*k+4 by omega,show¬j=61+5*k+3 by omega,show¬j=61+5*k+2 by omega,show¬j=61+5*k+1 by omega,show¬j=61+5*k by omega,if_false]
 . by_cases b:j=60
   . simp only[b,show¬(60:Nat)=61+5*k+4 by omega,show¬(60:Nat)=61+5*k+3 by omega,show¬(60:Nat)=61+5*k+2 by omega,show¬(60:Nat)=61+5*k+1 by omega,show¬(60:Nat)=61+5*k by omega,if_false];simp
   . by_cases q:(j - 61)/5=k
     . simp only[a,b,q,if_false,if_true];rcases (show(j - 61)%5=0\/(j - 61)%5=1\/(j - 61)%5=2\/(j - 61)%5=3\/(j - 61)%5=4 by omega)with f|f|f|f|f
       . have e:j=61+5*k:=o_;simp only[f,if_pos e,show¬j=61+5*k+4 by omega,show¬j=61+5*k+3 by omega,show¬j=61+5*k+2 by omega,show¬j=61+5*k+1 by omega,if_false,if_true]
       . have e:j=61+5*k+1:=o_;simp only[f,if_pos e,show¬j=61+5*k+4 by omega,show¬j=61+5*k+3 by omega,show¬j=61+5*k+2 by omega,if_false,if_true,show¬(1:Nat)=0 by omega]
       . have e:j=61+5*k+2:=o_;simp only[f,if_pos e,show¬j=61+5*k+4 by omega,show¬j=61+5*k+3 by omega,if_false,if_true,show¬(2:Nat)=0 by omega,show¬(2:Nat)=1 by omega]
       . have e:j=61+5*k+3:=o_;simp only[f,if_pos e,show¬j=61+5*k+4 by omega,if_false,if_true,show¬(3:Nat)=0 by omega,show¬(3:Nat)=1 by omega,show¬(3:Nat)=2 by omega]
       . have e:j=61+5*k+4:=o_;simp only[f,if_pos e,if_false,show¬(4:Nat)=0 by omega,show¬(4:Nat)=1 by omega,show¬(4:Nat)=2 by omega,show¬(4:Nat)=3 by omega]
     . simp only[a,b,q,if_false,show¬j=61+5*k+4 by omega,show¬j=61+5*k+3 by omega,show¬j=61+5*k+2 by omega,show¬j=61+5*k+1 by omega,show¬j=61+5*k by omega]
theorem tu_ (w:World)(bx n:Nat)(t:Nat->ByteArray)(c:Nat->Cu)(k:Int)(h:Θ w bx t n (Ι c)):
 Calls prog 130 #[.pointer (some ⟨bx,0,none⟩),.int .i64 k] w fun e w'=>e= .returned (.bool (opB c k))/\w'=w:=by
 by_cases f:0<=k
 . by_cases g:k<4
   . obtain⟨m,rfl⟩:∃m:Nat,k=m:=⟨k.toNat,o_⟩;have a:m<4:=o_;rw[n6_ c a];obtain⟨d,_⟩:=h.cu a;generalize (c m).op=bb at*;clear h;rcases (show m=0\/m=1\/m=2\/m=3 by omega)with rfl|rfl|rfl|rfl
     all_goals
      go_enter func130,ntmps130;go_wp2_with fail;go_ret;exact⟨rfl,rfl⟩
   . rw[li_ o_];have b:decide (k<4)=false:=s_;clear h;go_enter func130,ntmps130;go_wp2_with fail;go_ret;exact⟨rfl,rfl⟩
 . rw[li_ o_];have b:decide (0<=k)=false:=s_;clear h;go_enter func130,ntmps130;go_wp2_with fail;go_ret;exact⟨rfl,rfl⟩
def jw_ (c:Nat->Cu)(k:Int):Int:=if opB c k then 0 else 10
def he_ (c:Nat->Cu)(k:Int):Nat->Cu:=if opB c k then bk_ c k.toNat shut else c
theorem an5_ (w:World)(bx n:Nat)(t:Nat->ByteArray)(c:Nat->Cu)(k:Int)(h:Θ w bx t n (Ι c)):
 Calls prog 94 #[.pointer (some ⟨bx,0,none⟩),.int .i64 k] w fun e w'=>e= .returned (.int .i64 (jw_ c k))/\Θ w' bx t n (Ι (he_ c k))/\ε (fun j=>j=bx) w w':=by
 have f:=tu_ w bx n t c k h;have g:=α h;unfold jw_ he_;cases hop:opB c k with
 |false=>
  rw[hop]at f;clear h;go_enter func94,ntmps94;go_wp2_with (go_at_call 130;refine f.mono ?_;rintro e d ⟨rfl,b⟩;obtain rfl:w=d:=b.symm);go_ret;exact⟨rfl,g.out,ε.refl _ _⟩
 |true=>
  rw[hop]at f;have o:0<=k/\k<4:=by
   by_cases l:0<=k/\k<4
   . exact l
   . rw[li_ l]at hop;cases hop
  obtain⟨m,rfl⟩:∃m:Nat,k=m:=⟨k.toNat,o_⟩;have p:m<4:=o_;obtain⟨q,r,s,u,v⟩:=h.cu p;have i:=World.rowIs.frozen h;clear h hop o;rcases (show m=0\/m=1\/m=2\/m=3 by omega)with rfl|rfl|rfl|rfl
  . have f0:=i 61;go_enter func94,ntmps94;go_wp2_with (go_at_call 130;refine f.mono ?_;rintro e d ⟨rfl,b⟩;obtain rfl:w=d:=b.symm);go_ret;have a:=g.out.put (k:=0) o_ shut;exact⟨rfl,a.1,a.2⟩
  . have f0:=i 66;go_enter func94,ntmps94;go_wp2_with (go_at_call 130;refine f.mono ?_;rintro e d ⟨rfl,b⟩;obtain rfl:w=d:=b.symm);go_ret;have a:=g.out.put (k:=1) o_ shut;exact⟨rfl,a.1,a.2⟩
  . have f0:=i 71;go_enter func94,ntmps94;go_wp2_with (go_at_call 130;refine f.mono ?_;rintro e d ⟨rfl,b⟩;obtain rfl:w=d:=b.symm);go_ret;have a:=g.out.put (k:=2) o_ shut;exact⟨rfl,a.1,a.2⟩
  . have f0:=i 76;go_enter func94,ntmps94;go_wp2_with (go_at_call 130;refine f.mono ?_;rintro e d ⟨rfl,b⟩;obtain rfl:w=d:=b.symm);go_ret;have a:=g.out.put (k:=3) o_ shut;exact⟨rfl,a.1,a.2⟩
def ej_ (d:Cu)(M:γ)(s:ByteArray):Bool:= !(d.bg&& !(less d.la s))&&M.b6 (ar_ s)
theorem qk_ {a b:ByteArray}:(Op.bytesLess a.toList b.toList||a.toList==b.toList)= !(less b a):=by
 rw[g3_];show(less a b||decide (a=b))= !(less b a)
 by_cases e:a=b
 . subst e;simp[xg_]
 . cases h:less a b with
   |true=>simp[xi_ h]
   |false=>simp[e,xh_ h e]
theorem an6_ (w:World)(d:Cu)(V:ρ)(M:γ)(s:ByteArray)(hA:d.vA= .slice (some ⟨V.ba,V.oa,none⟩) M.n V.ca)(hN:d.vN= .slice (some ⟨V.bn,V.on,none⟩) M.n V.cn)(hM:M.Ok)(h:π w V M)(hs:ci_ s=true):
 Calls prog 160 #[.agg #[.bool d.op,d.vA,d.vN,.bool d.bg,.string d.la],.string s] w fun e w'=>e= .returned (.bool (ej_ d M s))/\Bl w w':=by
 have o:dh_ s/\s.size<=12:=by simp[ci_]at hs;exact⟨(jg_ s).1 hs.2,hs.1⟩
 rw[hA,hN];obtain⟨W,a,f,y,-⟩:=ν w #[.bool d.op,.slice (some ⟨V.ba,V.oa,none⟩) M.n V.ca,.slice (some ⟨V.bn,V.on,none⟩) M.n V.cn,.bool d.bg,.string d.la] 67;have i:=fun(q:Nat)=>xc_ V M s W hM (h.below f) o.1 o_
 have k:=aw_ a;have m:W.cell? ⟨w.heap.size,0,none⟩=some (.bool d.op)/\W.cell? ⟨w.heap.size,1,none⟩=some (.slice (some ⟨V.ba,V.oa,none⟩) M.n V.ca)/\W.cell? ⟨w.heap.size,2,none⟩=some (.slice (some ⟨V.bn,V.on,none⟩) M.n V.cn)/\W.cell? ⟨w.heap.size,3,none⟩=some (.bool d.bg)/\W.cell? ⟨w.heap.size,4,none⟩=some (.string d.la):=by simp[World.cell?,k]
 obtain⟨t,u,v,l,x⟩:=m;have j:=i 0;clear k h hA hN hs i;cases hbg:d.bg with
 |false=>
  rw[hbg]at l;have b:ej_ d M s=M.b6 (ar_ s):=by simp[ej_,hbg]
  rw[b];generalize M.b6 (ar_ s)=ab at*;rw[hbg]at a;clear b hbg;cases ab
  all_goals
   go_enter func160,ntmps160;go_upto_region 1 with fail;rw[<-a];clear a;go_wp2_with (go_at_call 74;refine j.mono ?_;rintro e r ⟨rfl,c⟩;have g:=α c;clear c);go_ret;exact⟨rfl,f.trans (g.out.mono o_)⟩
 |true=>
  rw[hbg]at l;cases hle:less d.la s with
  |false=>
   have p:(Op.bytesLess s.toList d.la.toList||s.toList==d.la.toList)=true:=by rw[qk_,hle];rfl
   have b:ej_ d M s=false:=by simp[ej_,hbg,hle]
   rw[b];rw[hbg]at a;clear b hbg hle;go_enter func160,ntmps160;go_upto_region 1 with fail;rw[<-a];clear a;go_wp2_with fail;go_ret;exact⟨rfl,f⟩
  |true=>
   have p:(Op.bytesLess s.toList d.la.toList||s.toList==d.la.toList)=false:=by rw[qk_,hle];rfl
   have b:ej_ d M s=M.b6 (ar_ s):=by simp[ej_,hbg,hle]
   rw[b];generalize M.b6 (ar_ s)=ab at*;rw[hbg]at a;clear b hbg hle;cases ab
   all_goals
    go_enter func160,ntmps160;go_upto_region 1 with fail;rw[<-a];clear a;go_wp2_with (go_at_call 74;refine j.mono ?_;rintro e r ⟨rfl,c⟩;have g:=α c;clear c);go_ret;exact⟨rfl,f.trans (g.out.mono o_)⟩
def Ω (d:Cu)(M:γ)(t:Nat->ByteArray):Nat->List ByteArray
 |0=> []
 |i+1=>if ej_ d M (t i)then Ω d M t i++ [t i]else Ω d M t i
theorem mr_ {d:Cu}{M:γ}(h:ej_ d M (t i)=true):Ω d M t (i+1)=Ω d M t i++ [t i]:=by rw[Ω,if_pos h]
theorem n7_ {d:Cu}{M:γ}(h:ej_ d M (t i)=false):Ω d M t (i+1)=Ω d M t i:=by rw[Ω,h];rfl
theorem tv_ (d:Cu)(M:γ)(t:Nat->ByteArray):∀i,(Ω d M t i).length<=i
 |0=>by simp[Ω]
 |i+1=>by
  have:=tv_ d M t i;cases h:ej_ d M (t i)with
  |true=>rw[mr_ h];simp;omega
  |false=>rw[n7_ h];omega
theorem aan_ (d:Cu)(M:γ)(t:Nat->ByteArray)(i:Nat):∀k,Ω d M t i<+:Ω d M t (i+k)
 |0=>prefix_rfl
 |k+1=>by
  have ih:=aan_ d M t i k;rw[<-Nat.add_assoc];cases h:ej_ d M (t (i+k))with
  |true=>rw[mr_ h];exact ih.trans (prefix_append _ _)
  |false=>rw[n7_ h];exact ih
def de_ (d:Cu)(M:γ)(t:Nat->ByteArray)(n limit:Nat):List ByteArray:=(Ω d M t n).take limit
def gp_ (d:Cu)(M:γ)(t:Nat->ByteArray)(n limit:Nat):Bool:=decide ((Ω d M t n).length<=limit)
theorem an7_ {d:Cu}{M:γ}(h:(Ω d M t n).length<=limit):de_ d M t n limit=Ω d M t n/\gp_ d M t n limit=true:=by
 exact⟨tk_ h,by simp[gp_,h]⟩
theorem an8_ {d:Cu}{M:γ}(hi:i<n)(h:(Ω d M t i).length=limit)(hw:ej_ d M (t i)=true):de_ d M t n limit=Ω d M t i/\gp_ d M t n limit=false:=by
 have a:=aan_ d M t (i+1) (n - (i+1));rw[Nat.add_sub_cancel' o_,mr_ hw]at a;have c:Ω d M t i<+:Ω d M t n:=(prefix_append _ _).trans a;have b:=a.length_le;rw[Μ,ls_,h]at b;refine⟨?_,by simp[gp_];omega⟩;rw[de_,<-h];exact(prefix_iff_eq_take.1 c).symm
theorem an9_ (w:World)(bx n limit:Nat)(t:Nat->ByteArray)(cx:Nat->Value)(d:Cu)(V:ρ)(M:γ)(h:Θ w bx t n cx)(hn:n<=60)(hl:limit<=50)(htu:∀i,i<n->ci_ (t i)=true)(hA:d.vA= .slice (some ⟨V.ba,V.oa,none⟩) M.n V.ca)(hN:d.vN= .slice (some ⟨V.bn,V.on,none⟩) M.n V.cn)(hM:M.Ok)(hT:π w V M):
 Calls prog 131 #[.pointer (some ⟨bx,0,none⟩),.agg #[.bool d.op,d.vA,d.vN,.bool d.bg,.string d.la],.int .i64 (limit:Int)] w fun e w'=>Bl w w'/\∃v,e= .returned (.tuple #[v,.bool (gp_ d M t n limit)])/\w'.ownsRow w.heap.size 9 1 v (de_ d M t n limit).length (Ζ (de_ d M t n limit)):=by
 obtain⟨i0,aa,ad,ae,af⟩:=info_parts mq_;obtain⟨W,J,x,Y,I⟩:=ν w #[.bool d.op,.slice (some ⟨V.ba,V.oa,none⟩) M.n V.ca,.slice (some ⟨V.bn,V.on,none⟩) M.n V.cn,.bool d.bg,.string d.la] 67;have P:∀wj,Bl W wj->wj.cell? ⟨w.heap.size,0,none⟩=some (.bool d.op)/\wj.cell? ⟨w.heap.size,1,none⟩=some (.slice (some ⟨V.ba,V.oa,none⟩) M.n V.ca)/\wj.cell? ⟨w.heap.size,2,none⟩=some (.slice (some ⟨V.bn,V.on,none⟩) M.n V.cn)/\wj.cell? ⟨w.heap.size,3,none⟩=some (.bool d.bg)/\wj.cell? ⟨w.heap.size,4,none⟩=some (.string d.la):=fun wj b=>by
  have:=(b.block _ Y).trans I;simp[World.cell?,this]
 have U:Hid (∀(wj:World) (s:ByteArray),π wj V M->ci_ s=true->Calls prog 160 #[.agg #[.bool d.op,.slice (some ⟨V.ba,V.oa,none⟩) M.n V.ca,.slice (some ⟨V.bn,V.on,none⟩) M.n V.cn,.bool d.bg,.string d.la],.string s] wj fun e w'=>e= .returned (.bool (ej_ d M s))/\Bl wj w'):=fun wj s h1 h2=>by
  have:=an6_ wj d V M s hA hN hM h1 h2;rw[hA,hN]at this;exact this
 rw[hA,hN];clear hA hN I;go_enter func131,ntmps131;go_upto_region 1 with fail;rw[<-J];clear J;go_wp2_with fail;go_loopw [8,9] (fun v i' wr=>∃i:Nat,i<=n/\i'= .int .i64 (i:Int)/\Bl W wr/\wr.ownsRow W.heap.size 9 1 v (Ω d M t i).length (Ζ (Ω d M t i))/\(Ω d M t i).length<=limit) (fun _ i' _=>n - (intOf i').toNat)
 case atStart=>exact⟨0,o_,rfl,μ,a8_,by simp[Ω]⟩
 case round=>
  obtain⟨i,hi,rfl,b,p,ab⟩:=hrel;obtain⟨oa,u,hv,_⟩:=Β p;subst hv;have K:=η x b;have q:=h.below K;have ag:=q.eI;have D:=b.size;have o:=α b;have k:=α p;by_cases E:i<n
  . have cI:=q.dI hn E;obtain⟨k0,k1,k2,k3,k4⟩:=P wr b;have q1:(i:Int)<(n:Int):=o_;have l:=U.out wr (t i) (hT.below K) (htu i E);clear q b p h hT;cases hwb:ej_ d M (t i)with
    |false=>
     rw[hwb]at l;have G:Hid (Ω d M t (i+1)=Ω d M t i):=n7_ hwb;clear hwb;go_wp2_with (go_at_call 160;refine l.mono ?_;rintro e c ⟨rfl,a⟩;have f:=α a;clear a);go_roundw
     case rel=>
      refine⟨i+1,o_,by go_num,o.out.trans (f.out.mono D), ?_,by rw[G.out];omega⟩;rw[G.out];exact ao_ k.out f.out
     case measure=>exact c_
    |true=>
     rw[hwb]at l;by_cases m:(Ω d M t i).length=limit
     . obtain⟨f1,f2⟩:=an8_ E m hwb;have z:=α f1;have A:=α f2;have q2:(((Ω d M t i).length:Int)==(limit:Int))=true:=by simp[m]
       clear hwb f1 f2 m;go_wp2_with (go_at_call 160;refine l.mono ?_;rintro e c ⟨rfl,a⟩;have f:=α a;clear a);go_ret2;refine⟨x.trans ((o.out.trans (f.out.mono D)).mono o_),.slice oa (Ω d M t i).length u, ?_, ?_⟩
       . rw[A.out];rfl
       . rw[z.out];have:=ao_ k.out f.out;refine⟨this.1, ?_⟩;rcases this.2 with j|⟨g,B,C,j,X,r⟩
         . exact .inl j
         . exact .inr ⟨g,B,C,j,o_,r⟩
     . have q2:(((Ω d M t i).length:Int)==(limit:Int))=false:=s_;have H:Hid (Ω d M t (i+1)=Ω d M t i++ [t i]):=mr_ hwb;have F:∀c,Bl wr c->(c.alloc (.cells #[.string (t i)] 9)).ownsRow W.heap.size 9 1 (.slice oa (Ω d M t i).length u) (Ω d M t i).length (Ζ (Ω d M t i))/\wr.heap.size<=c.heap.size:=fun c a=>⟨(ao_ k.out a).alloc _,a.size⟩
       have T:Hid (∀y,(Value.slice oa (Ω d M t i).length u).ownBlock=some y->W.heap.size<=y):=fun y e=>(k.out.lt y e).1
       have Q:=α m;clear hwb m;go_wp2_with (first
        |(go_at_call 160;refine l.mono ?_;rintro e c ⟨rfl,a⟩;obtain⟨ac,aj⟩:=F c a;have f:=α a;clear a F)
        |(at_builtin;refine Υ underlying56 aa ad ae af ac ?_;intro g' ah w3 O L Z;have S:=α O;have R:=α L;clear O L Z))
       go_roundw
       case rel=>
        have N:=S.out;rw[it_]at N;have ai:=Q.out;refine⟨i+1,o_,by go_num,((o.out.trans (f.out.mono D)).alloc o_ _).grown R.out s_ (fun y e=>T.out y e), ?_,by rw[H.out,Μ,ls_];omega⟩;rw[H.out,Μ,ls_];exact N
       case measure=>exact c_
  . have q1:¬(i:Int)<(n:Int):=o_;have e:i=n:=o_;subst e;obtain⟨f1,f2⟩:=an7_ ab;have z:=α f1;have A:=α f2;clear f1 f2 q b p h hT;go_wp2_with fail;go_ret2;refine⟨x.trans (o.out.mono o_),.slice oa (Ω d M t i).length u, ?_, ?_⟩
    . rw[A.out];rfl
    . rw[z.out];have:=k.out;refine⟨this.1, ?_⟩;rcases this.2 with j|⟨g,B,C,j,X,r⟩
      . exact .inl j
      . exact .inr ⟨g,B,C,j,o_,r⟩
theorem Θ.dO {c:Nat->Cu}(h:Θ w bx t n (Ι c))(hk:k<4)(s:ByteArray):
 Θ ((w.setCell ⟨bx,61+5*k+3,none⟩ (.bool true)).setCell ⟨bx,61+5*k+4,none⟩ (.string s)) bx t n (Ι (bk_ c k {c k with bg:=true,la:=s}))/\
 ε (fun j=>j=bx) w ((w.setCell ⟨bx,61+5*k+3,none⟩ (.bool true)).setCell ⟨bx,61+5*k+4,none⟩ (.string s)):=by
 refine⟨((World.rowIs.set h (61+5*k+3) (.bool true)).set (61+5*k+4) (.string s)).congr (fun j hj=> ?_),((ε.refl (fun j=>j=bx) w).set ⟨bx,61+5*k+3,none⟩ (.bool true) (.inl rfl)).set ⟨bx,61+5*k+4,none⟩ (.string s) (.inl rfl)⟩;unfold go_ Ι bk_;by_cases a:j<60
 . simp only[a,if_true,show¬j=61+5*k+4 by omega,show¬j=61+5*k+3 by omega,if_false]
 . by_cases b:j=60
   . simp only[b,show¬(60:Nat)=61+5*k+4 by omega,show¬(60:Nat)=61+5*k+3 by omega,if_false];simp
   . by_cases q:(j - 61)/5=k
     . simp only[a,b,q,if_false,if_true];rcases (show(j - 61)%5=0\/(j - 61)%5=1\/(j - 61)%5=2\/(j - 61)%5=3\/(j - 61)%5=4 by omega)with f|f|f|f|f
       . simp only[f,show¬j=61+5*k+4 by omega,show¬j=61+5*k+3 by omega,if_false,if_true]
       . simp only[f,show¬j=61+5*k+4 by omega,show¬j=61+5*k+3 by omega,if_false,if_true,show¬(1:Nat)=0 by omega]
       . simp only[f,show¬j=61+5*k+4 by omega,show¬j=61+5*k+3 by omega,if_false,if_true,show¬(2:Nat)=0 by omega,show¬(2:Nat)=1 by omega]
       . have e:j=61+5*k+3:=o_;simp only[f,if_pos e,show¬j=61+5*k+4 by omega,if_false,if_true,show¬(3:Nat)=0 by omega,show¬(3:Nat)=1 by omega,show¬(3:Nat)=2 by omega]
       . have e:j=61+5*k+4:=o_;simp only[f,if_pos e,if_false,show¬(4:Nat)=0 by omega,show¬(4:Nat)=1 by omega,show¬(4:Nat)=2 by omega,show¬(4:Nat)=3 by omega]
     . simp only[a,b,q,if_false,show¬j=61+5*k+4 by omega,show¬j=61+5*k+3 by omega]
theorem gq_ (hB:Bl w w1):ε S w w1:=⟨hB.os,hB.tape,hB.output,hB.size,fun k hk _=>hB.block k hk⟩
theorem strs_got? {l:List ByteArray}{x:ByteArray}(h:l[i]? =some x):(Ζ l)[i]? =some (.string x):=by simp[Ζ,h]
theorem gr_ {w2:World}(h1:ε S w w1)(h2:ε S w1 w2):ε S w w2:=
 ⟨h2.os.trans h1.os,h2.tape.trans h1.tape,h2.output.trans h1.output,Nat.le_trans h1.size h2.size,fun k hk hs=>(h2.block k (Nat.lt_of_lt_of_le hk h1.size) hs).trans (h1.block k hk hs)⟩
theorem ql_ (ho:w.ownsRow base 9 1 v m x)(h:Θ w bx t n cx)(hT:ε (fun j=>j=bx) w w1):w1.ownsRow base 9 1 v m x:=by
 refine hT.own ho (fun g hg hgb=> ?_);subst hgb;obtain⟨c,b,_⟩:=h;rcases ho.2 with ⟨rfl,_⟩|⟨f,d,e,rfl,_,a,_⟩
 . simp[Value.ownBlock]at hg
 . simp only[Value.ownBlock,Δ]at hg;subst hg;rw[b]at a;injection a with a;injection a with _ a;exact absurd a d_
theorem qm_ {g:Nat}(ho:w.ownsRow base 9 1 v m x)(h:Θ w bx t n cx)(hg:v.ownBlock=some g):g≠bx:=by
 rintro rfl;obtain⟨c,b,_⟩:=h;rcases ho.2 with ⟨rfl,_⟩|⟨f,d,e,rfl,_,a,_⟩
 . simp[Value.ownBlock]at hg
 . simp only[Value.ownBlock,Δ]at hg;subst hg;rw[b]at a;injection a with a;injection a with _ a;exact absurd a d_
def d8_ (c:Nat->Cu)(k limit:Int):Int:=if opB c k then(if 1<=limit/\limit<=50 then 0 else 8)else 10
theorem aoa_ (w:World)(bx n:Nat)(t:Nat->ByteArray)(c:Nat->Cu)(k limit:Int)(h:Θ w bx t n (Ι c))(hno:d8_ c k limit≠0):
 Calls prog 92 #[.pointer (some ⟨bx,0,none⟩),.int .i64 k,.int .i64 limit] w fun e w'=>e= .returned (.tuple #[.slice none 0 0,.bool false,.int .i64 (d8_ c k limit)])/\w'=w:=by
 have b:=tu_ w bx n t c k h;clear h;cases hop:opB c k with
 |false=>
  have a:d8_ c k limit=10:=by simp[d8_,hop]
  rw[hop]at b;rw[a];clear hno a hop;go_enter func92,ntmps92;go_wp2_with (go_at_call 130;refine b.mono ?_;rintro e f ⟨rfl,d⟩;obtain rfl:w=f:=d.symm);go_ret3
  exact⟨rfl,rfl⟩
 |true=>
  have g:¬(1<=limit/\limit<=50):=fun hh=>hno (by simp[d8_,hop,hh])
  have a:d8_ c k limit=8:=by simp[d8_,hop,g]
  rw[hop]at b;rw[a];by_cases i:limit<1
  . clear hno a hop g;go_enter func92,ntmps92;go_wp2_with (go_at_call 130;refine b.mono ?_;rintro e f ⟨rfl,d⟩;obtain rfl:w=f:=d.symm);go_ret3
    exact⟨rfl,rfl⟩
  . have j:50<limit:=o_;have l:decide (limit<1)=false:=s_;clear hno a hop g i;go_enter func92,ntmps92;go_wp2_with (go_at_call 130;refine b.mono ?_;rintro e f ⟨rfl,d⟩;obtain rfl:w=f:=d.symm);go_ret3
    exact⟨rfl,rfl⟩
def dp_ (c:Nat->Cu)(k:Nat)(L:List ByteArray):Nat->Cu:=match L.getLast? with
 |some s=>bk_ c k {c k with bg:=true,la:=s}
 |none=>c
theorem aob_ (w:World)(bx n m limit:Nat)(t:Nat->ByteArray)(c:Nat->Cu)(V:ρ)(M:γ)(h:Θ w bx t n (Ι c))(hn:n<=60)(hm:m<4)(hop:(c m).op=true)(hl1:1<=limit)(hl:limit<=50)(htu:∀i,i<n->ci_ (t i)=true)
 (hA:(c m).vA= .slice (some ⟨V.ba,V.oa,none⟩) M.n V.ca) (hN:(c m).vN= .slice (some ⟨V.bn,V.on,none⟩) M.n V.cn) (hM:M.Ok) (hT:π w V M):
 Calls prog 92 #[.pointer (some ⟨bx,0,none⟩),.int .i64 (m:Int),.int .i64 (limit:Int)] w fun e w'=>∃v,e= .returned (.tuple #[v,.bool (gp_ (c m) M t n limit),.int .i64 0])/\w'.ownsRow w.heap.size 9 1 v (de_ (c m) M t n limit).length (Ζ (de_ (c m) M t n limit))/\Θ w' bx t n (Ι (dp_ c m (de_ (c m) M t n limit)))/\ε (fun j=>j=bx) w w':=by
 have O:=tu_ w bx n t c m h;rw[n6_ c hm,hop]at O;have D:=an9_ w bx n limit t (Ι c) (c m) V M h hn hl htu hA hN hM hT;obtain⟨c0,c1,c2,c3,c4⟩:=h.cu hm;have Z:=α h;rw[hA,hN]at D;rw[hA]at c1;rw[hN]at c2;obtain⟨d,HD⟩:∃d,Hid (c m=d):=⟨_,by unfold Hid;rfl⟩;rw[HD.out]at D c0 c3 c4 ⊢;obtain⟨L,Y⟩:∃L,Hid (de_ d M t n limit=L):=⟨_,by unfold Hid;rfl⟩;rw[Y.out]at D ⊢;generalize gp_ d M t n limit=fb at*;have q1:¬(limit:Int)<1:=o_;have ac:L.length<=60:=by
  rw[<-Y.out,de_,length_take];have:=tv_ d M t n;omega
 clear h hop htu hA hN hM hT;by_cases K:L=[]
 . have Q:Hid (dp_ c m L=c):=by unfold Hid;rw[K];rfl
   rw[Q.out];have q3:¬(0:Int)<(L.length:Int):=by rw[K];simp
   clear K;rcases (show m=0\/m=1\/m=2\/m=3 by omega)with rfl|rfl|rfl|rfl
   all_goals
    go_enter func92,ntmps92;go_wp2_with (first
     |(go_at_call 130;refine O.mono ?_;rintro e F ⟨rfl,E⟩;obtain rfl:w=F:=E.symm)
     |(go_at_call 131;refine D.mono ?_;rintro e b ⟨x,v,rfl,o⟩;obtain⟨B,P,rfl,z⟩:=Β o;have C:=α x;have A:=α o;clear x o z))
    go_ret3
    exact⟨_,rfl,A.out,Z.out.below C.out,gq_ C.out⟩
 . obtain⟨s,U⟩:∃s,L.getLast? =some s:=⟨L.getLast K,getLast?_eq_some_getLast K⟩;have ab:0<L.length:=length_pos_iff.2 K;have aa:L[L.length - 1]? =some s:=by rw[<-getLast?_eq_getElem?];exact U
   have Q:Hid (dp_ c m L=bk_ c m {c m with bg:=true,la:=s}):=by unfold Hid dp_;rw[U]
   rw[Q.out];have q3:(0:Int)<(L.length:Int):=o_;obtain⟨r,I⟩:∃r,Hid (L.length=r+1):=⟨L.length - 1,by unfold Hid;omega⟩;have H:∀(b:World) (B:Option Addr),(0<L.length->∃g,B=some ⟨g,0,none⟩/\∀j,j<L.length*1->b.cell? ⟨g,j,none⟩=(Ζ L)[j]?)->∃g,B=some ⟨g,0,none⟩/\b.cell? ⟨g,r,none⟩=some (Value.string s):=fun b B hv=>by
    obtain⟨g,e1,e2⟩:=hv ab;have ad:=I.out;refine⟨g,e1,(e2 r o_).trans (strs_got? ?_)⟩;have:r=L.length - 1:=o_;rw[this];exact aa
   have G:∀b,Bl w b->Θ b bx t n (Ι c):=fun b hb=>Z.out.below hb
   have ae:IntKind.i64.wrap (r:Int)=(r:Int):=by rw[IntKind.wrap_i64];have:=I.out;omega
   rw[I.out]at D q3 ⊢;clear K U aa ab;rcases (show m=0\/m=1\/m=2\/m=3 by omega)with rfl|rfl|rfl|rfl
   . go_enter func92,ntmps92;go_wp2_with (first
      |(go_at_call 130;refine O.mono ?_;rintro e F ⟨rfl,E⟩;obtain rfl:w=F:=E.symm)
      |(go_at_call 131;refine D.mono ?_;rintro e b ⟨x,v,rfl,o⟩;obtain⟨B,P,rfl,z⟩:=Β o;rw[<-I.out]at z;obtain⟨g,rfl,J⟩:=H b B z;have l:=G b x;obtain⟨d0,d1,d2,d3,d4⟩:=l.cu (k:=0) o_;have f3:=World.rowIs.frozen l 64;have f4:=World.rowIs.frozen l 65;have f:=α l;have C:=α x;have A:=α o;clear x o z l H G))
     have N:g≠bx:=qm_ A.out f.out rfl;have R:=(ir_ (w:=b) (p:=⟨bx,64,none⟩) (q:=⟨g,r,none⟩) (u:= .bool true) N).trans J;obtain⟨X,S⟩:∃y,(b.setCell ⟨bx,64,none⟩ (.bool true)).cell? ⟨bx,65,none⟩=some y:=⟨_,(World.rowIs.set f.out 64 (.bool true)).cell (i:=65) o_⟩;have T:(b.setCell ⟨bx,64,none⟩ (.bool true)).frozen? ⟨bx,65,none⟩=false:=(World.rowIs.set f.out 64 (.bool true)).frozen 65;have W:(r:Int)<(r:Int)+1:=o_;go_region
     go_wp2_with fail;go_ret3
     have a:=f.out.dO (k:=0) o_ s;refine⟨_,rfl,ql_ A.out f.out ⟨a.2.os,a.2.tape,a.2.output,a.2.size,a.2.block⟩,a.1,gr_ (gq_ C.out) ⟨a.2.os,a.2.tape,a.2.output,a.2.size,a.2.block⟩⟩
   . go_enter func92,ntmps92;go_wp2_with (first
      |(go_at_call 130;refine O.mono ?_;rintro e F ⟨rfl,E⟩;obtain rfl:w=F:=E.symm)
      |(go_at_call 131;refine D.mono ?_;rintro e b ⟨x,v,rfl,o⟩;obtain⟨B,P,rfl,z⟩:=Β o;rw[<-I.out]at z;obtain⟨g,rfl,J⟩:=H b B z;have l:=G b x;obtain⟨d0,d1,d2,d3,d4⟩:=l.cu (k:=1) o_;have f3:=World.rowIs.frozen l 69;have f4:=World.rowIs.frozen l 70;have f:=α l;have C:=α x;have A:=α o;clear x o z l H G))
     have N:g≠bx:=qm_ A.out f.out rfl;have R:=(ir_ (w:=b) (p:=⟨bx,69,none⟩) (q:=⟨g,r,none⟩) (u:= .bool true) N).trans J;obtain⟨X,S⟩:∃y,(b.setCell ⟨bx,69,none⟩ (.bool true)).cell? ⟨bx,70,none⟩=some y:=⟨_,(World.rowIs.set f.out 69 (.bool true)).cell (i:=70) o_⟩;have T:(b.setCell ⟨bx,69,none⟩ (.bool true)).frozen? ⟨bx,70,none⟩=false:=(World.rowIs.set f.out 69 (.bool true)).frozen 70;have W:(r:Int)<(r:Int)+1:=o_;go_region
     go_wp2_with fail;go_ret3
     have a:=f.out.dO (k:=1) o_ s;refine⟨_,rfl,ql_ A.out f.out ⟨a.2.os,a.2.tape,a.2.output,a.2.size,a.2.block⟩,a.1,gr_ (gq_ C.out) ⟨a.2.os,a.2.tape,a.2.output,a.2.size,a.2.block⟩⟩
   . go_enter func92,ntmps92;go_wp2_with (first
      |(go_at_call 130;refine O.mono ?_;rintro e F ⟨rfl,E⟩;obtain rfl:w=F:=E.symm)
      |(go_at_call 131;refine D.mono ?_;rintro e b ⟨x,v,rfl,o⟩;obtain⟨B,P,rfl,z⟩:=Β o;rw[<-I.out]at z;obtain⟨g,rfl,J⟩:=H b B z;have l:=G b x;obtain⟨d0,d1,d2,d3,d4⟩:=l.cu (k:=2) o_;have f3:=World.rowIs.frozen l 74;have f4:=World.rowIs.frozen l 75;have f:=α l;have C:=α x;have A:=α o;clear x o z l H G))
     have N:g≠bx:=qm_ A.out f.out rfl;have R:=(ir_ (w:=b) (p:=⟨bx,74,none⟩) (q:=⟨g,r,none⟩) (u:= .bool true) N).trans J;obtain⟨X,S⟩:∃y,(b.setCell ⟨bx,74,none⟩ (.bool true)).cell? ⟨bx,75,none⟩=some y:=⟨_,(World.rowIs.set f.out 74 (.bool true)).cell (i:=75) o_⟩;have T:(b.setCell ⟨bx,74,none⟩ (.bool true)).frozen? ⟨bx,75,none⟩=false:=(World.rowIs.set f.out 74 (.bool true)).frozen 75;have W:(r:Int)<(r:Int)+1:=o_;go_region
     go_wp2_with fail;go_ret3
     have a:=f.out.dO (k:=2) o_ s;refine⟨_,rfl,ql_ A.out f.out ⟨a.2.os,a.2.tape,a.2.output,a.2.size,a.2.block⟩,a.1,gr_ (gq_ C.out) ⟨a.2.os,a.2.tape,a.2.output,a.2.size,a.2.block⟩⟩
   . go_enter func92,ntmps92;go_wp2_with (first
      |(go_at_call 130;refine O.mono ?_;rintro e F ⟨rfl,E⟩;obtain rfl:w=F:=E.symm)
      |(go_at_call 131;refine D.mono ?_;rintro e b ⟨x,v,rfl,o⟩;obtain⟨B,P,rfl,z⟩:=Β o;rw[<-I.out]at z;obtain⟨g,rfl,J⟩:=H b B z;have l:=G b x;obtain⟨d0,d1,d2,d3,d4⟩:=l.cu (k:=3) o_;have f3:=World.rowIs.frozen l 79;have f4:=World.rowIs.frozen l 80;have f:=α l;have C:=α x;have A:=α o;clear x o z l H G))
     have N:g≠bx:=qm_ A.out f.out rfl;have R:=(ir_ (w:=b) (p:=⟨bx,79,none⟩) (q:=⟨g,r,none⟩) (u:= .bool true) N).trans J;obtain⟨X,S⟩:∃y,(b.setCell ⟨bx,79,none⟩ (.bool true)).cell? ⟨bx,80,none⟩=some y:=⟨_,(World.rowIs.set f.out 79 (.bool true)).cell (i:=80) o_⟩;have T:(b.setCell ⟨bx,79,none⟩ (.bool true)).frozen? ⟨bx,80,none⟩=false:=(World.rowIs.set f.out 79 (.bool true)).frozen 80;have W:(r:Int)<(r:Int)+1:=o_;go_region
     go_wp2_with fail;go_ret3
     have a:=f.out.dO (k:=3) o_ s;refine⟨_,rfl,ql_ A.out f.out ⟨a.2.os,a.2.tape,a.2.output,a.2.size,a.2.block⟩,a.1,gr_ (gq_ C.out) ⟨a.2.os,a.2.tape,a.2.output,a.2.size,a.2.block⟩⟩
end Go.Proofs.YtpngikmcjkjdaaaGreatDoor
