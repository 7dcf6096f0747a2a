import Derived.Test.YtpngikmcjkjdaaaGreatDoorC15
set_option linter.unusedVariables false
set_option linter.unusedSimpArgs false
set_option maxRecDepth 20000
set_option maxHeartbeats 80000000
namespace Go.Proofs.YtpngikmcjkjdaaaGreatDoor
open Go.RowKit Tryz List Nat
variable {m s y:ByteArray} {l:List Nat} {B base c cap g i j k n t:Nat} {S S':Nat->Bool} {ao:Option Addr} {a b:Value} {w:World}
def exC (kind:Nat)(S:Nat->Bool)(a b:Value):Array Value:= #[.int .i64 (kind:Int),.bool (S 0),.bool (S 1),.bool (S 2),.bool (S 3),.bool (S 4),.bool (S 5),.bool (S 6),.bool (S 7),a,b]
def ptr (g:Nat):Value:= .pointer (some ⟨g,0,none⟩)
def noS:Nat->Bool:=fun _=>false
def Τ (w:World):Nat->Ex->Prop
 |g,.nil=>w.heap[g]? =some (.cells (exC 0 noS (.pointer none) (.pointer none)) 199 (0,0))
 |g,.one S=>w.heap[g]? =some (.cells (exC 1 S (.pointer none) (.pointer none)) 199 (0,0))
 |g,.thn a b=>∃ga gb,w.heap[g]? =some (.cells (exC 2 noS (ptr ga) (ptr gb)) 199 (0,0))/\Τ w ga a/\Τ w gb b
 |g,.alt a b=>∃ga gb,w.heap[g]? =some (.cells (exC 3 noS (ptr ga) (ptr gb)) 199 (0,0))/\Τ w ga a/\Τ w gb b
 |g,.star a=>∃ga,w.heap[g]? =some (.cells (exC 4 noS (ptr ga) (.pointer none)) 199 (0,0))/\Τ w ga a
def Ex.kind:Ex->Nat
 | .nil=>0
 | .one _=>1
 | .thn _ _=>2
 | .alt _ _=>3
 | .star _=>4
theorem ip_ (e:Ex):(e.kind=0↔e.isNil=true):=by cases e<;>simp[Ex.kind,Ex.isNil]
theorem Τ.lt {e:Ex}(h:Τ w g e):g<w.heap.size:=by
 cases e with
 |nil=>exact κ h
 |one S=>exact κ h
 |thn a b=>obtain⟨_,_,h,_⟩:=h;exact κ h
 |alt a b=>obtain⟨_,_,h,_⟩:=h;exact κ h
 |star a=>obtain⟨_,h,_⟩:=h;exact κ h
theorem Τ.below {w':World}{e:Ex}(h:Τ w g e)(hb:Bl w w'):Τ w' g e:=by
 induction e generalizing g with
 |nil=>exact(hb.block _ h.lt).trans h
 |one S=>exact(hb.block _ h.lt).trans h
 |thn a b iha ihb=>
  have i:=h.lt;obtain⟨c,j,d,f,k⟩:=h;exact⟨c,j,(hb.block _ i).trans d,iha f,ihb k⟩
 |alt a b iha ihb=>
  have i:=h.lt;obtain⟨c,j,d,f,k⟩:=h;exact⟨c,j,(hb.block _ i).trans d,iha f,ihb k⟩
 |star a iha=>
  have i:=h.lt;obtain⟨c,d,f⟩:=h;exact⟨c,(hb.block _ i).trans d,iha f⟩
theorem nc_ (h:w.heap[g]? =some (.cells (exC k S a b) t (0,0))):w.cell? ⟨g,0,none⟩=some (.int .i64 (k:Int)):=by
 rw[cell_of_row w g 0 _ t (0,0) h];rfl
theorem j4_ (h:w.heap[g]? =some (.cells (exC k S a b) t (0,0))):w.cell? ⟨g,9,none⟩=some a/\w.cell? ⟨g,10,none⟩=some b:=by
 constructor
 . rw[cell_of_row w g 9 _ t (0,0) h];rfl
 . rw[cell_of_row w g 10 _ t (0,0) h];rfl
theorem lp_ (h:w.heap[g]? =some (.cells (exC k S a b) t (0,0)))(hc:c<8):w.cell? ⟨g,1+c,none⟩=some (.bool (S c))/\w.frozen? ⟨g,1+c,none⟩=false:=by
 constructor
 . rw[cell_of_row w g (1+c) _ t (0,0) h];rcases (show c=0\/c=1\/c=2\/c=3\/c=4\/c=5\/c=6\/c=7 by omega)with rfl|rfl|rfl|rfl|rfl|rfl|rfl|rfl<;>rfl
 . simp[World.frozen?,h]
theorem Τ.kind {e:Ex}(h:Τ w g e):w.cell? ⟨g,0,none⟩=some (.int .i64 (e.kind:Int)):=by
 cases e with
 |nil=>exact nc_ h
 |one S=>exact nc_ h
 |thn a b=>obtain⟨_,_,h,_⟩:=h;exact nc_ h
 |alt a b=>obtain⟨_,_,h,_⟩:=h;exact nc_ h
 |star a=>obtain⟨_,h,_⟩:=h;exact nc_ h
def j5_ (e':Ex)(w:World)(e:Ending)(w':World):Prop:=∃g,e= .returned (.pointer (some ⟨g,0,none⟩))/\Τ w' g e'/\Bl w w'
theorem o6_ (w:World):Calls prog 153 #[] w (j5_ .nil w):=by
 obtain⟨W,a,b,-,-⟩:=ν w (exC 0 noS (.pointer none) (.pointer none)) 199;have c:Τ W w.heap.size .nil:=by rw[a];exact ο rfl
 unfold exC noS at a;simp only[show((0:Nat):Int)=0 from rfl]at a;go_enter func153,ntmps153;go_wp2_with fail;rw[<-a];clear a;go_ret;exact⟨_,rfl,c,b⟩
theorem k1_ (ga gb:Nat)(a b:Ex)(w:World)(ha:Τ w ga a)(hb:Τ w gb b):Calls prog 156 #[.pointer (some ⟨ga,0,none⟩),.pointer (some ⟨gb,0,none⟩)] w (j5_ (a.cF b) w):=by
 have k:=ha.kind;have j:=hb.kind;unfold Ex.cF;by_cases c:a.isNil=true
 . rw[if_pos c];rw[(ip_ a).2 c]at k;clear j c;go_enter func156,ntmps156;go_wp2_with fail;go_ret;exact⟨gb,rfl,hb,μ⟩
 . rw[if_neg c];obtain⟨m,g⟩:=δ (a.kind);rw[g.out]at k;have o:((m:Int)==0)=false:=by
    rw[<-g.out];simp only[bq_,ne_eq];intro e;exact c ((ip_ a).1 o_)
   by_cases d:b.isNil=true
   . rw[if_pos d];rw[(ip_ b).2 d]at j;clear c d g;go_enter func156,ntmps156;go_wp2_with fail;go_ret;exact⟨ga,rfl,ha,μ⟩
   . rw[if_neg d];obtain⟨n,i⟩:=δ (b.kind);rw[i.out]at j;have p:((n:Int)==0)=false:=by
      rw[<-i.out];simp only[bq_,ne_eq];intro e;exact d ((ip_ b).1 o_)
     obtain⟨W,f,h,-,-⟩:=ν w (exC 2 noS (ptr ga) (ptr gb)) 199;have l:Τ W w.heap.size (.thn a b):=⟨ga,gb,by rw[f];exact ο rfl,ha.below h,hb.below h⟩;unfold exC noS ptr at f;simp only[show((2:Nat):Int)=2 from rfl]at f;clear c d g i;go_enter func156,ntmps156;go_wp2_with fail;rw[<-f];clear f;go_ret;exact⟨_,rfl,l,h⟩
theorem vt_ (ga gb:Nat)(a b:Ex)(w:World)(ha:Τ w ga a)(hb:Τ w gb b):Calls prog 119 #[.pointer (some ⟨ga,0,none⟩),.pointer (some ⟨gb,0,none⟩)] w (j5_ (a.di b) w):=by
 have l:=ha.kind;have j:=hb.kind;obtain⟨W,d,g,-,-⟩:=ν w (exC 3 noS (ptr ga) (ptr gb)) 199;have k:Τ W w.heap.size (.alt a b):=⟨ga,gb,by rw[d];exact ο rfl,ha.below g,hb.below g⟩;unfold exC noS ptr at d;simp only[show((3:Nat):Int)=3 from rfl]at d;unfold Ex.di;by_cases c:a.isNil=true
 . rw[(ip_ a).2 c]at l;by_cases f:b.isNil=true
   . rw[(ip_ b).2 f]at j;rw[if_pos (by rw[c,f];rfl)];clear c f d;go_enter func119,ntmps119;go_wp2_with fail;go_ret;exact⟨ga,rfl,ha,μ⟩
   . rw[if_neg (by rw[c];simpa using f)];obtain⟨n,i⟩:=δ (b.kind);rw[i.out]at j;have p:((n:Int)==0)=false:=by
      rw[<-i.out];simp only[bq_,ne_eq];intro e;exact f ((ip_ b).1 o_)
     clear c f i;go_enter func119,ntmps119;go_wp2_with fail;rw[<-d];clear d;go_ret;exact⟨_,rfl,k,g⟩
 . rw[if_neg (by simp[c])];obtain⟨m,h⟩:=δ (a.kind);rw[h.out]at l;have o:((m:Int)==0)=false:=by
    rw[<-h.out];simp only[bq_,ne_eq];intro e;exact c ((ip_ a).1 o_)
   clear c h j;go_enter func119,ntmps119;go_wp2_with fail;rw[<-d];clear d;go_ret;exact⟨_,rfl,k,g⟩
theorem aek_ (ga:Nat)(a:Ex)(w:World)(ha:Τ w ga a):Calls prog 175 #[.pointer (some ⟨ga,0,none⟩)] w (j5_ a.cK w):=by
 have g:=ha.kind;unfold Ex.cK;by_cases b:a.isNil=true
 . rw[if_pos b];rw[(ip_ a).2 b]at g;clear b;go_enter func175,ntmps175;go_wp2_with fail;go_ret;exact⟨ga,rfl,ha,μ⟩
 . rw[if_neg b];obtain⟨i,d⟩:=δ (a.kind);rw[d.out]at g;have j:((i:Int)==0)=false:=by
    rw[<-d.out];simp only[bq_,ne_eq];intro e;exact b ((ip_ a).1 o_)
   obtain⟨W,c,f,-,-⟩:=ν w (exC 4 noS (ptr ga) (.pointer none)) 199;have h:Τ W w.heap.size (.star a):=⟨ga,by rw[c];exact ο rfl,ha.below f⟩;unfold exC noS ptr at c;simp only[show((4:Nat):Int)=4 from rfl]at c;clear b d;go_enter func175,ntmps175;go_wp2_with fail;rw[<-c];clear c;go_ret;exact⟨_,rfl,h,f⟩
theorem vu_ (gx lo:Nat)(hi:Int)(x:Ex)(w:World)(hx:Τ w gx x)(hlo:lo<=9)(hhi:hi<=9)(hok:hi<0\/(lo:Int)<=hi):
 Calls prog 155 #[.pointer (some ⟨gx,0,none⟩),.int .i64 (lo:Int),.int .i64 hi] w (j5_ (x.cR lo hi) w):=by
 obtain⟨c,s⟩:=δ (if hi<0 then x.cK else x.opts (hi - lo).toNat);have G:Hid (x.cR lo hi=x.cO c lo):=by
  unfold Hid Ex.cR;rw[<-s.out];by_cases h:hi<0
  . rw[if_pos h,if_pos h]
  . rw[if_neg h,if_neg h]
 rw[G.out];clear G;have z:Hid (∀w',Bl w w'->Τ w' gx x):=fun w' hb=>hx.below hb
 have a:=o6_ w;go_enter func155,ntmps155;go_wp2_with fail;refine a.mono ?_;clear a;rintro e N ⟨T,rfl,D,q⟩;have X:=q.size
 skip;by_cases E:hi<0
 . have M:=z.out N q;have a:=aek_ gx x N M;have y:Hid (x.cK=c):=by unfold Hid;rw[<-s.out,if_pos E]
   rw[y.out]at a;clear s y D M;have Z:¬(lo:Int)<hi:=o_;go_wp2_with fail;refine a.mono ?_;clear a;rintro e O ⟨p,rfl,j,k⟩;have u:=η q k;clear q k;go_wp2_with fail;go_loopw [7,8] (fun v' i' wr=>v'= .pointer (some ⟨p,0,none⟩)/\i'= .int .i64 (lo:Int)/\wr=O) (fun _ _ _=>0)
   case atStart=>exact⟨rfl,rfl,rfl⟩
   case round=>
    obtain⟨rfl,rfl,rfl⟩:=hrel;go_wp2_with fail;go_loopw [7,9] (fun v' i' wr=>∃i g:Nat,i<=lo/\v'= .pointer (some ⟨g,0,none⟩)/\i'= .int .i64 (i:Int)/\Τ wr g (x.cO c i)/\Bl w wr) (fun _ i' _=>20 - (intOf i').toNat)
    case atStart=>exact⟨0,p,o_,rfl,rfl,j,u⟩
    case round=>
     clear j u;obtain⟨i,o,J,rfl,rfl,d,b⟩:=hrel;have L:=b.size;by_cases K:i<lo
     . have v:(i:Int)<(lo:Int):=o_;have a:=k1_ gx o x (x.cO c i) wr (z.out wr b) d;rw[show x.cF (x.cO c i)=x.cO c (i+1)from rfl]at a;go_wp2_with fail;refine a.mono ?_;clear a;rintro e F ⟨t,rfl,l,f⟩;have r:=η b f;have B:=α l;clear d l b f;go_wp2_with fail;go_roundw
       case rel=>exact⟨i+1,t,o_,rfl,by go_num,B.out,r⟩
       case measure=>exact c_
     . have v:¬(i:Int)<(lo:Int):=o_;obtain rfl:i=lo:=o_;have A:=α d;clear d;go_wp2_with fail;go_ret;exact⟨o,rfl,A.out,b⟩
 . obtain⟨m,rfl⟩:∃n:Nat,hi=(n:Int):=⟨hi.toNat,o_⟩;have W:lo<=m:=o_;have aa:¬(m:Int)<0:=o_;have y:Hid (x.opts (m - lo)=c):=by
    unfold Hid;rw[<-s.out,if_neg E];congr 1;omega
   clear s E hok;go_wp2_with fail;go_loopw [7,8] (fun v' i' wr=>∃i g:Nat,lo<=i/\i<=m/\v'= .pointer (some ⟨g,0,none⟩)/\i'= .int .i64 (i:Int)/\Τ wr g (x.opts (i - lo))/\Bl w wr) (fun _ i' _=>20 - (intOf i').toNat)
   case atStart=>exact⟨lo,T,ι,W,rfl,rfl,by rw[Nat.sub_self];exact D,q⟩
   case round=>
    clear D q X;obtain⟨i,p,J,Y,rfl,rfl,j,k⟩:=hrel;have ab:=k.size;by_cases K:i<m
    . have v:(i:Int)<(m:Int):=o_;have a:=o6_ wr;have R:Hid (x.opts (i+1 - lo)=Ex.di .nil (x.cF (x.opts (i - lo)))):=by
       unfold Hid;rw[show i+1 - lo=(i - lo)+1 by omega];rfl
      go_wp2_with fail;refine a.mono ?_;clear a;rintro e P ⟨o,rfl,d,b⟩;have C:=η k b;have a:=k1_ gx p x (x.opts (i - lo)) P (z.out P C) (j.below b);have L:=b.size;go_wp2_with fail;refine a.mono ?_;clear a;rintro e F ⟨t,rfl,l,f⟩;have r:=η C f;have ac:=f.size;have a:=vt_ o t .nil (x.cF (x.opts (i - lo))) F (d.below f) l;rw[<-R.out]at a;go_wp2_with fail;refine a.mono ?_;clear a;rintro e w5 ⟨U,rfl,I,H⟩;have V:=η r H;have Q:=α I;clear j d l I k b f H C r;go_wp2_with fail;go_roundw
      case rel=>exact⟨i+1,U,o_,o_,rfl,by go_num,Q.out,V⟩
      case measure=>exact c_
    . have v:¬(i:Int)<(m:Int):=o_;obtain rfl:i=m:=o_;have j:Τ wr p c:=by rw[<-y.out];exact j
      obtain⟨O,S⟩:=δ wr;rw[S.out]at j k ⊢;have u:=k;clear k;go_wp2_with fail;go_loopw [7,9] (fun v' i' wr=>∃i g:Nat,i<=lo/\v'= .pointer (some ⟨g,0,none⟩)/\i'= .int .i64 (i:Int)/\Τ wr g (x.cO c i)/\Bl w wr) (fun _ i' _=>20 - (intOf i').toNat)
      case atStart=>exact⟨0,p,o_,rfl,rfl,j,u⟩
      case round=>
       clear j u;obtain⟨i,o,J,rfl,rfl,d,b⟩:=hrel;have L:=b.size;by_cases K:i<lo
       . have v:(i:Int)<(lo:Int):=o_;have a:=k1_ gx o x (x.cO c i) wr (z.out wr b) d;rw[show x.cF (x.cO c i)=x.cO c (i+1)from rfl]at a;go_wp2_with fail;refine a.mono ?_;clear a;rintro e F ⟨t,rfl,l,f⟩;have r:=η b f;have B:=α l;clear d l b f;go_wp2_with fail;go_roundw
         case rel=>exact⟨i+1,t,o_,rfl,by go_num,B.out,r⟩
         case measure=>exact c_
       . have v:¬(i:Int)<(lo:Int):=o_;obtain rfl:i=lo:=o_;have A:=α d;clear d;go_wp2_with fail;go_ret;exact⟨o,rfl,A.out,b⟩
theorem lq_ (s:ByteArray)(a b:Nat):txt (s.extract a b)=sub s a b:=by
 unfold txt sub txt;rw[ByteArray.data_extract,Array.toList_extract,extract_eq_take_drop,map_take,map_drop];rw[drop_take]
theorem lr_ (h:k<s.size):(txt s).drop k=θ s k::(txt s).drop (k+1):=by
 have a:k<(txt s).length:=by rw[bm_];exact h
 rw[drop_eq_getElem_cons a];have:=m6_ h;rw[ge_ a]at this;simp at this;rw[this]
theorem rf_ (s:ByteArray):(txt s).drop s.size=[]:=drop_of_length_le (by rw[bm_];omega)
theorem vv_:(prog.info? 9).map (fun i=>(i.zero,i.size,i.bytes))=some (some (.string ByteArray.empty),1,16):=k_
theorem ael_ (s:ByteArray)(i:Nat)(w:World)(hs:s.size<=40)(hi:i<=s.size):Calls prog 174 #[.string s,.int .i64 (i:Int)] w fun e w'=>e= .returned (.int .i64 (cx_ ((txt s).drop i) 0 i:Nat))/\w=w':=by
 obtain⟨R,j⟩:=δ (cx_ ((txt s).drop i) 0 i);rw[j.out];go_enter func174,ntmps174;go_wp2_with fail;go_loop [5,6] (fun n' k'=>∃(n:Int) (k:Nat),k<=s.size/\ -40<=n - k+s.size/\ -(k:Int)<=n/\n<=k/\n'= .int .i64 n/\k'= .int .i64 (k:Int)/\Hid (cx_ ((txt s).drop k) n k=R)) (fun _ k'=>s.size - (intOf k').toNat)
 case atStart=>exact⟨0,i,hi,o_,o_,o_,rfl,rfl,j⟩
 case round=>
  obtain⟨n,k,r,t,u,v,rfl,rfl,a⟩:=hrel;clear j;by_cases q:k<s.size
  . have p:=lr_ q;rw[p]at a;clear p;have o:=cp_ q;obtain⟨c,h⟩:∃x,Hid (θ s k=x):=⟨θ s k,rfl⟩;have d:s[k].toNat=c:=by rw[<-o];exact h.out
    rw[h.out]at a;clear o h;by_cases b:c=40
    . have t40:((s[k].toNat:Int)==40)=true:=by rw[d,b];rfl
      have t41:((s[k].toNat:Int)==41)=false:=by rw[d,b];rfl
      have g:Hid (cx_ ((txt s).drop (k+1)) (n+1) (k+1)=R):=by
       have:=a.out;simp only[cx_]at this;rw[if_pos b]at this;exact this
      clear b d a;go_wp2_with fail;go_round
      case rel=>exact⟨n+1,k+1,o_,o_,o_,o_,by go_num,by go_num,g⟩
      case measure=>exact c_
    . have t40:((s[k].toNat:Int)==40)=false:=by rw[d];simp;omega
      by_cases f:c=41
      . have t41:((s[k].toNat:Int)==41)=true:=by rw[d,f];rfl
        by_cases m:n - 1=0
        . have l:R=k:=by
           have:=a.out;simp only[cx_]at this;rw[if_neg b,if_pos f,if_pos m]at this;exact this.symm
          obtain rfl:n=1:=o_;subst l;clear b f d a m;go_wp2_with fail;go_ret;exact⟨rfl,rfl⟩
        . have g:Hid (cx_ ((txt s).drop (k+1)) (n - 1) (k+1)=R):=by
           have:=a.out;simp only[cx_]at this;rw[if_neg b,if_pos f,if_neg m]at this;exact this
          have y:((n - 1:Int)==0)=false:=s_;clear b f d a;go_wp2_with fail;go_round
          case rel=>exact⟨n - 1,k+1,o_,o_,o_,o_,by go_num,by go_num,g⟩
          case measure=>exact c_
      . have t41:((s[k].toNat:Int)==41)=false:=by rw[d];simp;omega
        have g:Hid (cx_ ((txt s).drop (k+1)) n (k+1)=R):=by
         have:=a.out;simp only[cx_]at this;rw[if_neg b,if_neg f]at this;exact this
        clear b f d a;go_wp2_with fail;go_round
        case rel=>exact⟨n,k+1,o_,o_,o_,o_,by go_num,by go_num,g⟩
        case measure=>exact c_
  . obtain rfl:k=s.size:=o_;have l:R=s.size:=by
     have:=a.out;rw[rf_]at this;exact this.symm
    subst l;clear a;go_wp2_with fail;go_ret;exact⟨rfl,rfl⟩
def o7_ (s:ByteArray)(w:World)(e:Ending)(w':World):Prop:=
 ∃(v:Value) (Ls:List ByteArray),e= .returned v/\Ls.map txt=b5_ (txt s) 0 []/\w'.ownsRow w.heap.size 9 1 v Ls.length (Ζ Ls)/\Bl w w'/\Ls.length<=s.size+1
theorem vw_ (s:ByteArray)(w:World)(hs:s.size<=40):Calls prog 111 #[.string s] w (o7_ s w):=by
 obtain⟨Y,N,O,P,Q⟩:=info_parts vv_;obtain⟨R,E⟩:=δ (b5_ (txt s) 0 []);unfold o7_;rw[E.out];go_enter func111,ntmps111;go_wp2_with fail;go_loopw [3,4,5,6] (fun l' n' a' i' wr=>∃(n:Int) (a i:Nat) (b:List ByteArray),i<=s.size/\a<=i/\ -(i:Int)<=n/\n<=i/\n'= .int .i64 n/\a'= .int .i64 (a:Int)/\i'= .int .i64 (i:Int)/\b.length<=a/\Hid (b.map txt++b5_ ((txt s).drop i) n (sub s a i)=R)/\wr.ownsRow w.heap.size 9 1 l' b.length (Ζ b)/\Bl w wr) (fun _ _ _ i' _=>s.size - (intOf i').toNat)
 case atStart=>exact⟨0,0,0,[],o_,o_,o_,o_,rfl,rfl,rfl,i_,by unfold Hid;rw[ox_];simpa using E.out,a8_,μ⟩
 case round=>
  obtain⟨n,a,i,b,V,T,W,X,rfl,rfl,rfl,z,d,k,m⟩:=hrel;clear E;by_cases G:i<s.size
  . have M:=lr_ G;rw[M]at d;clear M;have L:=cp_ G;have J:=oy_ T G;obtain⟨c,B⟩:∃x,Hid (θ s i=x):=⟨θ s i,rfl⟩;have l:s[i].toNat=c:=by rw[<-L];exact B.out
    rw[B.out]at d J;have y:=α J;clear L B J;have v:=α k;have p:=α m;by_cases j:c=40
    . have t40:((s[i].toNat:Int)==40)=true:=by rw[l,j];rfl
      have f:Hid (b.map txt++b5_ ((txt s).drop (i+1)) (n+1) (sub s a (i+1))=R):=by
       have:=d.out;simp only[b5_]at this;rw[if_pos j]at this;unfold Hid;rw[y.out];exact this
      clear j l d k m;go_wp2_with fail;go_roundw
      case rel=>exact⟨n+1,a,i+1,b,o_,o_,o_,o_,by go_num,rfl,by go_num,z,f,v.out,p.out⟩
      case measure=>exact c_
    . have t40:((s[i].toNat:Int)==40)=false:=by rw[l];simp;omega
      by_cases o:c=41
      . have t41:((s[i].toNat:Int)==41)=true:=by rw[l,o];rfl
        have f:Hid (b.map txt++b5_ ((txt s).drop (i+1)) (n - 1) (sub s a (i+1))=R):=by
         have:=d.out;simp only[b5_]at this;rw[if_neg j,if_pos o]at this;unfold Hid;rw[y.out];exact this
        clear j o l d k m;go_wp2_with fail;go_roundw
        case rel=>exact⟨n - 1,a,i+1,b,o_,o_,o_,o_,by go_num,rfl,by go_num,z,f,v.out,p.out⟩
        case measure=>exact c_
      . have t41:((s[i].toNat:Int)==41)=false:=by rw[l];simp;omega
        by_cases q:c=124
        . have t124:((s[i].toNat:Int)==124)=true:=by rw[l,q];rfl
          by_cases H:n=0
          . subst H;have f:Hid ((b++ [s.extract a i]).map txt++b5_ ((txt s).drop (i+1)) 0 (sub s (i+1) (i+1))=R):=by
             have:=d.out;simp only[b5_]at this;rw[if_neg j,if_neg o,if_pos ⟨q,trivial⟩]at this;unfold Hid;rw[ox_,map_append,map_singleton,lq_,ac_];exact this
            have I:=k.alloc (.cells #[.string (s.extract a i)] 9);have U:=m.size;have D:Hid (∀x,(u3:Value).ownBlock=some x->w.heap.size<=x):=fun x e=>(k.lt x e).1
            clear j o q l d k m;go_wp2_with (at_builtin;refine Υ underlying56 N O P Q I ?_;intro g S K u r F;have C:=α u;have A:Hid (Bl w K):=(p.out.alloc o_ _).grown r s_ (fun x e=>D.out x e);clear u r F);go_roundw
            case rel=>
             have t:=C.out;rw[it_]at t;exact⟨0,i+1,i+1,b++ [s.extract a i],o_,o_,o_,o_,rfl,by go_num,by go_num,s_,f,by rw[Μ];exact t,A.out⟩
            case measure=>exact c_
          . have Z:((n:Int)==0)=false:=s_;have f:Hid (b.map txt++b5_ ((txt s).drop (i+1)) n (sub s a (i+1))=R):=by
             have:=d.out;simp only[b5_]at this;rw[if_neg j,if_neg o,if_neg (fun h=>H h.2)]at this;unfold Hid;rw[y.out];exact this
            clear j o q l d k m H;go_wp2_with fail;go_roundw
            case rel=>exact⟨n,a,i+1,b,o_,o_,o_,o_,rfl,rfl,by go_num,z,f,v.out,p.out⟩
            case measure=>exact c_
        . have t124:((s[i].toNat:Int)==124)=false:=by rw[l];simp;omega
          have f:Hid (b.map txt++b5_ ((txt s).drop (i+1)) n (sub s a (i+1))=R):=by
           have:=d.out;simp only[b5_]at this;rw[if_neg j,if_neg o,if_neg (fun h=>q h.1)]at this;unfold Hid;rw[y.out];exact this
          clear j o q l d k m;go_wp2_with fail;go_roundw
          case rel=>exact⟨n,a,i+1,b,o_,o_,o_,o_,rfl,rfl,by go_num,z,f,v.out,p.out⟩
          case measure=>exact c_
  . obtain rfl:i=s.size:=o_;have f:Hid ((b++ [s.extract a s.size]).map txt=R):=by
     have:=d.out;rw[rf_]at this;unfold Hid;rw[map_append,map_singleton,lq_];exact this
    have I:=k.alloc (.cells #[.string (s.extract a s.size)] 9);have U:=m.size;have p:=α m;have D:Hid (∀x,(u3:Value).ownBlock=some x->w.heap.size<=x):=fun x e=>(k.lt x e).1
    clear d k m;go_wp2_with (at_builtin;refine Υ underlying56 N O P Q I ?_;intro g S K u r F;have C:=α u;have A:Hid (Bl w K):=(p.out.alloc o_ _).grown r s_ (fun x e=>D.out x e);clear u r F);go_ret;have t:=C.out;rw[it_]at t;exact⟨_,b++ [s.extract a s.size],rfl,f.out,by rw[Μ];exact t,A.out,s_⟩
theorem vx_ {a b:Nat}(h:a+j<b)(hb:b<=s.size):(sub s a b)[j]? =some (θ s (a+j)):=by
 unfold sub;rw[getElem?_drop,getElem?_take_of_lt h,m6_ o_]
theorem aem_ {a b:Nat}(h:a<=b)(hb:b<=s.size):(txt s).drop a=sub s a b++(txt s).drop b:=by
 have c:=j2_ (s:=s) h hb;have d:sub s b s.size=(txt s).drop b:=by unfold sub;rw[tk_ (by rw[bm_];omega)]
 have e:sub s a s.size=(txt s).drop a:=by unfold sub;rw[tk_ (by rw[bm_];omega)]
 rw[<-d,<-e,c]
theorem vy_ {z:Nat}(hsub:sub s i (i+(l.length+1))=l++ [z])(hle:i+(l.length+1)<=s.size)(hz:z∉l)(j:Nat)(hj:i<=j)(hj2:j<=i+l.length):(θ s j=z↔j=i+l.length):=by
 have c:=vx_ (s:=s) (a:=i) (b:=i+(l.length+1)) (j:=j - i) o_ hle;rw[hsub,show i+(j - i)=j by omega]at c;by_cases e:j - i<l.length
 . rw[gl_ e]at c;have d:θ s j∈l:=mem_of_getElem? c;constructor
   . intro h;rw[h]at d;exact absurd d hz
   . intro h;omega
 . rw[getElem?_append_right o_,show j - i - l.length=0 by omega]at c;simp at c;exact⟨fun _=>o_,fun _=>c.symm⟩
theorem j6_ (hsub:sub s i (i+n)=c::l)(hle:i+n<=s.size)(hn:0<n):θ s i=c:=by
 have d:=vx_ (s:=s) (a:=i) (b:=i+n) (j:=0) o_ hle;rw[hsub]at d;simpa using d.symm
theorem vz_ (s:ByteArray)(i:Nat)(l:List Nat)(w:World)(hs:s.size<=40)(hsub:sub s i (i+(l.length+2))=91::l++ [93])(hle:i+(l.length+2)<=s.size)(hz:93∉l):
 Calls prog 147 #[.string s,.int .i64 (i:Int)] w fun e w'=>e= .returned (.int .i64 ((i+(l.length+2):Nat):Int))/\w=w':=by
 have c:=vy_ (l:=91::l) (z:=93) (i:=i) (s:=s) hsub hle (by simp[hz]);have f:θ s i=91:=j6_ hsub hle o_;simp only[length_cons]at c;have p:i<s.size:=o_;have b:=cp_ p;rw[f]at b;have t40:((s[i].toNat:Int)==40)=false:=by rw[<-b];rfl
 have t91:((s[i].toNat:Int)==91)=true:=by rw[<-b];rfl
 have g:=α c;clear c hsub hz f b;go_enter func147,ntmps147;go_wp2_with fail;go_loop [1] (fun j'=>∃j:Nat,j'= .int .i64 (j:Int)/\i<=j/\j<=i+(l.length+1)) (fun j'=>100 - (intOf j').toNat)
 case atStart=>exact⟨i,rfl,ι,o_⟩
 case round=>
  obtain⟨j,rfl,m,n⟩:=hrel;clear t40 t91;have o:j<s.size:=o_;have d:=cp_ o;have a:=g.out j m n;rw[d]at a;by_cases e:j=i+(l.length+1)
  . have t93:((s[j].toNat:Int) !=93)=false:=by rw[a.2 e];rfl
    have k:=α e;clear a d e;go_wp2_with fail;go_ret;exact⟨hu_ (by rw[k.out];omega),rfl⟩
  . have t93:((s[j].toNat:Int) !=93)=true:=by
     have:s[j].toNat≠93:=fun h=>e (a.1 h)
     simp only[bne_iff_ne,ne_eq];omega
    clear a d;go_wp2_with fail;go_round
    case rel=>exact⟨j+1,by go_num,o_,o_⟩
    case measure=>exact c_
theorem v0_ (s:ByteArray)(i:Nat)(w:World)(hs:s.size<=40)(hlt:i<s.size)(h1:θ s i≠40)(h2:θ s i≠91):
 Calls prog 147 #[.string s,.int .i64 (i:Int)] w fun e w'=>e= .returned (.int .i64 ((i+1:Nat):Int))/\w=w':=by
 have a:=cp_ hlt;rw[a]at h1 h2;have t40:((s[i].toNat:Int)==40)=false:=by simp only[bq_,ne_eq];omega
 have t91:((s[i].toNat:Int)==91)=false:=by simp only[bq_,ne_eq];omega
 clear h1 h2 a;go_enter func147,ntmps147;go_wp2_with fail;go_ret;exact⟨hu_ o_,rfl⟩
theorem aen_ (s:ByteArray)(i r:Nat)(w:World)(hs:s.size<=40)(hlt:i<s.size)(h1:θ s i=40)(hr:cx_ ((txt s).drop i) 0 i=r)(hr2:r<=40):
 Calls prog 147 #[.string s,.int .i64 (i:Int)] w fun e w'=>e= .returned (.int .i64 ((r+1:Nat):Int))/\w=w':=by
 have a:=cp_ hlt;rw[h1]at a;have t40:((s[i].toNat:Int)==40)=true:=by rw[<-a];rfl
 have b:=ael_ s i w hs o_;rw[hr]at b;clear h1 a hr;go_enter func147,ntmps147;go_wp2_with (go_at_call 174;refine b.mono ?_;rintro e w' ⟨rfl,rfl⟩);go_ret;exact⟨hu_ o_,rfl⟩
theorem aeo_ (s:ByteArray)(i k:Nat)(la:List Nat)(q:ζ)(w:World)(hs:s.size<=40)(h:dr_ k la q)(hsub:sub s i (i+la.length)=la)(hle:i+la.length<=s.size):
 Calls prog 147 #[.string s,.int .i64 (i:Int)] w fun e w'=>e= .returned (.int .i64 ((i+la.length:Nat):Int))/\w=w':=by
 have j:∀ {la:List Nat} {q:ζ},f9_ la q->sub s i (i+la.length)=la->i+la.length<=s.size->Calls prog 147 #[.string s,.int .i64 (i:Int)] w fun e w'=>e= .returned (.int .i64 ((i+la.length:Nat):Int))/\w=w':=by
  intro la q h hsub hle;rcases h with ⟨c,p,rfl,_⟩|⟨rfl,_⟩|⟨a,_,m,⟨rfl,_⟩|⟨rfl,_⟩⟩
  . have d:=j6_ hsub hle i_;exact v0_ s i w hs (by simp at hle;omega) o_ o_
  . have d:=j6_ hsub hle i_;exact v0_ s i w hs (by simp at hle;omega) o_ o_
  . have g:93∉a.flatMap Prt.text:=fun hm=>by have:=o1_ m 93 hm;omega
    have f:(91::a.flatMap Prt.text++ [93]:List Nat).length=(a.flatMap Prt.text).length+2:=i_;rw[f]at hsub hle ⊢;exact vz_ s i (a.flatMap Prt.text) w hs hsub hle g
  . have g:93∉94::a.flatMap Prt.text:=fun hm=>by
     rcases mc_.1 hm with h|h
     . omega
     . have:=o1_ m 93 h;omega
    have f:(91::94::a.flatMap Prt.text++ [93]:List Nat).length=(94::a.flatMap Prt.text).length+2:=i_;rw[f]at hsub hle ⊢;exact vz_ s i (94::a.flatMap Prt.text) w hs hsub hle g
 cases k with
 |zero=>exact j h hsub hle
 |succ k=>
  rcases h with h|⟨b,rfl,h⟩
  . exact j h hsub hle
  . have n:(40::b++ [41]).length=b.length+2:=i_;have d:θ s i=40:=j6_ (l:=b++ [41]) hsub hle o_;have o:cx_ ((txt s).drop i) 0 i=i+1+b.length:=by
     rw[aem_ (show i<=i+(40::b++ [41]).length by omega) hle,hsub];exact adt_ (va_ k) h i _
    have:=aen_ s i _ w hs o_ d o o_;rw[n];rw[show i+1+b.length+1=i+(b.length+2)by omega]at this;exact this
theorem aep_ (s:ByteArray)(i:Nat)(w:World)(hs:s.size<=40)(hi:i<=s.size)(h:i<s.size->θ s i≠42/\θ s i≠43/\θ s i≠63/\θ s i≠123):
 Calls prog 148 #[.string s,.int .i64 (i:Int)] w fun e w'=>e= .returned (.int .i64 (i:Int))/\w=w':=by
 by_cases c:i<s.size
 . have b:=cp_ c;have a:=h c;rw[b]at a;have d:¬(s.size:Int)<=(i:Int):=o_;have t42:((s[i].toNat:Int)==42)=false:=by simp only[bq_,ne_eq];omega
   have t43:((s[i].toNat:Int)==43)=false:=by simp only[bq_,ne_eq];omega
   have t63:((s[i].toNat:Int)==63)=false:=by simp only[bq_,ne_eq];omega
   have t123:((s[i].toNat:Int)==123)=false:=by simp only[bq_,ne_eq];omega
   clear h a b;go_enter func148,ntmps148;go_wp2_with fail;go_ret;exact⟨rfl,rfl⟩
 . have d:(s.size:Int)<=(i:Int):=o_;clear h;go_enter func148,ntmps148;go_wp2_with fail;go_ret;exact⟨rfl,rfl⟩
theorem rg_ (s:ByteArray)(i:Nat)(w:World)(hs:s.size<=40)(hlt:i<s.size)(h:θ s i=42\/θ s i=43\/θ s i=63):
 Calls prog 148 #[.string s,.int .i64 (i:Int)] w fun e w'=>e= .returned (.int .i64 ((i+1:Nat):Int))/\w=w':=by
 have a:=cp_ hlt;rw[a]at h;have b:¬(s.size:Int)<=(i:Int):=o_;rcases h with h|h|h
 . have t42:((s[i].toNat:Int)==42)=true:=by rw[h];rfl
   clear h a;go_enter func148,ntmps148;go_wp2_with fail;go_ret;exact⟨hu_ o_,rfl⟩
 . have t42:((s[i].toNat:Int)==42)=false:=by rw[h];rfl
   have t43:((s[i].toNat:Int)==43)=true:=by rw[h];rfl
   clear h a;go_enter func148,ntmps148;go_wp2_with fail;go_ret;exact⟨hu_ o_,rfl⟩
 . have t42:((s[i].toNat:Int)==42)=false:=by rw[h];rfl
   have t43:((s[i].toNat:Int)==43)=false:=by rw[h];rfl
   have t63:((s[i].toNat:Int)==63)=true:=by rw[h];rfl
   clear h a;go_enter func148,ntmps148;go_wp2_with fail;go_ret;exact⟨hu_ o_,rfl⟩
theorem rh_ (s:ByteArray)(i:Nat)(l:List Nat)(w:World)(hs:s.size<=40)(hsub:sub s i (i+(l.length+2))=123::l++ [125])(hle:i+(l.length+2)<=s.size)(hz:125∉l):
 Calls prog 148 #[.string s,.int .i64 (i:Int)] w fun e w'=>e= .returned (.int .i64 ((i+(l.length+2):Nat):Int))/\w=w':=by
 have c:=vy_ (l:=123::l) (z:=125) (i:=i) (s:=s) hsub hle (by simp[hz]);have f:θ s i=123:=j6_ hsub hle o_;simp only[length_cons]at c;have p:i<s.size:=o_;have a:=cp_ p;rw[f]at a;have q:¬(s.size:Int)<=(i:Int):=o_;have t42:((s[i].toNat:Int)==42)=false:=by rw[<-a];rfl
 have t43:((s[i].toNat:Int)==43)=false:=by rw[<-a];rfl
 have t63:((s[i].toNat:Int)==63)=false:=by rw[<-a];rfl
 have t123:((s[i].toNat:Int)==123)=true:=by rw[<-a];rfl
 have g:=α c;clear c hsub hz f a;go_enter func148,ntmps148;go_wp2_with fail;go_loop [1] (fun j'=>∃j:Nat,j'= .int .i64 (j:Int)/\i<=j/\j<=i+(l.length+1)) (fun j'=>100 - (intOf j').toNat)
 case atStart=>exact⟨i,rfl,ι,o_⟩
 case round=>
  obtain⟨j,rfl,m,n⟩:=hrel;clear t42 t43 t63 t123 q;have o:j<s.size:=o_;have d:=cp_ o;have b:=g.out j m n;rw[d]at b;by_cases e:j=i+(l.length+1)
  . have t93:((s[j].toNat:Int) !=125)=false:=by rw[b.2 e];rfl
    have k:=α e;clear b d e;go_wp2_with fail;go_ret;exact⟨hu_ (by rw[k.out];omega),rfl⟩
  . have t93:((s[j].toNat:Int) !=125)=true:=by
     have:s[j].toNat≠125:=fun h=>e (b.1 h)
     simp only[bne_iff_ne,ne_eq];omega
    clear b d;go_wp2_with fail;go_round
    case rel=>exact⟨j+1,by go_num,o_,o_⟩
    case measure=>exact c_
theorem aeq_ (s:ByteArray)(i:Nat)(m:Mk)(w:World)(hs:s.size<=40)(hm:m.ok)(hsub:sub s i (i+m.text.length)=m.text)(hle:i+m.text.length<=s.size)(hno:m= .none->i<s.size->θ s i≠42/\θ s i≠43/\θ s i≠63/\θ s i≠123):
 Calls prog 148 #[.string s,.int .i64 (i:Int)] w fun e w'=>e= .returned (.int .i64 ((i+m.text.length:Nat):Int))/\w=w':=by
 cases m with
 |none=>exact aep_ s i w hs (by have:i+0<=s.size:=hle;omega) (hno rfl)
 |star=>exact rg_ s i w hs (by simp[Mk.text]at hle;omega) (.inl (j6_ hsub hle (by simp[Mk.text])))
 |plus=>exact rg_ s i w hs (by simp[Mk.text]at hle;omega) (.inr (.inl (j6_ hsub hle (by simp[Mk.text]))))
 |opt=>exact rg_ s i w hs (by simp[Mk.text]at hle;omega) (.inr (.inr (j6_ hsub hle (by simp[Mk.text]))))
 |just n=>exact rh_ s i [48+n] w hs hsub hle (by have:n<=9:=hm;simp;omega)
 |more n=>exact rh_ s i [48+n,44] w hs hsub hle (by have:n<=9:=hm;simp;omega)
 |span n m=>exact rh_ s i [48+n,44,48+m] w hs hsub hle (by have:n<=m/\m<=9:=hm;simp;omega)
theorem ri_ (h:txt m=l):m.toList=l.map UInt8.ofNat:=by
 rw[ByteArray.toList_eq,<-h];unfold txt;rw[map_map];have:(UInt8.ofNat ∘ UInt8.toNat)=id:=by funext x;simp
 rw[this,map_id]
theorem g0_ (h:txt m=l)(hj:j<l.length):j<m.size/\θ m j=l.getD j 0:=by
 have b:m.size=l.length:=by rw[<-bm_,h]
 have:=m6_ (s:=m) (a:=j) o_;rw[h]at this;exact⟨o_,by rw[gd_,this];rfl⟩
theorem k2_ (mk:Mk)(m:ByteArray)(w:World)(hm:mk.ok)(h:txt m=mk.text):Calls prog 149 #[.string m] w fun e w'=>e= .returned (.tuple #[.int .i64 (mk.lo:Int),.int .i64 mk.hi])/\Bl w w':=by
 have a:=ri_ h;cases mk with
 |none=>
  simp only[Mk.text,List.map]at a;have d:m.toList.isEmpty=true:=by rw[a];rfl
  clear a h hm;go_enter func149,ntmps149;go_wp2_with fail;go_ret2;exact⟨rfl,μ⟩
 |star=>
  simp only[Mk.text,List.map]at a;have d:m.toList.isEmpty=false:=by rw[a];rfl
  have f:(m.toList==[42])=true:=by rw[a];rfl
  clear a h hm;go_enter func149,ntmps149;go_wp2_with fail;go_ret2;exact⟨rfl,μ⟩
 |plus=>
  simp only[Mk.text,List.map]at a;have d:m.toList.isEmpty=false:=by rw[a];rfl
  have f:(m.toList==[42])=false:=by rw[a];rfl
  have i:(m.toList==[43])=true:=by rw[a];rfl
  clear a h hm;go_enter func149,ntmps149;go_wp2_with fail;go_ret2;exact⟨rfl,μ⟩
 |opt=>
  simp only[Mk.text,List.map]at a;have d:m.toList.isEmpty=false:=by rw[a];rfl
  have f:(m.toList==[42])=false:=by rw[a];rfl
  have i:(m.toList==[43])=false:=by rw[a];rfl
  have l:(m.toList==[63])=true:=by rw[a];rfl
  clear a h hm;go_enter func149,ntmps149;go_wp2_with fail;go_ret2;exact⟨rfl,μ⟩
 |just n=>
  obtain⟨g,c⟩:=g0_ h (j:=1) (by simp[Mk.text]);have u:m.size=3:=by rw[<-bm_,h];rfl
  have b:m[1].toNat=48+n:=by rw[<-cp_ g,c];rfl
  simp only[Mk.text,List.map]at a;have d:m.toList.isEmpty=false:=by rw[a];rfl
  have f:(m.toList==[42])=false:=by rw[a];rfl
  have i:(m.toList==[43])=false:=by rw[a];rfl
  have l:(m.toList==[63])=false:=by rw[a];rfl
  have t:n<=9:=hm;have o:=α b;have v:((m[1].toNat:Int)- 48)=(n:Int):=by rw[b];omega
  have q:(48:Int)<=(m[1].toNat:Int):=by rw[b];omega
  have r:(m[1].toNat:Int)<=57:=by rw[b];omega
  clear a h c b;go_enter func149,ntmps149;go_wp2_with fail;go_ret2;exact⟨rfl,μ⟩
 |more n=>
  obtain⟨g,c⟩:=g0_ h (j:=1) (by simp[Mk.text]);have u:m.size=4:=by rw[<-bm_,h];rfl
  have b:m[1].toNat=48+n:=by rw[<-cp_ g,c];rfl
  simp only[Mk.text,List.map]at a;have d:m.toList.isEmpty=false:=by rw[a];rfl
  have f:(m.toList==[42])=false:=by rw[a];rfl
  have i:(m.toList==[43])=false:=by rw[a];rfl
  have l:(m.toList==[63])=false:=by rw[a];rfl
  have t:n<=9:=hm;have o:=α b;have v:((m[1].toNat:Int)- 48)=(n:Int):=by rw[b];omega
  have q:(48:Int)<=(m[1].toNat:Int):=by rw[b];omega
  have r:(m[1].toNat:Int)<=57:=by rw[b];omega
  clear a h c b;go_enter func149,ntmps149;go_wp2_with fail;go_ret2;exact⟨rfl,μ⟩
 |span n k=>
  obtain⟨g,c⟩:=g0_ h (j:=1) (by simp[Mk.text]);have u:m.size=5:=by rw[<-bm_,h];rfl
  have b:m[1].toNat=48+n:=by rw[<-cp_ g,c];rfl
  simp only[Mk.text,List.map]at a;have d:m.toList.isEmpty=false:=by rw[a];rfl
  have f:(m.toList==[42])=false:=by rw[a];rfl
  have i:(m.toList==[43])=false:=by rw[a];rfl
  have l:(m.toList==[63])=false:=by rw[a];rfl
  have t:n<=k/\k<=9:=hm;obtain⟨x,p⟩:=g0_ h (j:=3) (by simp[Mk.text]);have s:m[3].toNat=48+k:=by rw[<-cp_ x,p];rfl
  have y:((m[3].toNat:Int)- 48)=(k:Int):=by rw[s];omega
  have z:IntKind.u8.wrap ((m[3].toNat:Int)- 48)=(k:Int):=by rw[y,IntKind.wrap_u8];omega
  have A:IntKind.i64.wrap (k:Int)=(k:Int):=by rw[IntKind.wrap_i64];omega
  clear p s;have o:=α b;have v:((m[1].toNat:Int)- 48)=(n:Int):=by rw[b];omega
  have q:(48:Int)<=(m[1].toNat:Int):=by rw[b];omega
  have r:(m[1].toNat:Int)<=57:=by rw[b];omega
  clear a h c b;go_enter func149,ntmps149;go_wp2_with fail;go_quiet (fail);go_wp2_with fail;go_ret2;exact⟨rfl,below_drewN μ nq⟩
def id_ (l:List (ByteArray×ByteArray)):List Value:=l.flatMap fun x=> [.string x.1,.string x.2]
theorem aer_ (l:List (ByteArray×ByteArray))(x y:ByteArray):id_ l++ [.string x,.string y]=id_ (l++ [(x,y)]):=by simp[id_]
theorem aes_ (l:List (ByteArray×ByteArray))(k:Nat)(x:ByteArray×ByteArray)(h:l[k]? =some x):(id_ l)[k*2]? =some (.string x.1)/\(id_ l)[k*2+1]? =some (.string x.2):=by
 induction l generalizing k with
 |nil=>simp at h
 |cons q ps ih=>
  cases k with
  |zero=>simp at h;subst h;simp[id_]
  |succ k=>
   have:=ih k (by simpa using h);rw[show(k+1)*2=k*2+1+1 by omega];simpa [id_] using this
theorem aet_:(prog.info? 143).map (fun i=>(i.zero,i.size,i.bytes))=some (some (.agg #[.string ByteArray.empty,.string ByteArray.empty]),2,32):=k_
theorem o8_ {pre post:List Nat}(h:txt s=pre++l++post):sub s pre.length (pre.length+l.length)=l/\pre.length+l.length<=s.size:=by
 have a:s.size=pre.length+l.length+post.length:=by rw[<-bm_,h];simp only[Μ]
 refine⟨?_,o_⟩;unfold sub;rw[h,take_append_of_le_length i_,tk_ i_,drop_append_of_le_length o_,drop_of_length_le ι,nil_append]
def aeu_ (its:List Η)(w:World)(e:Ending)(w':World):Prop:=
 ∃(v:Value) (Ps:List (ByteArray×ByteArray)),e= .returned v/\Ps.map (fun x=>(txt x.1,txt x.2))=its.map (fun i=>(i.la,i.m.text))/\w'.ownsRow w.heap.size 143 2 v Ps.length (id_ Ps)/\Bl w w'
theorem rj_ {its:List Η}(hits:∀i∈its,dr_ k i.la i.q/\i.m.ok)(ht:txt s=its.flatMap Η.text)(hj:j<its.length):
 ∃it,its[j]? =some it/\dr_ k it.la it.q/\it.m.ok/\sub s ((its.take j).flatMap Η.text).length (((its.take j).flatMap Η.text).length+it.la.length)=it.la/\sub s (((its.take j).flatMap Η.text).length+it.la.length) (((its.take j).flatMap Η.text).length+it.la.length+it.m.text.length)=it.m.text/\
  ((its.take j).flatMap Η.text).length+it.la.length+it.m.text.length<=s.size/\((its.take (j+1)).flatMap Η.text).length=((its.take j).flatMap Η.text).length+it.la.length+it.m.text.length/\1<=it.la.length/\
  (it.m= .none->((its.take j).flatMap Η.text).length+it.la.length<s.size->θ s (((its.take j).flatMap Η.text).length+it.la.length)≠42/\θ s (((its.take j).flatMap Η.text).length+it.la.length)≠43/\θ s (((its.take j).flatMap Η.text).length+it.la.length)≠63/\θ s (((its.take j).flatMap Η.text).length+it.la.length)≠123):=by
 have v:its[j]∈its:=getElem_mem hj;obtain⟨h,w⟩:=hits _ v;have x:its=its.take j++its[j]::its.drop (j+1):=by rw[getElem_cons_drop,take_append_drop]
 have b:txt s=(its.take j).flatMap Η.text++its[j].la++(its[j].m.text++(its.drop (j+1)).flatMap Η.text):=by
  rw[ht];conv=>lhs;rw[x]
  rw[flatMap_append,flatMap_cons];simp[Η.text]
 obtain⟨o,E⟩:=o8_ b;obtain⟨f,g⟩:=o8_ (s:=s) (pre:=(its.take j).flatMap Η.text++its[j].la) (l:=its[j].m.text) (post:=(its.drop (j+1)).flatMap Η.text) (by rw[b];simp);rw[Μ]at f g;obtain⟨c,F,t,_⟩:=h.head;refine⟨its[j],by rw[ge_ hj],h,w,o,f,g, ?_,by rw[t];simp,fun hno hlt=> ?_⟩
 . rw[take_succ_eq_append_getElem hj,flatMap_append,Μ];simp only[flatMap_cons,flatMap_nil,append_nil,Η.text,Μ];omega
 . rw[hno]at b;simp only[Mk.text,nil_append]at b;have d:s.size=(txt s).length:=(bm_ s).symm;rw[b]at d;simp only[Μ]at d;cases hd:its.drop (j+1)with
   |nil=>rw[hd]at d;simp only[flatMap_nil,length_nil]at d;omega
   |cons y ys=>
    have z:y∈its:=mem_of_mem_drop (by rw[hd];simp);obtain⟨p,_⟩:=hits y z;obtain⟨n,G,u,A,B,C,D⟩:=p.head;rw[hd,flatMap_cons]at b;have r:θ s (((its.take j).flatMap Η.text).length+its[j].la.length)=n:=by
     have e:=m6_ (s:=s) (a:=((its.take j).flatMap Η.text).length+its[j].la.length) hlt;rw[b,getElem?_append_right (by rw[Μ];omega),Μ,Nat.sub_self,Η.text,u]at e;simp only[cons_append,getElem?_cons_zero,Δ]at e;exact e.symm
    rw[r];exact⟨A,B,C,D⟩
theorem v1_ (k:Nat)(s:ByteArray)(its:List Η)(w:World)(hs:s.size<=40)(hits:∀i∈its,dr_ k i.la i.q/\i.m.ok)(ht:txt s=its.flatMap Η.text):
 Calls prog 112 #[.string s] w (aeu_ its w):=by
 obtain⟨i0,W,ab,ac,ad⟩:=info_parts aet_;have P:=fun j (H:j<its.length)=>rj_ hits ht H
 have O:Hid ((its.flatMap Η.text).length=s.size):=by unfold Hid;rw[<-ht,bm_]
 clear hits ht;go_enter func112,ntmps112;go_wp2_with fail;go_loopw [3,4,5,6] (fun l' i' _ _ wr=>∃(j i:Nat) (b:List (ByteArray×ByteArray)),j<=its.length/\i'= .int .i64 (i:Int)/\Hid (((its.take j).flatMap Η.text).length=i)/\Hid (b.map (fun x=>(txt x.1,txt x.2))=(its.take j).map (fun i=>(i.la,i.m.text)))/\j<=i/\b.length=j/\wr.ownsRow w.heap.size 143 2 l' b.length (id_ b)/\Bl w wr) (fun _ i' _ _ _=>100 - (intOf i').toNat)
 case atStart=>exact⟨0,0,[],o_,rfl,by simp[Hid],by simp[Hid],o_,rfl,a8_,μ⟩
 case round=>
  obtain⟨j,i,b,H,rfl,p,r,al,K,o,n⟩:=hrel;by_cases Y:j<its.length
  . obtain⟨g,ς,G,I,h,d,t,l,h5,B⟩:=P j Y;rw[p.out]at h d t l B;have ak:(i:Int)<(s.size:Int):=o_;have F:=aeo_ s i k g.la g.q wr hs G h o_;have y:=aeq_ s (i+g.la.length) g.m wr hs I d t B;obtain⟨a,z⟩:=δ (i+g.la.length);rw[z.out]at F y h d t l;obtain⟨c,A⟩:=δ (a+g.m.text.length);rw[A.out]at y d t l;have am:i<a:=by rw[<-z.out];omega
    have an:a<=c:=by rw[<-A.out];omega
    have D:=lq_ s i a;have E:=lq_ s a c;rw[h]at D;rw[d]at E;have Q:Hid ((b++ [(s.extract i a,s.extract a c)]).map (fun x=>(txt x.1,txt x.2))=(its.take (j+1)).map (fun i=>(i.la,i.m.text))):=by
     unfold Hid;rw[map_append,r.out,take_add_one,map_append,ς];simp[D,E]
    have M:=α l;have ao:a<=s.size:=o_;have ah:(i:Int)<=(a:Int):=o_;have ai:(a:Int)<=(c:Int):=o_;have aj:(c:Int)<=(s.size:Int):=o_;have ap:=n.size;clear ς G I h d l B D E r p z A;obtain⟨e1,ae⟩:=δ (s.extract i a);obtain⟨e2,af⟩:=δ (s.extract a c);have aa:=o.alloc (.cells #[.string (s.extract i a),.string (s.extract a c)] 143);have v:=α n;have T:Hid (∀x,(u3:Value).ownBlock=some x->w.heap.size<=x):=fun x e=>(o.lt x e).1
    clear o n;go_wp2_with (first|(go_at_call 147;refine F.mono ?_;rintro e w' ⟨rfl,rfl⟩)|(go_at_call 148;refine y.mono ?_;rintro e w' ⟨rfl,rfl⟩));go_region_law
     ((refine step_append_lies _ (by rfl) _ _ _ (by rfl) w.heap.size 143 i0 (.agg #[.string ByteArray.empty,.string ByteArray.empty]) 2 32 underlying139 W ab ac ad rfl d_ u3 b.length (id_ b) (by rfl) aa ⟨wr.heap.size,0,none⟩ 1 1 [.string (s.extract i a),.string (s.extract a c)] (by rfl) (by rfl) (qj_ _ _ _) (by intro u L;simp at L;rcases L with rfl|rfl<;>rfl) d_ u_ o_ s_ (wr.heap.size+1) i_ ?_;intro g' ag w6 J f V Z;have S:=α J;have N:Hid (Bl w w6):=(v.out.alloc o_ _).grown ⟨f.os,f.tape,f.output,f.size,f.block⟩ s_ (fun x e=>T.out x e);clear V Z J f))
    all_goals
     go_wp2_with fail;go_roundw
     case rel=>
      have C:=S.out;rw[aer_]at C;exact⟨j+1,c,b++ [(s.extract i a,s.extract a c)],o_,rfl,M,Q,o_,s_,by rw[Μ];rw[K]at C ⊢;exact C,N.out⟩
     case measure=>exact c_
  . obtain rfl:j=its.length:=o_;have X:s.size=i:=by rw[<-O.out,<-p.out,tk_ ι]
    subst X;have hn:¬(s.size:Int)<(s.size:Int):=o_;have U:Hid (b.map (fun x=>(txt x.1,txt x.2))=its.map (fun i=>(i.la,i.m.text))):=by
     have:=r.out;rw[tk_ ι]at this;exact this
    have R:=α o;have v:=α n;clear r p o n K;go_wp2_with fail;go_ret;exact⟨_,b,rfl,U.out,R.out,v.out⟩
theorem aev_ (m:Mk)(hm:m.ok)(q:ζ):(m.app q).size<=q.size*10:=by
 cases m with
 |none=>show q.size<=_;omega
 |star=>show q.size*1<=_;omega
 |plus=>show q.size*2<=_;omega
 |opt=>show q.size*1<=_;omega
 |just n=>exact mul_le_mul_left _ (by have:n<=9:=hm;omega)
 |more n=>exact mul_le_mul_left _ (by have:n<=9:=hm;omega)
 |span n m=>exact mul_le_mul_left _ (by have:n<=m/\m<=9:=hm;omega)
def o9_ (A:List Nat->ζ->Prop)(B:Nat):Prop:=∀l p,A l p->p.size<=l.length*B
theorem aew_ {A:List Nat->ζ->Prop}(hA:o9_ A B){its:List Η}(h:∀i∈its,A i.la i.q/\i.m.ok):(its.map fun i=>i.pat.size).sum<=(its.flatMap Η.text).length*(B*10):=by
 induction its with
 |nil=>simp
 |cons i its ih=>
  have d:=ih (fun y hy=>h y (by simp[hy]));obtain⟨a,b⟩:=h i i_;have c:=hA _ _ a;have e:=aev_ i.m b i.q;simp only[map_cons,sum_cons,flatMap_cons,Μ,Nat.add_mul];have f:i.q.size*10<=i.la.length*(B*10):=by rw[<-Nat.mul_assoc];exact mul_le_mul_right _ c
  have g:i.la.length*(B*10)<=i.text.length*(B*10):=mul_le_mul_right _ (by simp[Η.text]);have j:i.pat.size=(i.m.app i.q).size:=rfl;omega
theorem hi_.size_le {A:List Nat->ζ->Prop}(hA:o9_ A B){p:ζ}(h:hi_ A l p):p.size<=l.length*(B*10):=by
 obtain⟨b,a,rfl,rfl⟩:=h;rw[ra_];simpa [ζ.size] using aew_ hA a
theorem gy_.size_le {A:List Nat->ζ->Prop}(hA:o9_ A B){p:ζ}(h:gy_ A l p):p.size<=l.length*(B*10):=by
 obtain⟨x,a,b,c,rfl,rfl⟩:=h;have d:=b.size_le hA;rw[vd_,Μ,Nat.add_mul];have f:(a.map fun y=>y.2.size).sum<=(ee_ a).length*(B*10):=by
  clear b d;induction a with
  |nil=>simp
  |cons y a ih=>
   have g:=ih (fun z hz=>c z (by simp[hz]));have i:=(c y i_).size_le hA;have e:(ee_ (y::a)).length=1+y.1.length+(ee_ a).length:=by simp[ee_];omega
   rw[e,map_cons,sum_cons,Nat.add_mul,Nat.add_mul];omega
 omega
theorem v2_ (k:Nat):o9_ (dr_ k) (10^k):=by
 have a:∀l p,f9_ l p->p.size=1/\1<=l.length:=by
  intro l p h;rcases h with ⟨c,d,rfl,rfl⟩|⟨rfl,rfl⟩|⟨f,_,b,⟨rfl,rfl⟩|⟨rfl,rfl⟩⟩
  . exact⟨rfl,i_⟩
  . exact⟨rfl,i_⟩
  . exact⟨rfl,i_⟩
  . exact⟨rfl,i_⟩
 induction k with
 |zero=>intro l p h;have:=a l p h;rw[this.1];simp;omega
 |succ k ih=>
  intro l p h;rcases h with h|⟨e,rfl,h⟩
  . have:=a l p h;rw[this.1];have:1<=10^(k+1):=Nat.pow_pos o_;exact Nat.le_trans o_ (Nat.mul_le_mul (show 1<=l.length by omega) this)
  . have:=h.size_le ih;rw[Nat.pow_succ];exact Nat.le_trans this (mul_le_mul_right _ s_)
theorem v3_ {p:ζ}(h:f9_ l p):p.size=1:=by
 rcases h with ⟨c,b,rfl,rfl⟩|⟨rfl,rfl⟩|⟨d,_,a,⟨rfl,rfl⟩|⟨rfl,rfl⟩⟩<;>rfl
theorem v4_ (hk:k<=6)(hn:n<=40):n*10^k<=40000000:=by
 have a:10^k<=10^6:=Nat.pow_le_pow_right o_ hk;have b:n*10^k<=40*10^6:=Nat.mul_le_mul hn a;omega
def rk_ (k:Nat):Prop:=∀(s:ByteArray) (p:ζ) (w:World),s.size<=40->gy_ (dr_ k) (txt s) p->Calls prog 71 #[.string s] w fun e w'=>e= .returned (.int .i64 (p.size:Int))/\Bl w w'
def rl_ (k:Nat):Prop:=∀(x y:ByteArray) (i:Η) (w:World),x.size<=40->dr_ k i.la i.q->i.m.ok->txt x=i.la->txt y=i.m.text->Calls prog 113 #[.agg #[.string x,.string y]] w fun e w'=>e= .returned (.int .i64 (i.pat.size:Int))/\Bl w w'
theorem pa_ {a b:Int}(ha:0<=a)(hb:0<=b)(ha2:a<=10)(hb2:b<=1000000000):wrap64 (a*b)=a*b:=by
 have c:a*b<=10*1000000000:=Int.mul_le_mul ha2 hb2 hb o_;have d:0<=a*b:=Int.mul_nonneg ha hb;unfold wrap64;omega
theorem v5_ (m:Mk)(hm:m.ok)(q:ζ):(∃h:Nat,m.hi=(h:Int)/\h<=9/\(m.app q).size=h*q.size)\/(m= .star/\(m.app q).size=q.size)\/(m.hi= -1/\m≠ .star/\m.lo<=9/\(m.app q).size=(m.lo+1)*q.size):=by
 cases m with
 |none=>exact .inl ⟨1,rfl,o_,by show q.size=_;omega⟩
 |star=>exact .inr (.inl ⟨rfl,by show q.size*1=_;omega⟩)
 |plus=>exact .inr (.inr ⟨rfl,i_,by show 1<=9;omega,by show q.size*2=(1+1)*q.size;omega⟩)
 |opt=>exact .inl ⟨1,rfl,o_,by show q.size*1=_;omega⟩
 |just n=>exact .inl ⟨n,rfl,hm,by show q.size*n=_;exact Nat.mul_comm _ _⟩
 |more n=>exact .inr (.inr ⟨rfl,i_,hm,by show q.size*(n+1)=(n+1)*q.size;exact Nat.mul_comm _ _⟩)
 |span n m=>exact .inl ⟨m,rfl,hm.2,by show q.size*m=_;exact Nat.mul_comm _ _⟩
def Mk.dU:Mk->Bool
 | .star=>true
 |_=>false
theorem v6_ {m:Mk}(h:m≠ .star):m.dU=false:=by cases m<;>first|rfl|exact absurd rfl h
theorem aex_ {m:Mk}(h:txt y=m.text):(y.toList==[42])=m.dU:=by
 have a:=ri_ h;cases m<;>simp only[Mk.text,List.map]at a<;>rw[a]<;>rfl
structure rm_ (x:ByteArray)(n:Nat):Prop where
 pos:1<=x.size
 sz:n<=40000000
 fz:(θ x 0≠40/\n=1)\/(θ x 0=40/\2<=x.size/\∀w,Calls prog 71 #[.string (x.extract 1 (x.size - 1))] w fun e w'=>e= .returned (.int .i64 (n:Int))/\Bl w w')
theorem rn_ (x y:ByteArray)(m:Mk)(n r:Nat)(w:World)(hx:x.size<=40)(hm:m.ok)(hy:txt y=m.text)(hn:rm_ x n)(hr:(∃h:Nat,m.hi=(h:Int)/\h<=9/\r=h*n)\/(m= .star/\r=n)\/(m.hi= -1/\m≠ .star/\m.lo<=9/\r=(m.lo+1)*n)):
 Calls prog 113 #[.agg #[.string x,.string y]] w fun e w'=>e= .returned (.int .i64 (r:Int))/\Bl w w':=by
 have o:=aex_ hy;obtain⟨W,j,B,N,z⟩:=ν w #[.string x,.string y] 143;obtain⟨f,g,_,_⟩:=β z;have P:=hn.pos;have O:=hn.sz;have F:=cp_ (s:=x) (a:=0) o_;obtain⟨hi,t⟩:=δ (m.hi);obtain⟨lo,u⟩:=δ (m.lo);rw[t.out,u.out]at hr;rcases hn.fz with ⟨E,rfl⟩|⟨E,Q,p⟩
 . have t40:((x[0].toNat:Int)==40)=false:=by rw[<-F];simp only[bq_,ne_eq];omega
   clear F E hn;rcases hr with ⟨h,rfl,J,rfl⟩|⟨rfl,rfl⟩|⟨rfl,C,K,rfl⟩
   . go_enter func113,ntmps113;go_upto_region 1 with fail;rw[<-j];clear j;have c:=k2_ _ y W hm hy;have i:Bl w W:=B;have d0:=z;rw[t.out,u.out]at c;clear o hm hy;go_wp2_with fail;refine c.mono ?_;clear c;rintro e l ⟨rfl,d⟩;have k:Bl w l:=i.trans (d.mono (by have:=i.size;have:=κ d0;omega));have f0:=(d.block _ (κ d0)).trans d0;clear f g;obtain⟨f,g,_,_⟩:=β f0;clear d;have A:=pa_ (a:=(h:Int)) (b:=(1:Int)) o_ o_ o_ o_;have I:(0:Int)<=(h:Int):=o_;go_wp2_with fail;go_ret;exact⟨hu_ (by first|(rw[A];simp)|simp),k⟩
   . go_enter func113,ntmps113;go_upto_region 1 with fail;rw[<-j];clear j;have c:=k2_ _ y W hm hy;have i:Bl w W:=B;have d0:=z;have v:=α o;simp only[show Mk.star.lo=0 from rfl,show Mk.star.hi= -1 from rfl,show((0:Nat):Int)=0 from rfl]at c;clear o hm hy t u;go_wp2_with fail;refine c.mono ?_;clear c;rintro e l ⟨rfl,d⟩;have k:Bl w l:=i.trans (d.mono (by have:=i.size;have:=κ d0;omega));have f0:=(d.block _ (κ d0)).trans d0;clear f g;obtain⟨f,g,_,_⟩:=β f0;clear d;have G:(y.toList==[42])=true:=v.out;go_wp2_with fail;go_ret;exact⟨rfl,k⟩
   . go_enter func113,ntmps113;go_upto_region 1 with fail;rw[<-j];clear j;have c:=k2_ _ y W hm hy;have i:Bl w W:=B;have d0:=z;have v:Hid ((y.toList==[42])=false):=by unfold Hid;rw[o];exact v6_ C
     rw[t.out,u.out]at c;clear o hm hy C;go_wp2_with fail;refine c.mono ?_;clear c;rintro e l ⟨rfl,d⟩;have k:Bl w l:=i.trans (d.mono (by have:=i.size;have:=κ d0;omega));have f0:=(d.block _ (κ d0)).trans d0;clear f g;obtain⟨f,g,_,_⟩:=β f0;clear d;have G:(y.toList==[42])=false:=v.out;have A:=pa_ (a:=(lo:Int)+1) (b:=(1:Int)) o_ o_ o_ o_;go_wp2_with fail;go_ret;exact⟨hu_ (by first|(rw[A];simp)|simp),k⟩
 . have t40:((x[0].toNat:Int)==40)=true:=by rw[<-F,E];rfl
   have p:=p W;have L:((x.size:Int)- 1)=((x.size - 1:Nat):Int):=o_;obtain⟨M,H⟩:=δ (x.size - 1);rw[H.out]at p L
   have R:M<=x.size:=by rw[<-H.out];omega
   clear F E hn;rcases hr with ⟨h,rfl,J,rfl⟩|⟨rfl,rfl⟩|⟨rfl,C,K,rfl⟩
   . go_enter func113,ntmps113;go_upto_region 1 with fail;rw[<-j];clear j;go_wp2_with fail;refine p.mono ?_;clear p;rintro e D ⟨rfl,q⟩;have i:=η B q;have d0:=(q.block _ o_).trans z;clear f g;obtain⟨f,g,_,_⟩:=β d0;have c:=k2_ _ y D hm hy;rw[t.out,u.out]at c;clear o hm hy;go_wp2_with fail;refine c.mono ?_;clear c;rintro e l ⟨rfl,d⟩;have k:Bl w l:=i.trans (d.mono (by have:=i.size;have:=κ d0;omega));have f0:=(d.block _ (κ d0)).trans d0;clear f g;obtain⟨f,g,_,_⟩:=β f0;clear d;have A:=pa_ (a:=(h:Int)) (b:=(n:Int)) o_ o_ o_ o_;have I:(0:Int)<=(h:Int):=o_;go_wp2_with fail;go_ret;exact⟨hu_ (by first|(rw[A];simp)|simp),k⟩
   . go_enter func113,ntmps113;go_upto_region 1 with fail;rw[<-j];clear j;go_wp2_with fail;refine p.mono ?_;clear p;rintro e D ⟨rfl,q⟩;have i:=η B q;have d0:=(q.block _ o_).trans z;clear f g;obtain⟨f,g,_,_⟩:=β d0;have c:=k2_ _ y D hm hy;have v:=α o;simp only[show Mk.star.lo=0 from rfl,show Mk.star.hi= -1 from rfl,show((0:Nat):Int)=0 from rfl]at c;clear o hm hy t u;go_wp2_with fail;refine c.mono ?_;clear c;rintro e l ⟨rfl,d⟩;have k:Bl w l:=i.trans (d.mono (by have:=i.size;have:=κ d0;omega));have f0:=(d.block _ (κ d0)).trans d0;clear f g;obtain⟨f,g,_,_⟩:=β f0;clear d;have G:(y.toList==[42])=true:=v.out;go_wp2_with fail;go_ret;exact⟨rfl,k⟩
   . go_enter func113,ntmps113;go_upto_region 1 with fail;rw[<-j];clear j;go_wp2_with fail;refine p.mono ?_;clear p;rintro e D ⟨rfl,q⟩;have i:=η B q;have d0:=(q.block _ o_).trans z;clear f g;obtain⟨f,g,_,_⟩:=β d0;have c:=k2_ _ y D hm hy;have v:Hid ((y.toList==[42])=false):=by unfold Hid;rw[o];exact v6_ C
     rw[t.out,u.out]at c;clear o hm hy C;go_wp2_with fail;refine c.mono ?_;clear c;rintro e l ⟨rfl,d⟩;have k:Bl w l:=i.trans (d.mono (by have:=i.size;have:=κ d0;omega));have f0:=(d.block _ (κ d0)).trans d0;clear f g;obtain⟨f,g,_,_⟩:=β f0;clear d;have G:(y.toList==[42])=false:=v.out;have A:=pa_ (a:=(lo:Int)+1) (b:=(n:Int)) o_ o_ o_ o_;go_wp2_with fail;go_ret;exact⟨hu_ (by first|(rw[A];simp)|simp),k⟩
theorem v7_ {p:ζ}(h:f9_ l p){x:ByteArray}(hx:txt x=l):rm_ x 1:=by
 have e:x.size=l.length:=by rw[<-bm_,hx]
 have b:∀c d,l=c::d->c≠40->rm_ x 1:=by
  intro c d a f;refine⟨by rw[e,a];simp,o_,.inl ⟨?_,rfl⟩⟩;have:=(g0_ hx (j:=0) (by rw[a];simp)).2;rw[this,a];exact f
 rcases h with ⟨c,a,rfl,_⟩|⟨rfl,_⟩|⟨i,_,g,⟨rfl,_⟩|⟨rfl,_⟩⟩
 . exact b _ _ rfl o_
 . exact b _ _ rfl o_
 . exact b _ _ rfl o_
 . exact b _ _ rfl o_
theorem aey_:rl_ 0:=by
 intro x y i w f a b c d;have e:i.q.size=1:=v3_ a;refine rn_ x y i.m 1 i.pat.size w f b d (v7_ a c) ?_;have:=v5_ i.m b i.q;rw[e]at this;exact this
theorem aez_ (k:Nat)(hk:k<6)(HS:rk_ k):rl_ (k+1):=by
 intro x y i w g b e a h;have f:=v5_ i.m e i.q;have p:=b;rcases b with b|⟨c,d,r⟩
 . have t:i.q.size=1:=v3_ b;rw[t]at f;exact rn_ x y i.m 1 i.pat.size w g e h (v7_ b a) f
 . have u:x.size=c.length+2:=by rw[<-bm_,a,d];simp
   have n:txt (x.extract 1 (x.size - 1))=c:=by
    rw[lq_];have:=(o8_ (s:=x) (pre:=[40]) (l:=c) (post:=[41]) (by rw[a,d];simp)).1;rw[u];simp only[ls_]at this;rw[show c.length+2 - 1=1+c.length by omega];exact this
   refine rn_ x y i.m i.q.size i.pat.size w g e h ⟨o_, ?_,.inr ⟨?_,o_,fun w=> ?_⟩⟩ f
   . have:=v2_ (k+1) _ _ p;have o:i.la.length<=40:=by rw[<-a,bm_];exact g
     have v:=v4_ (k:=k+1) o_ o;omega
   . have:=(g0_ a (j:=0) (by rw[d];simp)).2;rw[this,d];rfl
   . refine HS _ _ w ?_ (by rw[n];exact r);rw[<-bm_,n];omega
theorem v8_ (l:List Nat)(i:Nat)(h:i<l.length):(l.take (i+1)).sum=(l.take i).sum+l.getD i 0:=by
 rw[take_succ_eq_append_getElem h,sum_append,gd_,ge_ h];simp
theorem v9_ (l:List Nat)(i:Nat):(l.take i).sum<=l.sum:=by
 conv=>rhs;rw[<-take_append_drop i l]
 rw[sum_append];omega
structure ro_ (k:Nat)(s:ByteArray)(p:ζ)(x:List Nat×ζ)(xs:List (List Nat×ζ)):Prop where
 split:b5_ (txt s) 0 []=(x::xs).map (·.1)
 seq:∀y∈x::xs,hi_ (dr_ k) y.1 y.2
 len:∀y∈x::xs,y.1.length<=s.size
 pat:p=ht_ x.2 xs
theorem gy_.parts {p:ζ}(h:gy_ (dr_ k) (txt s) p):∃x xs,ro_ k s p x xs:=by
 obtain⟨x,xs,a,b,c,d⟩:=h;refine⟨x,xs,by rw[c];exact ads_ (va_ k) a b,fun y hy=> ?_,fun y hy=> ?_,d⟩
 . rcases mc_.1 hy with rfl|hy
   . exact a
   . exact b y hy
 . rw[<-bm_,c,Μ];rcases mc_.1 hy with rfl|hy
   . omega
   . have:y.1.length<=(ee_ xs).length:=by
      clear a b c d;rename_i hy0;clear hy0;induction xs with
      |nil=>simp at hy
      |cons z xs ih=>
       have e:(ee_ (z::xs)).length=1+z.1.length+(ee_ xs).length:=by simp[ee_];omega
       rcases mc_.1 hy with rfl|hy
       . omega
       . have:=ih hy;omega
     omega
theorem ro_.one {p:ζ}{x:List Nat×ζ}{xs:List (List Nat×ζ)}(h:ro_ k s p x xs){Ls:List ByteArray}(hL:Ls.map txt=(x::xs).map (·.1))(hi:i<(x::xs).length):
 ∃(y:ByteArray) (its:List Η),Ls[i]? =some y/\y.size<=s.size/\txt y=its.flatMap Η.text/\(∀j∈its,dr_ k j.la j.q/\j.m.ok)/\((x::xs).getD i ([],.none)).2=bv_ .none its:=by
 have c:i<Ls.length:=by have:=congrArg List.length hL;simp only[length_map]at this;omega
 have a:(Ls.map txt)[i]? =((x::xs).map (·.1))[i]? :=by rw[hL]
 rw[getElem?_map,getElem?_map,ge_ c,ge_ hi]at a;simp only[Option.map_some,Δ]at a;have b:(x::xs)[i]∈x::xs:=getElem_mem hi;obtain⟨its,d,e,f⟩:=h.seq _ b;refine⟨Ls[i],its,by rw[ge_ c], ?_,by rw[a,e],d, ?_⟩
 . rw[<-bm_ Ls[i],a];exact h.len _ b
 . rw[gd_,ge_ hi];exact f
theorem rp_ {Ls:List ByteArray}(hown:w.ownsRow base 9 1 (.slice ao n cap) Ls.length (Ζ Ls))(hy:Ls[i]? =some y):∃g,ao=some ⟨g,0,none⟩/\n=Ls.length/\base<=g/\g<w.heap.size/\w.cell? ⟨g,i,none⟩=some (.string y):=by
 have f:i<Ls.length:=(gs_.1 hy).1;obtain⟨d,e,a,b⟩:=Β hown;simp only[Value.slice.injEq]at a;obtain⟨rfl,rfl,rfl⟩:=a;obtain⟨g,rfl,c⟩:=b o_;refine⟨g,rfl,rfl,(hown.lt g rfl).1,(hown.lt g rfl).2,(c i o_).trans ?_⟩;simp[Ζ,hy]
theorem wa_ {Ps:List (ByteArray×ByteArray)}(hown:w.ownsRow base 143 2 (.slice ao n cap) Ps.length (id_ Ps)){y:ByteArray×ByteArray}(hy:Ps[i]? =some y):∃g,ao=some ⟨g,0,none⟩/\n=Ps.length/\base<=g/\g<w.heap.size/\w.cell? ⟨g,i*2,none⟩=some (.string y.1)/\w.cell? ⟨g,i*2+1,none⟩=some (.string y.2):=by
 have j:i<Ps.length:=(gs_.1 hy).1;obtain⟨f,h,b,e⟩:=Β hown;simp only[Value.slice.injEq]at b;obtain⟨rfl,rfl,rfl⟩:=b;obtain⟨g,rfl,a⟩:=e o_;obtain⟨c,d⟩:=aes_ Ps i y hy;exact⟨g,rfl,rfl,(hown.lt g rfl).1,(hown.lt g rfl).2,(a (i*2) o_).trans c,(a (i*2+1) o_).trans d⟩
theorem wb_ {its:List Η}(h:∀j∈its,dr_ k j.la j.q/\j.m.ok):its.length<=(its.flatMap Η.text).length:=by
 induction its with
 |nil=>simp
 |cons i its ih=>
  have b:=ih (fun y hy=>h y (by simp[hy]));obtain⟨c,d,a,_⟩:=(h i i_).1.head;rw[flatMap_cons,Μ,length_cons];have:1<=i.text.length:=by unfold Η.text;rw[a];simp
  omega
theorem wc_ {its:List Η}{Ps:List (ByteArray×ByteArray)}(hP:Ps.map (fun x=>(txt x.1,txt x.2))=its.map (fun i=>(i.la,i.m.text)))(hj:j<its.length):∃(y:ByteArray×ByteArray) (it:Η),Ps[j]? =some y/\its[j]? =some it/\txt y.1=it.la/\txt y.2=it.m.text:=by
 have b:j<Ps.length:=by have:=congrArg List.length hP;simp only[length_map]at this;omega
 have a:(Ps.map (fun x=>(txt x.1,txt x.2)))[j]? =(its.map (fun i=>(i.la,i.m.text)))[j]? :=by rw[hP]
 rw[getElem?_map,getElem?_map,ge_ b,ge_ hj]at a;simp only[Option.map_some,Δ,Prod.mk.injEq]at a;exact⟨Ps[j],its[j],by rw[ge_ b],by rw[ge_ hj],a.1,a.2⟩
theorem wd_ (k:Nat)(hk:k<=6)(HO:rl_ k):rk_ k:=by
 intro s p w hs f;have aH:p.size<=400000000:=by
  have Q:=f.size_le (v2_ k);rw[bm_]at Q;have h2:s.size*(10^k*10)<=400000000:=by
   have:=v4_ hk hs;rw[<-Nat.mul_assoc];omega
  omega
 obtain⟨x,C,G⟩:=f.parts;obtain⟨zs,E⟩:∃zs:List Nat,Hid ((x::C).map (fun y=>y.2.size)=zs):=⟨_,rfl⟩;have ap:p.size=zs.sum:=by
  rw[G.pat,vd_,<-E.out,map_cons,sum_cons]
 rw[ap]at aH ⊢;have aI:zs.length=(x::C).length:=by rw[<-E.out,length_map]
 have aC:Hid (∀i,i<(x::C).length->zs.getD i 0=((x::C).getD i ([],.none)).2.size):=by
  intro i hi;rw[<-E.out,gd_,gd_,getElem?_map,ge_ hi];rfl
 have c:=vw_ s w hs;unfold o7_ at c;rw[G.split]at c;have ay:=α G;obtain⟨B,D⟩:=δ ((x::C).length);rw[D.out]at aI;clear G f ap E;go_enter func71,ntmps71;go_wp2_with fail;refine c.mono ?_;clear c;rintro e w1 ⟨v,F,rfl,R,I,ad,aF⟩;obtain⟨ao,aD,rfl,_⟩:=Β I;have r:F.length=B:=by have:=congrArg List.length R;simp only[length_map]at this;rw[this];exact D.out
 rw[r]at I;have HL:=α R;have ax:Hid (w1.ownsRow w.heap.size 9 1 (.slice ao F.length aD) F.length (Ζ F)):=by unfold Hid;rw[r];exact I
 have aJ:=α r;have aS:B<=41:=o_;have aU:=ad.size;rw[r];clear R I r aF;go_wp2_with fail;go_loopw [3,5,6,7] (fun n' i' _ _ wr=>∃i:Nat,i<=B/\i'= .int .i64 (i:Int)/\n'= .int .i64 (((zs.take i).sum:Nat):Int)/\Bl w1 wr) (fun _ i' _ _ _=>100 - (intOf i').toNat)
 case atStart=>exact⟨0,o_,rfl,rfl,μ⟩
 case round=>
  obtain⟨i,hi,rfl,rfl,n⟩:=hrel;have aX:=n.size;by_cases ak:i<B
  . obtain⟨y,A,hy,aZ,J,t,an⟩:=ay.out.one HL.out (i:=i) (by rw[D.out];exact ak);obtain⟨g,rfl,_,aO,aG,hc⟩:=rp_ ax.out hy;have K:=aC.out i (by rw[D.out];exact ak);rw[an,ra_]at K;have d:=v8_ zs i o_;have W:=v9_ zs (i+1);obtain⟨S,N⟩:=δ ((zs.take i).sum);rw[N.out]at d;rw[N.out];have c0:wr.cell? ⟨g,i,none⟩=some (.string y):=(n.cell (p:=⟨g,i,none⟩) aG).trans hc;have c:=v1_ k y A wr o_ t J;obtain⟨b,P⟩:∃l:List Nat,Hid (A.map (fun i=>i.pat.size)=l):=⟨_,rfl⟩;rw[P.out]at K;have Y:b.length=A.length:=by rw[<-P.out,length_map]
    have ag:(zs.take (i+1)).sum=S+b.sum:=by rw[d,K];simp[ζ.size]
    have az:=α ag;have aY:S+b.sum<=400000000:=o_;have av:Hid (∀j (a:Η),A[j]? =some a->dr_ k a.la a.q/\a.m.ok/\b.getD j 0=a.pat.size/\a.la.length<=y.size):=by
     intro j a u;have hm:=mem_of_getElem? u;obtain⟨Q,h2⟩:=t a hm;refine⟨Q,h2,by rw[<-P.out,gd_,getElem?_map,u];rfl, ?_⟩;have:=rj_ t J (j:=j) (gs_.1 u).1;obtain⟨a0,U,_,_,_,_,h3,_⟩:=this;rw[u]at U;simp only[Δ]at U;subst U;omega
    have aQ:A.length<=y.size:=by have:=wb_ t;rw[<-J,bm_]at this;exact this
    clear hy J t an K d W ag N hc;go_wp2_with fail;refine c.mono ?_;clear c;rintro e w2 ⟨v2,Ps,rfl,f,V,ae⟩;obtain⟨aL,aM,rfl,_⟩:=Β V;have H:Ps.length=b.length:=by have:=congrArg List.length f;simp only[length_map]at this;omega
    have aw:=α V;have HP:=α f;obtain⟨L,M⟩:=δ (b.length);rw[M.out]at H Y;rw[H];have aE:=η n ae;have aV:=ae.size;have aT:L<=40:=o_;have aK:=α H;have aB:=α Y;clear f V c0 H Y;go_wp2_with fail;go_loopw [3,7] (fun n' j' wr=>∃j:Nat,j<=L/\j'= .int .i64 (j:Int)/\n'= .int .i64 ((S+(b.take j).sum:Nat):Int)/\Bl w2 wr) (fun _ j' _=>100 - (intOf j').toNat)
    case atStart=>exact⟨0,o_,rfl,i_,μ⟩
    case round=>
     obtain⟨j,u,rfl,rfl,h⟩:=hrel;have aW:=h.size;by_cases al:j<L
     . obtain⟨y2,a,au,ς,X,ar⟩:=wc_ HP.out (j:=j) (by rw[<-aB.out];exact al);obtain⟨g2,rfl,_,aP,aj,ah,ai⟩:=wa_ aw.out au;obtain⟨hA,am,aq,aR⟩:=av.out j a ς;have d:=v8_ b j (by rw[M.out];exact al);have W:=v9_ b (j+1);rw[aq]at d;have e1:=(h.cell (p:=⟨g2,j*2,none⟩) aj).trans ah;have e2:=(h.cell (p:=⟨g2,j*2+1,none⟩) aj).trans ai;have c:=HO y2.1 y2.2 a wr (by rw[<-bm_,X];omega) hA am X ar;obtain⟨iz,Z⟩:=δ (a.pat.size);rw[Z.out]at c d;obtain⟨T,O⟩:=δ ((b.take j).sum);rw[O.out]at d;rw[O.out];have aA:=α d;have aN:S+T+iz<=400000000:=o_;clear au ς hA am aq X ar d W ah ai O Z;go_wp2_with fail;refine c.mono ?_;clear c;rintro e w4 ⟨rfl,af⟩;have o:=η h af;clear e1 e2 af;go_wp2_with fail;go_roundw
       case rel=>exact⟨j+1,o_,by go_num,by rw[aA.out];go_num,o⟩
       case measure=>exact c_
     . obtain rfl:j=L:=o_;have aa:Hid ((b.take j).sum=b.sum):=by unfold Hid;rw[tk_ (by rw[M.out];omega)]
       rw[aa.out,<-az.out];have o:=η aE h;clear aa h;obtain⟨z,ac⟩:=δ ((zs.take (i+1)).sum);rw[ac.out];go_wp2_with fail;go_roundw
       case rel=>exact⟨i+1,o_,by go_num,by rw[ac.out],o⟩
       case measure=>exact c_
  . obtain rfl:i=B:=o_;have ab:Hid ((zs.take i).sum=zs.sum):=by unfold Hid;rw[tk_ o_]
    rw[ab.out];have o:=η ad n;clear n ab;go_wp2_with fail;go_ret;exact⟨rfl,o⟩
theorem pb_:∀k,k<=6->rk_ k
 |0,_=>wd_ 0 o_ aey_
 |k+1,hk=>wd_ (k+1) hk (aez_ k o_ (pb_ k o_))
theorem pc_ (h:w.heap[g]? =some (.cells (exC k S a b) t (0,0)))(hc:c<8)(v:Bool):(w.setCell ⟨g,1+c,none⟩ (.bool v)).heap[g]? =some (.cells (exC k (fun x=>if x=c then v else S x) a b) t (0,0)):=by
 rcases (show c=0\/c=1\/c=2\/c=3\/c=4\/c=5\/c=6\/c=7 by omega)with rfl|rfl|rfl|rfl|rfl|rfl|rfl|rfl<;>simp[World.setCell,Array.getElem?_modify,h,exC]
theorem ae0_ (a b:Value)(h:∀c,c<8->S c=S' c):exC k S a b=exC k S' a b:=by
 unfold exC;rw[h 0 o_,h 1 o_,h 2 o_,h 3 o_,h 4 o_,h 5 o_,h 6 o_,h 7 o_]
def e2_ (w:World)(g:Nat)(S:Nat->Bool):Prop:=w.heap[g]? =some (.cells (exC 1 S (.pointer none) (.pointer none)) 199 (0,0))
theorem e2_.congr (h:e2_ w g S)(e:∀c,c<8->S c=S' c):e2_ w g S':=by
 unfold e2_;rw[<-ae0_ _ _ e];exact h
theorem we_ (a:ByteArray)(b:Nat)(w:World)(ha:txt a=[b])(hb:b=46\/(97<=b/\b<=104)):
 Calls prog 154 #[.string a] w (j5_ (.one (fun c=>decide (c<8)&&(b==46||b==97+c))) w):=by
 have y:=ri_ ha;obtain⟨E,u⟩:=g0_ ha (j:=0) i_;have I:a.size=1:=by rw[<-bm_,ha];rfl
 have g:=cp_ E;rw[u]at g;simp only[getD_cons_zero]at g;have C:(a.toList==[46])=(b==46):=by
  rw[y];rcases hb with rfl|hb
  . rfl
  . have:(b==46)=false:=s_;rw[this];simp only[List.map];have D:UInt8.ofNat b≠46:=by
     intro e;have:=congrArg UInt8.toNat e;rw[UInt8.toNat_ofNat']at this;have F:(46:UInt8).toNat=46:=rfl;omega
    simp[D]
 obtain⟨W,f,A,-,-⟩:=ν w (exC 1 noS (.pointer none) (.pointer none)) 199;have t:e2_ W w.heap.size noS:=by rw[f];exact ο rfl
 unfold exC noS at f;simp only[show((1:Nat):Int)=1 from rfl]at f;have G:b<=104:=o_;clear y u ha;obtain⟨o,s⟩:=δ (b==46);rw[s.out]at C;go_enter func154,ntmps154;go_upto_region 2 with fail;rw[<-f];clear f;go_wp2_with fail;go_loopw [4] (fun c' wr=>∃c:Nat,c<=8/\c'= .int .i64 (c:Int)/\e2_ wr w.heap.size (fun x=>decide (x<c)&&(b==46||b==97+x))/\Bl w wr) (fun c' _=>8 - (intOf c').toNat)
 case atStart=>exact⟨0,o_,rfl,t.congr (fun c _=>by simp[noS]),A⟩
 case round=>
  obtain⟨c,H,rfl,d,h⟩:=hrel;clear t;by_cases z:c<8
  . obtain⟨L,M⟩:=lp_ d z;obtain⟨r,m⟩:=δ (97+c);have J:IntKind.i64.wrap (97+(c:Int))=(r:Int):=by rw[<-m.out,IntKind.wrap_i64];omega
    have K:IntKind.i64.wrap (a[0].toNat:Int)=(a[0].toNat:Int):=by rw[<-g,IntKind.wrap_i64];omega
    obtain⟨q,l⟩:=δ (b==r);have t1:((a[0].toNat:Int)==(r:Int))=q:=by
     rw[<-l.out,<-g,Bool.eq_iff_iff];simp;omega
    have n:=α d;have k:=α h;clear d h;have B:Hid (∀i:World,i=wr->∀v,v=(o||q)->e2_ (i.setCell ⟨w.heap.size,1+c,none⟩ (.bool v)) w.heap.size (fun x=>decide (x<c+1)&&(b==46||b==97+x))/\Bl w (i.setCell ⟨w.heap.size,1+c,none⟩ (.bool v))):=by
     intro i e v hv;subst e hv;refine⟨?_,k.out.setCell (p:=⟨w.heap.size,1+c,none⟩) ι _⟩;refine e2_.congr (pc_ n.out z (o||q)) (fun x _=> ?_);by_cases e:x=c
     . subst e;simp[s.out,<-l.out,<-m.out]
     . simp only[e,if_false];have:decide (x<c+1)=decide (x<c):=by rw[decide_eq_decide];omega
       rw[this]
    clear m l g;cases o
    all_goals
     go_wp2_with fail;go_region
     all_goals
      go_wp2_with fail;go_roundw
      case rel=>
       obtain⟨f1,f2⟩:=B.out wr rfl _ rfl;exact⟨c+1,o_,by go_num,f1,f2.drew⟩
      case measure=>exact c_
  . obtain rfl:c=8:=o_;have n:=α d;have k:=α h;clear d h;go_wp2_with fail;go_ret;exact⟨_,rfl,n.out,k.out⟩
def nd_ (c:Nat)(l:List Nat):Nat:=match l with
 |45::d::_=>d
 |_=>c
def ep_:List Nat->Nat->Bool
 | [],_=>false
 |c::l,x=>(σ c&&decide (c<=97+x)&&decide (97+x<=nd_ c l))||ep_ l x
def okL:List Nat->Prop
 | []=>True
 |c::l=>(σ c=true->(∃d r,l=45::d::r/\σ d=true)\/(∃e r,l=e::r/\e≠45))/\okL l
theorem rq_ {e:Nat}{r:List Nat}(h:e≠45):nd_ c (e::r)=c:=by
 unfold nd_;split
 . rename_i heq;simp at heq;exact absurd heq.1 h
 . rfl
theorem wf_ {ps:List Prt}(h:∀x∈ps,x.ok):∃e r,ps.flatMap Prt.text++ [93]=e::r/\e≠45:=by
 cases ps with
 |nil=>exact⟨93,[],rfl,o_⟩
 |cons q ps=>
  rw[flatMap_cons];unfold Prt.text;cases q.dash
  . exact⟨97+q.f,_,rfl,o_⟩
  . exact⟨97+q.f,_,rfl,o_⟩
theorem pd_ {f:Nat}(h:f<8):σ (97+f)=true:=ja_.2 o_
theorem wg_ {ps:List Prt}(h:∀x∈ps,x.ok)(x:Nat)(hx:x<8):ep_ (ps.flatMap Prt.text++ [93]) x=ps.any (fun q=>decide (q.f<=x)&&decide (x<=q.g)):=by
 induction ps with
 |nil=>simp[ep_,σ]
 |cons q ps ih=>
  obtain⟨c,l,m,o⟩:=h q i_;have b:∀y∈ps,y.ok:=fun y hy=>h y (by simp[hy])
  have n:=ih b;obtain⟨e,r,d,i⟩:=wf_ b;rw[any_cons,<-n,flatMap_cons];cases hd:q.dash
  . have a:Prt.text q=[97+q.f]:=by unfold Prt.text;rw[hd];rfl
    rw[a];simp only[cons_append,nil_append,ep_];rw[d,rq_ i,pd_ c,m hd,Bool.true_and];congr 2
    . rw[decide_eq_decide];omega
    . rw[decide_eq_decide];omega
  . have a:Prt.text q=[97+q.f,45,97+q.g]:=by unfold Prt.text;rw[hd];rfl
    rw[a];simp only[cons_append,nil_append,ep_];rw[d,rq_ i,pd_ c,pd_ l,Bool.true_and,Bool.true_and];have j:nd_ (97+q.f) (45::(97+q.g)::e::r)=97+q.g:=rfl;have k:σ 45=false:=rfl;rw[j,k,Bool.false_and,Bool.false_and,Bool.false_or];rw[Bool.eq_iff_iff];simp only[Bool.or_eq_true,Bool.and_eq_true,decide_eq_true_eq];constructor
    . rintro(h|h|h)
      . exact .inl o_
      . exact .inl o_
      . exact .inr h
    . rintro(h|h)
      . exact .inl o_
      . exact .inr (.inr h)
theorem wh_ {ps:List Prt}(h:∀x∈ps,x.ok):okL (ps.flatMap Prt.text++ [93]):=by
 induction ps with
 |nil=>exact⟨fun h=>by simp[σ]at h,trivial⟩
 |cons q ps ih=>
  obtain⟨k,j,l,m⟩:=h q i_;have b:∀y∈ps,y.ok:=fun y hy=>h y (by simp[hy])
  have i:=ih b;obtain⟨e,r,c,d⟩:=wf_ b;rw[flatMap_cons];cases hd:q.dash
  . have a:Prt.text q=[97+q.f]:=by unfold Prt.text;rw[hd];rfl
    rw[a];exact⟨fun _=> .inr ⟨e,r,by simpa using c,d⟩,by simpa using i⟩
  . have a:Prt.text q=[97+q.f,45,97+q.g]:=by unfold Prt.text;rw[hd];rfl
    rw[a];refine⟨fun _=> .inl ⟨97+q.g,_,rfl,pd_ j⟩,fun h=>by simp[σ]at h,fun _=> .inr ⟨e,r,by simpa using c,d⟩,by simpa using i⟩
theorem wi_ (N:Nat->Bool)(ps:List Prt)(x:Nat):ln_ N ps x=(N x||ps.any (fun q=>decide (q.f<=x)&&decide (x<=q.g))):=by
 induction ps generalizing N with
 |nil=>simp[ln_]
 |cons q ps ih=>
  show ln_ (f7_ N q.f q.g) ps x=_
  rw[ih,any_cons];unfold f7_;rw[Bool.or_assoc]
theorem ae1_ (h:okL l)(i:Nat):okL (l.drop i):=by
 induction i generalizing l with
 |zero=>exact h
 |succ i ih=>
  cases l with
  |nil=>trivial
  |cons c l=>exact ih h.2
theorem wj_ (a:ByteArray)(l:List Nat)(ng:Bool)(w:World)(hs:a.size<=40)(ha:txt a=91::l)(h2:2<=a.size)(hng:(θ a 1==94)=ng)(hok:okL l):
 Calls prog 154 #[.string a] w (j5_ (.one (fun c=>decide (c<8)&&(if ep_ l c then !ng else ng))) w):=by
 have T:(txt a).drop 1=l:=by rw[ha];rfl
 have aa:=cp_ (s:=a) (a:=1) o_;have t94:((a[1].toNat:Int)==94)=ng:=by
  rw[<-hng,aa,Bool.eq_iff_iff];simp;omega
 have au:¬((a.size:Int)=1):=o_;have av:((a.size:Int)==1)=false:=s_;obtain⟨W,I,BW,-,-⟩:=ν w (exC 1 noS (.pointer none) (.pointer none)) 199;have Y:e2_ W w.heap.size noS:=by rw[I];exact ο rfl
 unfold exC noS at I;simp only[show((1:Nat):Int)=1 from rfl]at I;have am:Hid (∀i,okL ((txt a).drop (1+i))):=fun i=>by
  rw[<-drop_drop,T];exact ae1_ hok i
 have al:=α T;clear aa hng ha hok T;go_enter func154,ntmps154;go_upto_region 2 with fail;rw[<-I];clear I;go_wp2_with fail;go_loopw [6] (fun c' wr=>∃c:Nat,c<=8/\c'= .int .i64 (c:Int)/\e2_ wr w.heap.size (fun x=>if x<c then ng else false)/\Bl w wr) (fun c' _=>8 - (intOf c').toNat)
 case atStart=>exact⟨0,o_,rfl,Y.congr (fun c _=>by simp[noS]),BW⟩
 case round=>
  obtain⟨c,hc,rfl,f,g⟩:=hrel;clear Y t94 au av;by_cases ah:c<8
  . obtain⟨x1,x2⟩:=lp_ f ah;have t:=α f;have n:=α g;clear f g;go_wp2_with fail;go_roundw
    case rel=>
     refine⟨c+1,o_,by go_num,e2_.congr (pc_ t.out ah ng) (fun x _=> ?_),n.out.setCell (p:=⟨w.heap.size,1+c,none⟩) ι _⟩;by_cases e:x=c
     . subst e;simp
     . simp only[e,if_false];by_cases X:x<c
       . rw[if_pos X,if_pos o_]
       . rw[if_neg X,if_neg o_]
    case measure=>exact c_
  . obtain rfl:c=8:=o_;have Z:e2_ wr w.heap.size (fun x=>if (fun _=>false:Nat->Bool) x then !ng else ng):=f.congr (fun x A=>by simp[A]);clear f;go_wp2_with fail;go_loopw [7,8,9,10] (fun i' _ _ _ wr=>∃(i:Nat) (C:Nat->Bool),1<=i/\i<=a.size/\i'= .int .i64 (i:Int)/\Hid (∀x,x<8->(C x||ep_ ((txt a).drop i) x)=ep_ l x)/\e2_ wr w.heap.size (fun x=>if C x then !ng else ng)/\Bl w wr) (fun i' _ _ _ _=>100 - (intOf i').toNat)
    case atStart=>exact⟨1,fun _=>false,ι,o_,rfl,by unfold Hid;intro x _;rw[al.out];simp,Z,g⟩
    case round=>
     clear Z g;obtain⟨i,C,aC,aD,rfl,q,f,g⟩:=hrel;by_cases ai:i<a.size
     . have ar:(i:Int)<(a.size:Int):=o_;have N:=lr_ ai;have Q:=cp_ ai;have ad:=q6_ a i;have o:=fun w=>c9_ (θ a i) w ad
       have K:=am.out (i - 1);rw[show 1+(i - 1)=i by omega,N]at K;obtain⟨u,L⟩:=δ (θ a i);have y:a[i].toNat=u:=by rw[<-Q];exact L.out
       rw[N]at q;rw[L.out]at o q K ad;cases hn:σ u
       . have H:Hid (∀x,x<8->(C x||ep_ ((txt a).drop (i+1)) x)=ep_ l x):=by
          intro x A;have:=q.out x A;simp only[ep_,hn,Bool.false_and,Bool.false_or]at this;exact this
         rw[hn]at o;rw[<-y]at o;have t:=α f;have n:=α g;clear hn y Q L N q K f g;go_wp2_with (go_at_call 146;refine(o _).mono ?_;rintro e w' ⟨rfl,rfl⟩);go_roundw
         case rel=>exact⟨i+1,C,o_,o_,by go_num,H,t.out,n.out⟩
         case measure=>exact c_
       . have ak:=ja_.1 hn;rw[hn]at o;have ax:∃(G:Bool) (B:Nat),i+1<a.size/\(θ a (i+1)==45)=G/\(G=true->i+2<a.size/\θ a (i+2)=B)/\(G=false->B=u)/\97<=B/\B<=104/\nd_ u ((txt a).drop (i+1))=B:=by
          rcases K.1 hn with ⟨d,r,z,aq⟩|⟨e,r,z,aj⟩
          . have F:i+1<a.size:=by
             have:=congrArg List.length z;rw[length_drop,bm_]at this;simp at this;omega
            have O:i+2<a.size:=by
             have:=congrArg List.length z;rw[length_drop,bm_]at this;simp at this;omega
            have v:=z;rw[lr_ F,lr_ O]at v;simp only[List.cons.injEq]at v;have af:=ja_.1 aq;exact⟨true,d,F,by rw[v.1];rfl,fun _=>⟨O,v.2.1⟩,fun h=>by simp at h,af.1,af.2,by rw[z];rfl⟩
          . have F:i+1<a.size:=by
             have:=congrArg List.length z;rw[length_drop,bm_]at this;simp at this;omega
            have v:=z;rw[lr_ F]at v;simp only[List.cons.injEq]at v;exact⟨false,u,F,by rw[v.1];simpa using aj,fun h=>by simp at h,fun _=>rfl,ak.1,ak.2,by rw[z];exact rq_ aj⟩
         obtain⟨G,B,F,ae,V,U,aE,aF,ag⟩:=ax;have H:Hid (∀x,x<8->((C x||(decide (u - 97<=x)&&decide (x<B - 97+1)))||ep_ ((txt a).drop (i+1)) x)=ep_ l x):=by
          intro x A;have:=q.out x A;simp only[ep_,hn,ag,Bool.true_and]at this;rw[<-this,Bool.or_assoc];congr 2
          rw[Bool.eq_iff_iff];simp;omega
         have ac:=cp_ F;have t45:((a[i+1].toNat:Int)==45)=G:=by
          rw[<-ae,ac,Bool.eq_iff_iff];simp;omega
         rw[<-y]at o;have aw:((a[i].toNat:Int)- 97)=((u - 97:Nat):Int):=by rw[y];omega
         have aA:(97:Int)<=(a[i].toNat:Int):=by rw[y];omega
         have az:(a[i].toNat:Int)<=104:=by rw[y];omega
         have t:=α f;have n:=α g;obtain⟨b,P⟩:=δ (u - 97);obtain⟨k,M⟩:=δ (B - 97);rw[P.out,M.out]at H;rw[P.out]at aw
         have aB:k<8:=by rw[<-M.out];omega
         have ay:=α y;clear hn Q L N q K f g ag ae ac y;cases G
         . obtain rfl:=U rfl;obtain rfl:b=k:=by rw[<-P.out,<-M.out]
           clear V U;go_wp2_with (go_at_call 146;refine(o _).mono ?_;rintro e w' ⟨rfl,rfl⟩);go_loopw [10] (fun c' wr=>∃c:Nat,b<=c/\(c<=b+1\/c=b)/\c'= .int .i64 (c:Int)/\e2_ wr w.heap.size (fun x=>if (C x||(decide (b<=x)&&decide (x<c)))then !ng else ng)/\Bl w wr) (fun c' _=>20 - (intOf c').toNat)
           case atStart=>
            refine⟨b,ι,.inr rfl,rfl,t.out.congr (fun x _=> ?_),n.out⟩;have:(decide (b<=x)&&decide (x<b))=false:=i_;rw[this,Bool.or_false]
           case round=>
            obtain⟨c,an,ao,rfl,j,m⟩:=hrel;by_cases ap:c<=b
            . have S:(c:Int)<=(b:Int):=o_;have J:c<8:=o_;obtain⟨x1,x2⟩:=lp_ j J;have E:=α j;have D:=α m;clear j m;go_wp2_with fail;go_roundw
              case rel=>
               refine⟨c+1,o_,o_,by go_num,e2_.congr (pc_ E.out J (!ng)) (fun x _=> ?_),D.out.setCell (p:=⟨w.heap.size,1+c,none⟩) ι _⟩;by_cases e:x=c
               . subst e;have:(decide (b<=x)&&decide (x<x+1))=true:=s_;simp only[if_true,this,Bool.or_true]
               . simp only[e,if_false];have:decide (x<c+1)=decide (x<c):=by rw[decide_eq_decide];omega
                 rw[this]
              case measure=>exact c_
            . have S:¬(c:Int)<=(b:Int):=o_;have E:Hid (e2_ wr w.heap.size (fun x=>if (C x||(decide (b<=x)&&decide (x<b+1)))then !ng else ng)):=j.congr (fun x _=>by
               have:(decide (b<=x)&&decide (x<c))=(decide (b<=x)&&decide (x<b+1)):=by rw[Bool.eq_iff_iff];simp;omega
               rw[this])
              have D:=α m;clear j m;go_wp2_with fail;go_roundw
              case rel=>exact⟨i+1,fun x=>C x||(decide (b<=x)&&decide (x<b+1)),o_,o_,by go_num,H,E.out,D.out⟩
              case measure=>exact c_
         . obtain⟨O,ab⟩:=V rfl;have R:=cp_ O;rw[ab]at R;have aG:((a[i+2].toNat:Int)- 97)=(k:Int):=by rw[<-R,<-M.out];omega
           clear V U ab R;go_wp2_with (go_at_call 146;refine(o _).mono ?_;rintro e w' ⟨rfl,rfl⟩);go_loopw [10] (fun c' wr=>∃c:Nat,b<=c/\(c<=k+1\/c=b)/\c'= .int .i64 (c:Int)/\e2_ wr w.heap.size (fun x=>if (C x||(decide (b<=x)&&decide (x<c)))then !ng else ng)/\Bl w wr) (fun c' _=>20 - (intOf c').toNat)
           case atStart=>
            refine⟨b,ι,.inr rfl,rfl,t.out.congr (fun x _=> ?_),n.out⟩;have:(decide (b<=x)&&decide (x<b))=false:=i_;rw[this,Bool.or_false]
           case round=>
            obtain⟨c,an,ao,rfl,j,m⟩:=hrel;by_cases ap:c<=k
            . have S:(c:Int)<=(k:Int):=o_;have J:c<8:=o_;obtain⟨x1,x2⟩:=lp_ j J;have E:=α j;have D:=α m;clear j m;go_wp2_with fail;go_roundw
              case rel=>
               refine⟨c+1,o_,o_,by go_num,e2_.congr (pc_ E.out J (!ng)) (fun x _=> ?_),D.out.setCell (p:=⟨w.heap.size,1+c,none⟩) ι _⟩;by_cases e:x=c
               . subst e;have:(decide (b<=x)&&decide (x<x+1))=true:=s_;simp only[if_true,this,Bool.or_true]
               . simp only[e,if_false];have:decide (x<c+1)=decide (x<c):=by rw[decide_eq_decide];omega
                 rw[this]
              case measure=>exact c_
            . have S:¬(c:Int)<=(k:Int):=o_;have E:Hid (e2_ wr w.heap.size (fun x=>if (C x||(decide (b<=x)&&decide (x<k+1)))then !ng else ng)):=j.congr (fun x _=>by
               have:(decide (b<=x)&&decide (x<c))=(decide (b<=x)&&decide (x<k+1)):=by rw[Bool.eq_iff_iff];simp;omega
               rw[this])
              have D:=α m;clear j m;go_wp2_with fail;go_roundw
              case rel=>exact⟨i+1,fun x=>C x||(decide (b<=x)&&decide (x<k+1)),o_,o_,by go_num,H,E.out,D.out⟩
              case measure=>exact c_
     . have ar:¬(i:Int)<(a.size:Int):=o_;obtain rfl:i=a.size:=o_;have t:Hid (Τ wr w.heap.size (.one (fun c=>decide (c<8)&&(if ep_ l c then !ng else ng)))):=by
        refine e2_.congr f (fun x A=> ?_);have:=q.out x A;rw[rf_]at this;simp only[ep_,Bool.or_false]at this;rw[this];simp[A]
       have n:=α g;clear f g q;go_wp2_with fail;go_ret;exact⟨_,rfl,t.out,n.out⟩
def Ex.dep:Ex->Nat
 | .nil=>0
 | .one _=>0
 | .star a=>a.dep+1
 | .thn a b=>max a.dep b.dep+1
 | .alt a b=>max a.dep b.dep+1
def ζ.wt:ζ->Nat
 | .none=>1
 | .one _=>10
 | .chain a b=>a.wt+b.wt+3
 | .alt a b=>a.wt+b.wt+3
 | .rep a lo hi en=>if en then(lo+1)*(a.wt+3)else hi*(a.wt+7)+1
def ζ.dp:ζ->Nat
 | .none=>0
 | .one _=>0
 | .chain a b=>a.dp+b.dp+1
 | .alt a b=>a.dp+b.dp+1
 | .rep a _ _ _=>a.dp+20
theorem wk_ (S:Nat->Bool)(n:Nat):(eo_ S n).length<=n:=by
 induction n with
 |zero=>simp[eo_]
 |succ n ih=>
  simp only[eo_];split
  . rw[Μ,ls_];omega
  . omega
theorem ae2_ (S:Nat->Bool):(Ex.one S).nm.length<=10:=by
 have:=wk_ S 8;simp[Ex.nm];omega
theorem ae3_ (e:Ex):1<=e.nm.length:=by cases e<;>simp[Ex.nm]
theorem rr_ (a b:Ex):(Ex.thn a b).nm.length=a.nm.length+b.nm.length+3:=by simp[Ex.nm];omega
theorem rs_ (a b:Ex):(Ex.alt a b).nm.length=a.nm.length+b.nm.length+3:=by simp[Ex.nm];omega
theorem rt_ (a:Ex):(Ex.star a).nm.length=a.nm.length+3:=by simp[Ex.nm]
theorem ne_ (a b:Ex):(a.cF b).nm.length<=a.nm.length+b.nm.length+3:=by
 unfold Ex.cF;split
 . omega
 . split
   . omega
   . rw[rr_];omega
theorem wl_ (a b:Ex):(a.di b).nm.length<=a.nm.length+b.nm.length+3:=by
 unfold Ex.di;split
 . omega
 . rw[rs_];omega
theorem ae4_ (a:Ex):a.cK.nm.length<=a.nm.length+3:=by
 unfold Ex.cK;split
 . omega
 . rw[rt_];omega
theorem wm_ (x e:Ex)(n:Nat):(x.cO e n).nm.length<=n*(x.nm.length+3)+e.nm.length:=by
 induction n with
 |zero=>simp[Ex.cO]
 |succ n ih=>have:=ne_ x (x.cO e n);simp only[Ex.cO];rw[succ_mul];omega
theorem ae5_ (x:Ex)(n:Nat):(x.opts n).nm.length<=n*(x.nm.length+7)+1:=by
 induction n with
 |zero=>simp[Ex.opts,Ex.nm]
 |succ n ih=>
  have a:=ne_ x (x.opts n);have b:=wl_ .nil (x.cF (x.opts n));have c:(Ex.nil).nm.length=1:=rfl;simp only[Ex.opts];rw[succ_mul];omega
theorem ru_ (a b:Ex):(a.cF b).dep<=max a.dep b.dep+1:=by
 unfold Ex.cF;split
 . omega
 . split
   . omega
   . simp[Ex.dep]
theorem wn_ (a b:Ex):(a.di b).dep<=max a.dep b.dep+1:=by
 unfold Ex.di;split
 . omega
 . simp[Ex.dep]
theorem ae6_ (a:Ex):a.cK.dep<=a.dep+1:=by
 unfold Ex.cK;split
 . omega
 . simp[Ex.dep]
theorem wo_ (x e:Ex)(n:Nat):(x.cO e n).dep<=max x.dep e.dep+n:=by
 induction n with
 |zero=>simp[Ex.cO];omega
 |succ n ih=>have:=ru_ x (x.cO e n);simp only[Ex.cO];omega
theorem ae7_ (x:Ex)(n:Nat):(x.opts n).dep<=x.dep+2*n:=by
 induction n with
 |zero=>simp[Ex.opts,Ex.dep]
 |succ n ih=>
  have a:=ru_ x (x.opts n);have b:=wn_ .nil (x.cF (x.opts n));have c:(Ex.nil).dep=0:=rfl;simp only[Ex.opts];omega
theorem wp_ (x:Ex):x.cR 1 1=x:=by
 have:=m9_ (x:=x) (lo:=1) (hi:=1) o_;rw[show((1:Nat):Int)=1 from rfl]at this;rw[this];show x.cF .nil=x
 unfold Ex.cF;cases x<;>simp[Ex.isNil]
theorem ae8_ (x:Ex)(q:ζ)(h:x.nm.length<=q.wt)(m:Mk)(hm:m.ok):(x.cR m.lo m.hi).nm.length<=(m.app q).wt:=by
 have star:∀lo:Nat,(x.cR lo (-1)).nm.length<=(lo+1)*(q.wt+3):=by
  intro lo;rw[o2_];have h1:=wm_ x x.cK lo;have h2:=ae4_ x;have h3:lo*(x.nm.length+3)<=lo*(q.wt+3):=mul_le_mul_left _ o_;rw[succ_mul];omega
 have span:∀lo hi:Nat,lo<=hi->(x.cR lo hi).nm.length<=hi*(q.wt+7)+1:=by
  intro lo hi hle;rw[m9_ hle];have h1:=wm_ x (x.opts (hi - lo)) lo;have h2:=ae5_ x (hi - lo);have h3:lo*(x.nm.length+3)<=lo*(q.wt+7):=mul_le_mul_left _ o_;have h4:(hi - lo)*(x.nm.length+7)<=(hi - lo)*(q.wt+7):=mul_le_mul_left _ o_;have h5:lo*(q.wt+7)+(hi - lo)*(q.wt+7)=hi*(q.wt+7):=by rw[<-Nat.add_mul,show lo+(hi - lo)=hi by omega]
  omega
 cases m with
 |none=>show(x.cR 1 1).nm.length<=q.wt;rw[wp_];exact h
 |star=>exact star 0
 |plus=>exact star 1
 |opt=>exact span 0 1 o_
 |just n=>exact span n n o_
 |more n=>exact star n
 |span n k=>exact span n k hm.1
theorem ae9_ (x:Ex)(q:ζ)(h:x.dep<=q.dp)(m:Mk)(hm:m.ok):(x.cR m.lo m.hi).dep<=(m.app q).dp:=by
 have star:∀lo:Nat,lo<=9->(x.cR lo (-1)).dep<=q.dp+20:=by
  intro lo hl;rw[o2_];have h1:=wo_ x x.cK lo;have h2:=ae6_ x;omega
 have span:∀lo hi:Nat,lo<=hi->hi<=9->(x.cR lo hi).dep<=q.dp+20:=by
  intro lo hi hle hl;rw[m9_ hle];have h1:=wo_ x (x.opts (hi - lo)) lo;have h2:=ae7_ x (hi - lo);omega
 cases m with
 |none=>show(x.cR 1 1).dep<=q.dp;rw[wp_];exact h
 |star=>exact star 0 o_
 |plus=>exact star 1 o_
 |opt=>exact span 0 1 o_ o_
 |just n=>exact span n n o_ hm
 |more n=>exact star n hm
 |span n k=>exact span n k hm.1 hm.2
theorem wq_ (p:ζ)(its:List Η):(bv_ p its).wt=p.wt+(its.map fun i=>i.pat.wt+3).sum:=by
 induction its generalizing p with
 |nil=>simp[bv_]
 |cons i its ih=>
  show(bv_ (.chain p i.pat) its).wt=_
  rw[ih];simp only[ζ.wt,map_cons,sum_cons];omega
theorem ws_ (p:ζ)(its:List Η):(bv_ p its).dp=p.dp+(its.map fun i=>i.pat.dp+1).sum:=by
 induction its generalizing p with
 |nil=>simp[bv_]
 |cons i its ih=>
  show(bv_ (.chain p i.pat) its).dp=_
  rw[ih];simp only[ζ.dp,map_cons,sum_cons];omega
theorem afa_ {a b:Nat}(ha:1<=a)(hb:1<=b):2^a+2^b<=2^(a+b):=by
 obtain⟨a,rfl⟩:∃x,a=x+1:=⟨a - 1,o_⟩;obtain⟨b,rfl⟩:∃x,b=x+1:=⟨b - 1,o_⟩;rw[show a+1+(b+1)=(a+b+1)+1 by omega,Nat.pow_succ 2 (a+b+1)];have c:2^(a+1)<=2^(a+b+1):=Nat.pow_le_pow_right o_ o_;have d:2^(b+1)<=2^(a+b+1):=Nat.pow_le_pow_right o_ o_;omega
def WtA (A:List Nat->ζ->Prop):Prop:=∀l q,A l q->1<=l.length/\q.wt+12<=14*2^l.length/\q.dp+2<=25*l.length
theorem afb_ {A:List Nat->ζ->Prop}(hA:WtA A){i:Η}(h:A i.la i.q)(hm:i.m.ok):1<=i.text.length/\i.pat.wt+12<=16*2^i.text.length/\i.pat.dp+2<=25*i.text.length:=by
 obtain⟨b,a,c⟩:=hA _ _ h;obtain⟨la,q,m⟩:=i;simp only at h b a c hm;have f:(Η.text ⟨la,q,m⟩).length=la.length+m.text.length:=by simp[Η.text]
 rw[f];obtain⟨n,l⟩:=af_ (la.length);rw[<-l]at b a c ⊢;obtain⟨P,d⟩:=af_ (2^n);have o:∀k,2^(n+k)=P*2^k:=fun k=>by rw[Nat.pow_add,d]
 rw[o];rw[<-d]at a;have e:∀n W:Nat,n<=9->n*(W+7)<=9*(W+7):=fun n W h=>mul_le_mul_right _ h
 have g:∀n W:Nat,n<=9->(n+1)*(W+3)<=10*(W+3):=fun n W h=>mul_le_mul_right _ o_
 cases m with
 |none=>
  refine⟨o_, ?_, ?_⟩
  . show q.wt+12<=16*(P*2^0);omega
  . show q.dp+2<=25*(n+0);omega
 |star=>
  refine⟨o_, ?_, ?_⟩
  . show(0+1)*(q.wt+3)+12<=16*(P*2^1);omega
  . show q.dp+20+2<=25*(n+1);omega
 |plus=>
  refine⟨o_, ?_, ?_⟩
  . show(1+1)*(q.wt+3)+12<=16*(P*2^1);omega
  . show q.dp+20+2<=25*(n+1);omega
 |opt=>
  refine⟨o_, ?_, ?_⟩
  . show 1*(q.wt+7)+1+12<=16*(P*2^1);omega
  . show q.dp+20+2<=25*(n+1);omega
 |just k=>
  have:=e k q.wt hm;refine⟨o_, ?_, ?_⟩
  . show k*(q.wt+7)+1+12<=16*(P*2^3);omega
  . show q.dp+20+2<=25*(n+3);omega
 |more k=>
  have:=g k q.wt hm;refine⟨o_, ?_, ?_⟩
  . show(k+1)*(q.wt+3)+12<=16*(P*2^4);omega
  . show q.dp+20+2<=25*(n+4);omega
 |span k j=>
  have:=e j q.wt hm.2;refine⟨o_, ?_, ?_⟩
  . show j*(q.wt+7)+1+12<=16*(P*2^5);omega
  . show q.dp+20+2<=25*(n+5);omega
theorem afc_ {A:List Nat->ζ->Prop}(hA:WtA A)(its:List Η)(h:∀i∈its,A i.la i.q/\i.m.ok):its≠ []->1<=(its.flatMap Η.text).length/\(its.map fun i=>i.pat.wt+3).sum+9<=16*2^(its.flatMap Η.text).length/\(its.map fun i=>i.pat.dp+1).sum+1<=25*(its.flatMap Η.text).length:=by
 induction its with
 |nil=>intro h;exact absurd rfl h
 |cons i its a=>
  intro _;obtain⟨d,g,k⟩:=afb_ hA (h i i_).1 (h i i_).2;have a:=a (fun j hj=>h j (by simp[hj]));simp only[flatMap_cons,Μ,map_cons,sum_cons];by_cases b:its=[]
  . subst b;simp only[flatMap_nil,length_nil,map_nil,sum_nil,Nat.add_zero];omega
  . obtain⟨c,e,f⟩:=a b;have:=afa_ d c;refine⟨o_,o_,o_⟩
theorem wu_ {A:List Nat->ζ->Prop}(hA:WtA A){p:ζ}(h:hi_ A l p):p.wt+8<=16*2^l.length/\p.dp<=25*l.length:=by
 obtain⟨b,c,rfl,rfl⟩:=h;rw[wq_,ws_];by_cases a:b=[]
 . subst a;simp[ζ.wt,ζ.dp]
 . obtain⟨d,e,f⟩:=afc_ hA b c a;simp only[ζ.wt,ζ.dp];omega
theorem afd_ {A:List Nat->ζ->Prop}(hA:WtA A)(xs:List (List Nat×ζ)):∀(n:Nat) (p:ζ),p.wt+8<=16*2^n->p.dp<=25*n->(∀y∈xs,hi_ A y.1 y.2)->(ht_ p xs).wt+8<=16*2^(n+(ee_ xs).length)/\(ht_ p xs).dp<=25*(n+(ee_ xs).length):=by
 induction xs with
 |nil=>intro n p a b _;exact⟨a,b⟩
 |cons y xs ih=>
  intro n p a b c;obtain⟨e,f⟩:=wu_ hA (c y i_);have d:(ee_ (y::xs)).length=1+y.1.length+(ee_ xs).length:=by simp[ee_];omega
  have g:2^n+2^y.1.length<=2^(n+(1+y.1.length)):=by
   rw[show n+(1+y.1.length)=(n+y.1.length)+1 by omega,Nat.pow_succ];have a:2^n<=2^(n+y.1.length):=Nat.pow_le_pow_right o_ o_;have b:2^y.1.length<=2^(n+y.1.length):=Nat.pow_le_pow_right o_ o_;omega
  have:=ih (n+(1+y.1.length)) (.alt p y.2) (by simp only[ζ.wt];omega) (by simp only[ζ.dp];omega) (fun z hz=>c z (by simp[hz]));rw[d,show n+(1+y.1.length+(ee_ xs).length)=n+(1+y.1.length)+(ee_ xs).length by omega];exact this
theorem wv_ {A:List Nat->ζ->Prop}(hA:WtA A){p:ζ}(h:gy_ A l p):p.wt+8<=16*2^l.length/\p.dp<=25*l.length:=by
 obtain⟨x,e,c,d,rfl,rfl⟩:=h;obtain⟨a,b⟩:=wu_ hA c;rw[Μ];exact afd_ hA e _ _ a b d
theorem ww_:WtA f9_:=by
 have a:∀n,1<=n->10+12<=14*2^n/\0+2<=25*n:=by
  intro n b;have:2^1<=2^n:=Nat.pow_le_pow_right o_ b;omega
 intro l q h;rcases h with ⟨c,e,rfl,rfl⟩|⟨rfl,rfl⟩|⟨g,f,d,⟨rfl,rfl⟩|⟨rfl,rfl⟩⟩
 . exact⟨i_,a _ i_⟩
 . exact⟨i_,a _ i_⟩
 . exact⟨i_,a _ i_⟩
 . exact⟨i_,a _ i_⟩
theorem wx_:∀k,WtA (dr_ k)
 |0=>ww_
 |k+1=>by
  intro l q h;rcases h with h|⟨l',rfl,h⟩
  . exact ww_ l q h
  . obtain⟨h1,h2⟩:=wv_ (wx_ k) h;have e:(40::l'++ [41]).length=l'.length+2:=i_;rw[e,Nat.pow_add];exact⟨o_,o_,o_⟩
theorem afe_ {e:Ex}:∀d∈e.pds,d.nm.length<=e.nm.length*(e.dep+1):=by
 induction e with
 |nil=>intro d c;simp[Ex.pds]at c
 |one S=>
  intro d c;simp[Ex.pds]at c;subst c;have:=ae3_ (.one S);show 1<=(Ex.one S).nm.length*(0+1);omega
 |alt a b iha ihb=>
  intro d c;simp only[Ex.pds,mp_]at c;rw[rs_];simp only[Ex.dep];rcases c with c|c
  . exact Nat.le_trans (iha d c) (Nat.mul_le_mul o_ o_)
  . exact Nat.le_trans (ihb d c) (Nat.mul_le_mul o_ o_)
 |thn a b iha ihb=>
  intro d c;simp only[Ex.pds,mp_,mem_map]at c;rw[rr_];simp only[Ex.dep];rcases c with ⟨y,f,rfl⟩|c
  . have h:=iha y f;have g:=ne_ y b;have i:a.nm.length*(a.dep+1)<=a.nm.length*(max a.dep b.dep+1+1):=mul_le_mul_left _ o_;have j:(b.nm.length+3)*1<=(b.nm.length+3)*(max a.dep b.dep+1+1):=mul_le_mul_left _ o_;rw[show a.nm.length+b.nm.length+3=a.nm.length+(b.nm.length+3)by omega,Nat.add_mul];omega
  . exact Nat.le_trans (ihb d c) (Nat.mul_le_mul o_ o_)
 |star a iha=>
  intro d c;simp only[Ex.pds,mem_map]at c;obtain⟨y,f,rfl⟩:=c;have h:=iha y f;have g:=ne_ y (.star a);rw[rt_]at g ⊢;simp only[Ex.dep];rw[Nat.add_mul,Nat.mul_add a.nm.length];rw[show 3*(a.dep+1+1)=3*a.dep+6 by omega];omega
theorem lt_ (e:Ex)(c:Nat):(e.behind c).length<=e.b9:=by
 induction e with
 |nil=>simp[Ex.behind]
 |one S=>simp only[Ex.behind,Ex.b9];split<;>simp
 |alt a b iha ihb=>simp only[Ex.behind,Ex.b9,Μ];omega
 |star a iha=>simpa [Ex.behind,Ex.b9] using iha
 |thn a b iha ihb=>
  simp only[Ex.behind,Ex.b9,Μ,length_map];split
  . omega
  . simp;omega
theorem aff_ {e:Ex}:∀d∈e.pds,d.b9<=e.b9*(e.dep+1):=by
 induction e with
 |nil=>intro d c;simp[Ex.pds]at c
 |one S=>intro d c;simp[Ex.pds]at c;subst c;exact zero_le _
 |alt a b iha ihb=>
  intro d c;simp only[Ex.pds,mp_]at c;simp only[Ex.dep,Ex.b9];rcases c with c|c
  . exact Nat.le_trans (iha d c) (Nat.mul_le_mul o_ o_)
  . exact Nat.le_trans (ihb d c) (Nat.mul_le_mul o_ o_)
 |thn a b iha ihb=>
  intro d c;simp only[Ex.pds,mp_,mem_map]at c;simp only[Ex.dep,Ex.b9];rcases c with ⟨y,f,rfl⟩|c
  . have h:=iha y f;have g:=na_ y b;have i:a.b9*(a.dep+1)<=a.b9*(max a.dep b.dep+1+1):=mul_le_mul_left _ o_;have j:b.b9*1<=b.b9*(max a.dep b.dep+1+1):=mul_le_mul_left _ o_;rw[Nat.add_mul];omega
  . exact Nat.le_trans (ihb d c) (Nat.mul_le_mul o_ o_)
 |star a iha=>
  intro d c;simp only[Ex.pds,mem_map]at c;obtain⟨y,f,rfl⟩:=c;have h:=iha y f;have g:=na_ y (.star a);simp only[Ex.dep,Ex.b9]at g ⊢;rw[Nat.mul_add a.b9];omega
theorem afg_ {U l:List Ex}(h:l∈gz_ U):l.length<=U.length:=by
 induction U generalizing l with
 |nil=>simp[gz_]at h;subst h;simp
 |cons u U ih=>
  simp only[gz_,mp_,mem_map]at h;rcases h with h|⟨a,h,rfl⟩
  . have:=ih h;simp;omega
  . have:=ih h;simp;omega
structure k5_ (E:Ex):Prop where
 can:E.can
 dw:E.b9<=10
 dp:E.dep<=1000
 wt:E.nm.length<=2^44
theorem k5_.ep {E d:Ex}(h:k5_ E)(hd:d∈jc_ E):d.can/\d.b9<=20000/\d.nm.length<=2^60:=by
 have e:=h.wt;have c:=h.dw;have f:=h.dp;rcases ((j3_ h.can).2 d).1 hd with rfl|h1
 . exact⟨h.can,o_,o_⟩
 . refine⟨o3_ h.can d h1, ?_, ?_⟩
   . have a:=aff_ d h1;have b:E.b9*(E.dep+1)<=10*1001:=Nat.mul_le_mul c o_;omega
   . have a:=afe_ d h1;have b:E.nm.length*(E.dep+1)<=2^44*1001:=Nat.mul_le_mul e o_;omega
theorem StE.len {E:Ex}{r:List Ex}(hE:k5_ E)(h:StE E r):r.length<=16:=by
 have a:=afg_ (vm_ (j3_ hE.can).1 h.dx h.ep);have b:=vo_ E;have:=hE.dw;omega
theorem StE.asks {E:Ex}{r:List Ex}(hE:k5_ E)(h:StE E r)(c:Nat):r.length<=16/\(∀x∈r,x.b9<=20000)/\∀x∈r,∀d∈x.behind c,d.can/\d.nm.length<=2^60:=by
 refine⟨h.len hE,fun x hx=>(hE.ep (h.ep x hx)).2.1,fun x hx d hd=> ?_⟩;have b:=h.step hE.can c;have a:d∈ga_ r c:=((rb_ c (h.can hE.can)).2 d).2 ⟨x,hx,hd⟩;have:=hE.ep (b.ep d a);exact⟨this.1,this.2.2⟩
theorem afh_ {E:Ex}{p:ζ}(hc:E.can)(hlt:E.b9<=p.size)(hw:E.nm.length<=p.wt)(hd:E.dep<=p.dp)(hP:gy_ (dr_ k) l p)(hl:l.length<=40)(hs:p.size<=10):k5_ E:=by
 obtain⟨a,b⟩:=wv_ (wx_ k) hP;have c:2^l.length<=2^40:=Nat.pow_le_pow_right o_ hl;refine⟨hc,o_,o_, ?_⟩;omega
theorem lu_ (n:Int)(w:World):
 Calls prog 62 #[.int .i64 n] w fun e w'=>e= .returned (.bool (decide (1<=n)&&decide (n<=40)))/\w'=w:=by
 by_cases a:1<=n
 . by_cases b:n<=40
   . have e:(decide (1<=n)&&decide (n<=40))=true:=by simp[a,b]
     rw[e];go_enter func62,ntmps62;go_wp2_with fail;go_ret;exact⟨b6_ i_,rfl⟩
   . have e:(decide (1<=n)&&decide (n<=40))=false:=by simp[b]
     rw[e];go_enter func62,ntmps62;go_wp2_with fail;go_ret;exact⟨b6_ i_,rfl⟩
 . have e:(decide (1<=n)&&decide (n<=40))=false:=by simp[a]
   rw[e];go_enter func62,ntmps62;go_wp2_with fail;go_ret;exact⟨b6_ i_,rfl⟩
theorem afi_ (how:Int)(a b:Bool)(w:World)(h0:0<=how)(h3:how<=3):
 Calls prog 125 #[.int .i64 how,.bool a,.bool b] w fun e w'=>e= .returned (.bool (fa_ how a b))/\w'=w:=by
 have c:how=0\/how=1\/how=2\/how=3:=o_;rcases c with rfl|rfl|rfl|rfl<;>cases a<;>cases b<;>
  (go_enter func125,ntmps125
   go_wp2_with fail;go_ret;exact⟨by simp[fa_],rfl⟩)
end Go.Proofs.YtpngikmcjkjdaaaGreatDoor
