import Derived.Test.YtpngikmcjkjdaaaGreatDoorA18
set_option linter.unusedVariables false
set_option linter.unusedSimpArgs false
set_option maxRecDepth 20000
set_option maxHeartbeats 80000000
namespace Go.Proofs.YtpngikmcjkjdaaaGreatDoor
open Go.RowKit Tryz List Nat
variable {m s:ByteArray} {l:List Nat} {c g i j k t:Nat} {S:Nat->Bool} {a b:Value} {w:World}
def exC (kind:Nat)(S:Nat->Bool)(a b:Value):Array Value:= #[.int .i64 (kind:Int),.bool (S 0),.bool (S 1),.bool (S 2),.bool (S 3),.bool (S 4),.bool (S 5),.bool (S 6),.bool (S 7),a,b]
def ptr (g:Nat):Value:= .pointer (some ⟨g,0,none⟩)
def noS:Nat->Bool:=fun _=>false
def Τ (w:World):Nat->Ex->Prop
 |g,.nil=>w.heap[g]? =some (.cells (exC 0 noS (.pointer none) (.pointer none)) 199 (0,0))
 |g,.one S=>w.heap[g]? =some (.cells (exC 1 S (.pointer none) (.pointer none)) 199 (0,0))
 |g,.thn a b=>∃ga gb,w.heap[g]? =some (.cells (exC 2 noS (ptr ga) (ptr gb)) 199 (0,0))/\Τ w ga a/\Τ w gb b
 |g,.alt a b=>∃ga gb,w.heap[g]? =some (.cells (exC 3 noS (ptr ga) (ptr gb)) 199 (0,0))/\Τ w ga a/\Τ w gb b
 |g,.star a=>∃ga,w.heap[g]? =some (.cells (exC 4 noS (ptr ga) (.pointer none)) 199 (0,0))/\Τ w ga a
def Ex.kind:Ex->Nat
 | .nil=>0
 | .one _=>1
 | .thn _ _=>2
 | .alt _ _=>3
 | .star _=>4
theorem ip_ (e:Ex):(e.kind=0↔e.isNil=true):=by cases e<;>simp[Ex.kind,Ex.isNil]
theorem Τ.lt {e:Ex}(h:Τ w g e):g<w.heap.size:=by
 cases e with
 |nil=>exact κ h
 |one S=>exact κ h
 |thn a b=>obtain⟨_,_,h,_⟩:=h;exact κ h
 |alt a b=>obtain⟨_,_,h,_⟩:=h;exact κ h
 |star a=>obtain⟨_,h,_⟩:=h;exact κ h
theorem Τ.below {w':World}{e:Ex}(h:Τ w g e)(hb:Bl w w'):Τ w' g e:=by
 induction e generalizing g with
 |nil=>exact(hb.block _ h.lt).trans h
 |one S=>exact(hb.block _ h.lt).trans h
 |thn a b iha ihb=>
  have i:=h.lt;obtain⟨c,j,d,f,k⟩:=h;exact⟨c,j,(hb.block _ i).trans d,iha f,ihb k⟩
 |alt a b iha ihb=>
  have i:=h.lt;obtain⟨c,j,d,f,k⟩:=h;exact⟨c,j,(hb.block _ i).trans d,iha f,ihb k⟩
 |star a iha=>
  have i:=h.lt;obtain⟨c,d,f⟩:=h;exact⟨c,(hb.block _ i).trans d,iha f⟩
theorem na_ (h:w.heap[g]? =some (.cells (exC k S a b) t (0,0))):w.cell? ⟨g,0,none⟩=some (.int .i64 (k:Int)):=by
 rw[cell_of_row w g 0 _ t (0,0) h];rfl
theorem j4_ (h:w.heap[g]? =some (.cells (exC k S a b) t (0,0))):w.cell? ⟨g,9,none⟩=some a/\w.cell? ⟨g,10,none⟩=some b:=by
 constructor
 . rw[cell_of_row w g 9 _ t (0,0) h];rfl
 . rw[cell_of_row w g 10 _ t (0,0) h];rfl
theorem lo_ (h:w.heap[g]? =some (.cells (exC k S a b) t (0,0)))(hc:c<8):w.cell? ⟨g,1+c,none⟩=some (.bool (S c))/\w.frozen? ⟨g,1+c,none⟩=false:=by
 constructor
 . rw[cell_of_row w g (1+c) _ t (0,0) h];rcases (show c=0\/c=1\/c=2\/c=3\/c=4\/c=5\/c=6\/c=7 by omega)with rfl|rfl|rfl|rfl|rfl|rfl|rfl|rfl<;>rfl
 . simp[World.frozen?,h]
theorem Τ.kind {e:Ex}(h:Τ w g e):w.cell? ⟨g,0,none⟩=some (.int .i64 (e.kind:Int)):=by
 cases e with
 |nil=>exact na_ h
 |one S=>exact na_ h
 |thn a b=>obtain⟨_,_,h,_⟩:=h;exact na_ h
 |alt a b=>obtain⟨_,_,h,_⟩:=h;exact na_ h
 |star a=>obtain⟨_,h,_⟩:=h;exact na_ h
def j5_ (e':Ex)(w:World)(e:Ending)(w':World):Prop:=∃g,e= .returned (.pointer (some ⟨g,0,none⟩))/\Τ w' g e'/\Bl w w'
theorem o1_ (w:World):Calls prog 153 #[] w (j5_ .nil w):=by
 obtain⟨W,a,b,-,-⟩:=ν w (exC 0 noS (.pointer none) (.pointer none)) 199;have c:Τ W w.heap.size .nil:=by rw[a];exact ο rfl
 unfold exC noS at a;simp only[show((0:Nat):Int)=0 from rfl]at a;go_enter func153,ntmps153;go_wp2_with fail;rw[<-a];clear a;go_ret;exact⟨_,rfl,c,b⟩
theorem kz_ (ga gb:Nat)(a b:Ex)(w:World)(ha:Τ w ga a)(hb:Τ w gb b):Calls prog 156 #[.pointer (some ⟨ga,0,none⟩),.pointer (some ⟨gb,0,none⟩)] w (j5_ (a.thn' b) w):=by
 have k:=ha.kind;have j:=hb.kind;unfold Ex.thn';by_cases c:a.isNil=true
 . rw[if_pos c];rw[(ip_ a).2 c]at k;clear j c;go_enter func156,ntmps156;go_wp2_with fail;go_ret;exact⟨gb,rfl,hb,μ⟩
 . rw[if_neg c];obtain⟨m,g⟩:=δ (a.kind);rw[g.out]at k;have o:((m:Int)==0)=false:=by
    rw[<-g.out];simp only[bq_,ne_eq];intro e;exact c ((ip_ a).1 o_)
   by_cases d:b.isNil=true
   . rw[if_pos d];rw[(ip_ b).2 d]at j;clear c d g;go_enter func156,ntmps156;go_wp2_with fail;go_ret;exact⟨ga,rfl,ha,μ⟩
   . rw[if_neg d];obtain⟨n,i⟩:=δ (b.kind);rw[i.out]at j;have p:((n:Int)==0)=false:=by
      rw[<-i.out];simp only[bq_,ne_eq];intro e;exact d ((ip_ b).1 o_)
     obtain⟨W,f,h,-,-⟩:=ν w (exC 2 noS (ptr ga) (ptr gb)) 199;have l:Τ W w.heap.size (.thn a b):=⟨ga,gb,by rw[f];exact ο rfl,ha.below h,hb.below h⟩;unfold exC noS ptr at f;simp only[show((2:Nat):Int)=2 from rfl]at f;clear c d g i;go_enter func156,ntmps156;go_wp2_with fail;rw[<-f];clear f;go_ret;exact⟨_,rfl,l,h⟩
theorem vq_ (ga gb:Nat)(a b:Ex)(w:World)(ha:Τ w ga a)(hb:Τ w gb b):Calls prog 119 #[.pointer (some ⟨ga,0,none⟩),.pointer (some ⟨gb,0,none⟩)] w (j5_ (a.alt' b) w):=by
 have l:=ha.kind;have j:=hb.kind;obtain⟨W,d,g,-,-⟩:=ν w (exC 3 noS (ptr ga) (ptr gb)) 199;have k:Τ W w.heap.size (.alt a b):=⟨ga,gb,by rw[d];exact ο rfl,ha.below g,hb.below g⟩;unfold exC noS ptr at d;simp only[show((3:Nat):Int)=3 from rfl]at d;unfold Ex.alt';by_cases c:a.isNil=true
 . rw[(ip_ a).2 c]at l;by_cases f:b.isNil=true
   . rw[(ip_ b).2 f]at j;rw[if_pos (by rw[c,f];rfl)];clear c f d;go_enter func119,ntmps119;go_wp2_with fail;go_ret;exact⟨ga,rfl,ha,μ⟩
   . rw[if_neg (by rw[c];simpa using f)];obtain⟨n,i⟩:=δ (b.kind);rw[i.out]at j;have p:((n:Int)==0)=false:=by
      rw[<-i.out];simp only[bq_,ne_eq];intro e;exact f ((ip_ b).1 o_)
     clear c f i;go_enter func119,ntmps119;go_wp2_with fail;rw[<-d];clear d;go_ret;exact⟨_,rfl,k,g⟩
 . rw[if_neg (by simp[c])];obtain⟨m,h⟩:=δ (a.kind);rw[h.out]at l;have o:((m:Int)==0)=false:=by
    rw[<-h.out];simp only[bq_,ne_eq];intro e;exact c ((ip_ a).1 o_)
   clear c h j;go_enter func119,ntmps119;go_wp2_with fail;rw[<-d];clear d;go_ret;exact⟨_,rfl,k,g⟩
theorem adn_ (ga:Nat)(a:Ex)(w:World)(ha:Τ w ga a):Calls prog 175 #[.pointer (some ⟨ga,0,none⟩)] w (j5_ a.star' w):=by
 have g:=ha.kind;unfold Ex.star';by_cases b:a.isNil=true
 . rw[if_pos b];rw[(ip_ a).2 b]at g;clear b;go_enter func175,ntmps175;go_wp2_with fail;go_ret;exact⟨ga,rfl,ha,μ⟩
 . rw[if_neg b];obtain⟨i,d⟩:=δ (a.kind);rw[d.out]at g;have j:((i:Int)==0)=false:=by
    rw[<-d.out];simp only[bq_,ne_eq];intro e;exact b ((ip_ a).1 o_)
   obtain⟨W,c,f,-,-⟩:=ν w (exC 4 noS (ptr ga) (.pointer none)) 199;have h:Τ W w.heap.size (.star a):=⟨ga,by rw[c];exact ο rfl,ha.below f⟩;unfold exC noS ptr at c;simp only[show((4:Nat):Int)=4 from rfl]at c;clear b d;go_enter func175,ntmps175;go_wp2_with fail;rw[<-c];clear c;go_ret;exact⟨_,rfl,h,f⟩
theorem vr_ (gx lo:Nat)(hi:Int)(x:Ex)(w:World)(hx:Τ w gx x)(hlo:lo<=9)(hhi:hi<=9)(hok:hi<0\/(lo:Int)<=hi):
 Calls prog 155 #[.pointer (some ⟨gx,0,none⟩),.int .i64 (lo:Int),.int .i64 hi] w (j5_ (x.repd lo hi) w):=by
 obtain⟨c,s⟩:=δ (if hi<0 then x.star' else x.opts (hi - lo).toNat);have G:Hid (x.repd lo hi=x.must c lo):=by
  unfold Hid Ex.repd;rw[<-s.out];by_cases h:hi<0
  . rw[if_pos h,if_pos h]
  . rw[if_neg h,if_neg h]
 rw[G.out];clear G;have z:Hid (∀w',Bl w w'->Τ w' gx x):=fun w' hb=>hx.below hb
 have a:=o1_ w;go_enter func155,ntmps155;go_wp2_with fail;refine a.mono ?_;clear a;rintro e N ⟨T,rfl,D,q⟩;have X:=q.size
 skip;by_cases E:hi<0
 . have M:=z.out N q;have a:=adn_ gx x N M;have y:Hid (x.star'=c):=by unfold Hid;rw[<-s.out,if_pos E]
   rw[y.out]at a;clear s y D M;have Z:¬(lo:Int)<hi:=o_;go_wp2_with fail;refine a.mono ?_;clear a;rintro e O ⟨p,rfl,j,k⟩;have u:=η q k;clear q k;go_wp2_with fail;go_loopw [7,8] (fun v' i' wr=>v'= .pointer (some ⟨p,0,none⟩)/\i'= .int .i64 (lo:Int)/\wr=O) (fun _ _ _=>0)
   case atStart=>exact⟨rfl,rfl,rfl⟩
   case round=>
    obtain⟨rfl,rfl,rfl⟩:=hrel;go_wp2_with fail;go_loopw [7,9] (fun v' i' wr=>∃i g:Nat,i<=lo/\v'= .pointer (some ⟨g,0,none⟩)/\i'= .int .i64 (i:Int)/\Τ wr g (x.must c i)/\Bl w wr) (fun _ i' _=>20 - (intOf i').toNat)
    case atStart=>exact⟨0,p,o_,rfl,rfl,j,u⟩
    case round=>
     clear j u;obtain⟨i,o,J,rfl,rfl,d,b⟩:=hrel;have L:=b.size;by_cases K:i<lo
     . have v:(i:Int)<(lo:Int):=o_;have a:=kz_ gx o x (x.must c i) wr (z.out wr b) d;rw[show x.thn' (x.must c i)=x.must c (i+1)from rfl]at a;go_wp2_with fail;refine a.mono ?_;clear a;rintro e F ⟨t,rfl,l,f⟩;have r:=η b f;have B:=α l;clear d l b f;go_wp2_with fail;go_roundw
       case rel=>exact⟨i+1,t,o_,rfl,by go_num,B.out,r⟩
       case measure=>exact c_
     . have v:¬(i:Int)<(lo:Int):=o_;obtain rfl:i=lo:=o_;have A:=α d;clear d;go_wp2_with fail;go_ret;exact⟨o,rfl,A.out,b⟩
 . obtain⟨m,rfl⟩:∃n:Nat,hi=(n:Int):=⟨hi.toNat,o_⟩;have W:lo<=m:=o_;have aa:¬(m:Int)<0:=o_;have y:Hid (x.opts (m - lo)=c):=by
    unfold Hid;rw[<-s.out,if_neg E];congr 1;omega
   clear s E hok;go_wp2_with fail;go_loopw [7,8] (fun v' i' wr=>∃i g:Nat,lo<=i/\i<=m/\v'= .pointer (some ⟨g,0,none⟩)/\i'= .int .i64 (i:Int)/\Τ wr g (x.opts (i - lo))/\Bl w wr) (fun _ i' _=>20 - (intOf i').toNat)
   case atStart=>exact⟨lo,T,ι,W,rfl,rfl,by rw[Nat.sub_self];exact D,q⟩
   case round=>
    clear D q X;obtain⟨i,p,J,Y,rfl,rfl,j,k⟩:=hrel;have ab:=k.size;by_cases K:i<m
    . have v:(i:Int)<(m:Int):=o_;have a:=o1_ wr;have R:Hid (x.opts (i+1 - lo)=Ex.alt' .nil (x.thn' (x.opts (i - lo)))):=by
       unfold Hid;rw[show i+1 - lo=(i - lo)+1 by omega];rfl
      go_wp2_with fail;refine a.mono ?_;clear a;rintro e P ⟨o,rfl,d,b⟩;have C:=η k b;have a:=kz_ gx p x (x.opts (i - lo)) P (z.out P C) (j.below b);have L:=b.size;go_wp2_with fail;refine a.mono ?_;clear a;rintro e F ⟨t,rfl,l,f⟩;have r:=η C f;have ac:=f.size;have a:=vq_ o t .nil (x.thn' (x.opts (i - lo))) F (d.below f) l;rw[<-R.out]at a;go_wp2_with fail;refine a.mono ?_;clear a;rintro e w5 ⟨U,rfl,I,H⟩;have V:=η r H;have Q:=α I;clear j d l I k b f H C r;go_wp2_with fail;go_roundw
      case rel=>exact⟨i+1,U,o_,o_,rfl,by go_num,Q.out,V⟩
      case measure=>exact c_
    . have v:¬(i:Int)<(m:Int):=o_;obtain rfl:i=m:=o_;have j:Τ wr p c:=by rw[<-y.out];exact j
      obtain⟨O,S⟩:=δ wr;rw[S.out]at j k ⊢;have u:=k;clear k;go_wp2_with fail;go_loopw [7,9] (fun v' i' wr=>∃i g:Nat,i<=lo/\v'= .pointer (some ⟨g,0,none⟩)/\i'= .int .i64 (i:Int)/\Τ wr g (x.must c i)/\Bl w wr) (fun _ i' _=>20 - (intOf i').toNat)
      case atStart=>exact⟨0,p,o_,rfl,rfl,j,u⟩
      case round=>
       clear j u;obtain⟨i,o,J,rfl,rfl,d,b⟩:=hrel;have L:=b.size;by_cases K:i<lo
       . have v:(i:Int)<(lo:Int):=o_;have a:=kz_ gx o x (x.must c i) wr (z.out wr b) d;rw[show x.thn' (x.must c i)=x.must c (i+1)from rfl]at a;go_wp2_with fail;refine a.mono ?_;clear a;rintro e F ⟨t,rfl,l,f⟩;have r:=η b f;have B:=α l;clear d l b f;go_wp2_with fail;go_roundw
         case rel=>exact⟨i+1,t,o_,rfl,by go_num,B.out,r⟩
         case measure=>exact c_
       . have v:¬(i:Int)<(lo:Int):=o_;obtain rfl:i=lo:=o_;have A:=α d;clear d;go_wp2_with fail;go_ret;exact⟨o,rfl,A.out,b⟩
theorem lp_ (s:ByteArray)(a b:Nat):txt (s.extract a b)=sub s a b:=by
 unfold txt sub txt;rw[ByteArray.data_extract,Array.toList_extract,extract_eq_take_drop,map_take,map_drop];rw[drop_take]
theorem lq_ (h:k<s.size):(txt s).drop k=θ s k::(txt s).drop (k+1):=by
 have a:k<(txt s).length:=by rw[bm_];exact h
 rw[drop_eq_getElem_cons a];have:=m3_ h;rw[ge_ a]at this;simp at this;rw[this]
theorem rb_ (s:ByteArray):(txt s).drop s.size=[]:=drop_of_length_le (by rw[bm_];omega)
theorem vs_:(prog.info? 9).map (fun i=>(i.zero,i.size,i.bytes))=some (some (.string ByteArray.empty),1,16):=k_
theorem ado_ (s:ByteArray)(i:Nat)(w:World)(hs:s.size<=40)(hi:i<=s.size):Calls prog 174 #[.string s,.int .i64 (i:Int)] w fun e w'=>e= .returned (.int .i64 (cx_ ((txt s).drop i) 0 i:Nat))/\w=w':=by
 obtain⟨R,j⟩:=δ (cx_ ((txt s).drop i) 0 i);rw[j.out];go_enter func174,ntmps174;go_wp2_with fail;go_loop [5,6] (fun n' k'=>∃(n:Int) (k:Nat),k<=s.size/\ -40<=n - k+s.size/\ -(k:Int)<=n/\n<=k/\n'= .int .i64 n/\k'= .int .i64 (k:Int)/\Hid (cx_ ((txt s).drop k) n k=R)) (fun _ k'=>s.size - (intOf k').toNat)
 case atStart=>exact⟨0,i,hi,o_,o_,o_,rfl,rfl,j⟩
 case round=>
  obtain⟨n,k,r,t,u,v,rfl,rfl,a⟩:=hrel;clear j;by_cases q:k<s.size
  . have p:=lq_ q;rw[p]at a;clear p;have o:=cp_ q;obtain⟨c,h⟩:∃x,Hid (θ s k=x):=⟨θ s k,rfl⟩;have d:s[k].toNat=c:=by rw[<-o];exact h.out
    rw[h.out]at a;clear o h;by_cases b:c=40
    . have t40:((s[k].toNat:Int)==40)=true:=by rw[d,b];rfl
      have t41:((s[k].toNat:Int)==41)=false:=by rw[d,b];rfl
      have g:Hid (cx_ ((txt s).drop (k+1)) (n+1) (k+1)=R):=by
       have:=a.out;simp only[cx_]at this;rw[if_pos b]at this;exact this
      clear b d a;go_wp2_with fail;go_round
      case rel=>exact⟨n+1,k+1,o_,o_,o_,o_,by go_num,by go_num,g⟩
      case measure=>exact c_
    . have t40:((s[k].toNat:Int)==40)=false:=by rw[d];simp;omega
      by_cases f:c=41
      . have t41:((s[k].toNat:Int)==41)=true:=by rw[d,f];rfl
        by_cases m:n - 1=0
        . have l:R=k:=by
           have:=a.out;simp only[cx_]at this;rw[if_neg b,if_pos f,if_pos m]at this;exact this.symm
          obtain rfl:n=1:=o_;subst l;clear b f d a m;go_wp2_with fail;go_ret;exact⟨rfl,rfl⟩
        . have g:Hid (cx_ ((txt s).drop (k+1)) (n - 1) (k+1)=R):=by
           have:=a.out;simp only[cx_]at this;rw[if_neg b,if_pos f,if_neg m]at this;exact this
          have y:((n - 1:Int)==0)=false:=s_;clear b f d a;go_wp2_with fail;go_round
          case rel=>exact⟨n - 1,k+1,o_,o_,o_,o_,by go_num,by go_num,g⟩
          case measure=>exact c_
      . have t41:((s[k].toNat:Int)==41)=false:=by rw[d];simp;omega
        have g:Hid (cx_ ((txt s).drop (k+1)) n (k+1)=R):=by
         have:=a.out;simp only[cx_]at this;rw[if_neg b,if_neg f]at this;exact this
        clear b f d a;go_wp2_with fail;go_round
        case rel=>exact⟨n,k+1,o_,o_,o_,o_,by go_num,by go_num,g⟩
        case measure=>exact c_
  . obtain rfl:k=s.size:=o_;have l:R=s.size:=by
     have:=a.out;rw[rb_]at this;exact this.symm
    subst l;clear a;go_wp2_with fail;go_ret;exact⟨rfl,rfl⟩
def o2_ (s:ByteArray)(w:World)(e:Ending)(w':World):Prop:=
 ∃(v:Value) (Ls:List ByteArray),e= .returned v/\Ls.map txt=b5_ (txt s) 0 []/\w'.ownsRow w.heap.size 9 1 v Ls.length (Ζ Ls)/\Bl w w'/\Ls.length<=s.size+1
theorem vt_ (s:ByteArray)(w:World)(hs:s.size<=40):Calls prog 111 #[.string s] w (o2_ s w):=by
 obtain⟨Y,N,O,P,Q⟩:=info_parts vs_;obtain⟨R,E⟩:=δ (b5_ (txt s) 0 []);unfold o2_;rw[E.out];go_enter func111,ntmps111;go_wp2_with fail;go_loopw [3,4,5,6] (fun l' n' a' i' wr=>∃(n:Int) (a i:Nat) (b:List ByteArray),i<=s.size/\a<=i/\ -(i:Int)<=n/\n<=i/\n'= .int .i64 n/\a'= .int .i64 (a:Int)/\i'= .int .i64 (i:Int)/\b.length<=a/\Hid (b.map txt++b5_ ((txt s).drop i) n (sub s a i)=R)/\wr.ownsRow w.heap.size 9 1 l' b.length (Ζ b)/\Bl w wr) (fun _ _ _ i' _=>s.size - (intOf i').toNat)
 case atStart=>exact⟨0,0,0,[],o_,o_,o_,o_,rfl,rfl,rfl,i_,by unfold Hid;rw[os_];simpa using E.out,a8_,μ⟩
 case round=>
  obtain⟨n,a,i,b,V,T,W,X,rfl,rfl,rfl,z,d,k,m⟩:=hrel;clear E;by_cases G:i<s.size
  . have M:=lq_ G;rw[M]at d;clear M;have L:=cp_ G;have J:=ot_ T G;obtain⟨c,B⟩:∃x,Hid (θ s i=x):=⟨θ s i,rfl⟩;have l:s[i].toNat=c:=by rw[<-L];exact B.out
    rw[B.out]at d J;have y:=α J;clear L B J;have v:=α k;have p:=α m;by_cases j:c=40
    . have t40:((s[i].toNat:Int)==40)=true:=by rw[l,j];rfl
      have f:Hid (b.map txt++b5_ ((txt s).drop (i+1)) (n+1) (sub s a (i+1))=R):=by
       have:=d.out;simp only[b5_]at this;rw[if_pos j]at this;unfold Hid;rw[y.out];exact this
      clear j l d k m;go_wp2_with fail;go_roundw
      case rel=>exact⟨n+1,a,i+1,b,o_,o_,o_,o_,by go_num,rfl,by go_num,z,f,v.out,p.out⟩
      case measure=>exact c_
    . have t40:((s[i].toNat:Int)==40)=false:=by rw[l];simp;omega
      by_cases o:c=41
      . have t41:((s[i].toNat:Int)==41)=true:=by rw[l,o];rfl
        have f:Hid (b.map txt++b5_ ((txt s).drop (i+1)) (n - 1) (sub s a (i+1))=R):=by
         have:=d.out;simp only[b5_]at this;rw[if_neg j,if_pos o]at this;unfold Hid;rw[y.out];exact this
        clear j o l d k m;go_wp2_with fail;go_roundw
        case rel=>exact⟨n - 1,a,i+1,b,o_,o_,o_,o_,by go_num,rfl,by go_num,z,f,v.out,p.out⟩
        case measure=>exact c_
      . have t41:((s[i].toNat:Int)==41)=false:=by rw[l];simp;omega
        by_cases q:c=124
        . have t124:((s[i].toNat:Int)==124)=true:=by rw[l,q];rfl
          by_cases H:n=0
          . subst H;have f:Hid ((b++ [s.extract a i]).map txt++b5_ ((txt s).drop (i+1)) 0 (sub s (i+1) (i+1))=R):=by
             have:=d.out;simp only[b5_]at this;rw[if_neg j,if_neg o,if_pos ⟨q,trivial⟩]at this;unfold Hid;rw[os_,map_append,map_singleton,lp_,ac_];exact this
            have I:=k.alloc (.cells #[.string (s.extract a i)] 9);have U:=m.size;have D:Hid (∀x,(u3:Value).ownBlock=some x->w.heap.size<=x):=fun x e=>(k.lt x e).1
            clear j o q l d k m;go_wp2_with (at_builtin;refine Υ underlying56 N O P Q I ?_;intro g S K u r F;have C:=α u;have A:Hid (Bl w K):=(p.out.alloc o_ _).grown r s_ (fun x e=>D.out x e);clear u r F);go_roundw
            case rel=>
             have t:=C.out;rw[iu_]at t;exact⟨0,i+1,i+1,b++ [s.extract a i],o_,o_,o_,o_,rfl,by go_num,by go_num,s_,f,by rw[Μ];exact t,A.out⟩
            case measure=>exact c_
          . have Z:((n:Int)==0)=false:=s_;have f:Hid (b.map txt++b5_ ((txt s).drop (i+1)) n (sub s a (i+1))=R):=by
             have:=d.out;simp only[b5_]at this;rw[if_neg j,if_neg o,if_neg (fun h=>H h.2)]at this;unfold Hid;rw[y.out];exact this
            clear j o q l d k m H;go_wp2_with fail;go_roundw
            case rel=>exact⟨n,a,i+1,b,o_,o_,o_,o_,rfl,rfl,by go_num,z,f,v.out,p.out⟩
            case measure=>exact c_
        . have t124:((s[i].toNat:Int)==124)=false:=by rw[l];simp;omega
          have f:Hid (b.map txt++b5_ ((txt s).drop (i+1)) n (sub s a (i+1))=R):=by
           have:=d.out;simp only[b5_]at this;rw[if_neg j,if_neg o,if_neg (fun h=>q h.1)]at this;unfold Hid;rw[y.out];exact this
          clear j o q l d k m;go_wp2_with fail;go_roundw
          case rel=>exact⟨n,a,i+1,b,o_,o_,o_,o_,rfl,rfl,by go_num,z,f,v.out,p.out⟩
          case measure=>exact c_
  . obtain rfl:i=s.size:=o_;have f:Hid ((b++ [s.extract a s.size]).map txt=R):=by
     have:=d.out;rw[rb_]at this;unfold Hid;rw[map_append,map_singleton,lp_];exact this
    have I:=k.alloc (.cells #[.string (s.extract a s.size)] 9);have U:=m.size;have p:=α m;have D:Hid (∀x,(u3:Value).ownBlock=some x->w.heap.size<=x):=fun x e=>(k.lt x e).1
    clear d k m;go_wp2_with (at_builtin;refine Υ underlying56 N O P Q I ?_;intro g S K u r F;have C:=α u;have A:Hid (Bl w K):=(p.out.alloc o_ _).grown r s_ (fun x e=>D.out x e);clear u r F);go_ret;have t:=C.out;rw[iu_]at t;exact⟨_,b++ [s.extract a s.size],rfl,f.out,by rw[Μ];exact t,A.out,s_⟩
theorem vu_ {a b:Nat}(h:a+j<b)(hb:b<=s.size):(sub s a b)[j]? =some (θ s (a+j)):=by
 unfold sub;rw[getElem?_drop,getElem?_take_of_lt h,m3_ o_]
theorem adp_ {a b:Nat}(h:a<=b)(hb:b<=s.size):(txt s).drop a=sub s a b++(txt s).drop b:=by
 have c:=j2_ (s:=s) h hb;have d:sub s b s.size=(txt s).drop b:=by unfold sub;rw[tk_ (by rw[bm_];omega)]
 have e:sub s a s.size=(txt s).drop a:=by unfold sub;rw[tk_ (by rw[bm_];omega)]
 rw[<-d,<-e,c]
theorem vv_ {z:Nat}(hsub:sub s i (i+(l.length+1))=l++ [z])(hle:i+(l.length+1)<=s.size)(hz:z∉l)(j:Nat)(hj:i<=j)(hj2:j<=i+l.length):(θ s j=z↔j=i+l.length):=by
 have c:=vu_ (s:=s) (a:=i) (b:=i+(l.length+1)) (j:=j - i) o_ hle;rw[hsub,show i+(j - i)=j by omega]at c;by_cases e:j - i<l.length
 . rw[gl_ e]at c;have d:θ s j∈l:=mem_of_getElem? c;constructor
   . intro h;rw[h]at d;exact absurd d hz
   . intro h;omega
 . rw[getElem?_append_right o_,show j - i - l.length=0 by omega]at c;simp at c;exact⟨fun _=>o_,fun _=>c.symm⟩
theorem j6_ {n:Nat}(hsub:sub s i (i+n)=c::l)(hle:i+n<=s.size)(hn:0<n):θ s i=c:=by
 have d:=vu_ (s:=s) (a:=i) (b:=i+n) (j:=0) o_ hle;rw[hsub]at d;simpa using d.symm
theorem vw_ (s:ByteArray)(i:Nat)(l:List Nat)(w:World)(hs:s.size<=40)(hsub:sub s i (i+(l.length+2))=91::l++ [93])(hle:i+(l.length+2)<=s.size)(hz:93∉l):
 Calls prog 147 #[.string s,.int .i64 (i:Int)] w fun e w'=>e= .returned (.int .i64 ((i+(l.length+2):Nat):Int))/\w=w':=by
 have c:=vv_ (l:=91::l) (z:=93) (i:=i) (s:=s) hsub hle (by simp[hz]);have f:θ s i=91:=j6_ hsub hle o_;simp only[length_cons]at c;have p:i<s.size:=o_;have b:=cp_ p;rw[f]at b;have t40:((s[i].toNat:Int)==40)=false:=by rw[<-b];rfl
 have t91:((s[i].toNat:Int)==91)=true:=by rw[<-b];rfl
 have g:=α c;clear c hsub hz f b;go_enter func147,ntmps147;go_wp2_with fail;go_loop [1] (fun j'=>∃j:Nat,j'= .int .i64 (j:Int)/\i<=j/\j<=i+(l.length+1)) (fun j'=>100 - (intOf j').toNat)
 case atStart=>exact⟨i,rfl,ι,o_⟩
 case round=>
  obtain⟨j,rfl,m,n⟩:=hrel;clear t40 t91;have o:j<s.size:=o_;have d:=cp_ o;have a:=g.out j m n;rw[d]at a;by_cases e:j=i+(l.length+1)
  . have t93:((s[j].toNat:Int) !=93)=false:=by rw[a.2 e];rfl
    have k:=α e;clear a d e;go_wp2_with fail;go_ret;exact⟨hu_ (by rw[k.out];omega),rfl⟩
  . have t93:((s[j].toNat:Int) !=93)=true:=by
     have:s[j].toNat≠93:=fun h=>e (a.1 h)
     simp only[bne_iff_ne,ne_eq];omega
    clear a d;go_wp2_with fail;go_round
    case rel=>exact⟨j+1,by go_num,o_,o_⟩
    case measure=>exact c_
theorem vx_ (s:ByteArray)(i:Nat)(w:World)(hs:s.size<=40)(hlt:i<s.size)(h1:θ s i≠40)(h2:θ s i≠91):
 Calls prog 147 #[.string s,.int .i64 (i:Int)] w fun e w'=>e= .returned (.int .i64 ((i+1:Nat):Int))/\w=w':=by
 have a:=cp_ hlt;rw[a]at h1 h2;have t40:((s[i].toNat:Int)==40)=false:=by simp only[bq_,ne_eq];omega
 have t91:((s[i].toNat:Int)==91)=false:=by simp only[bq_,ne_eq];omega
 clear h1 h2 a;go_enter func147,ntmps147;go_wp2_with fail;go_ret;exact⟨hu_ o_,rfl⟩
theorem adq_ (s:ByteArray)(i r:Nat)(w:World)(hs:s.size<=40)(hlt:i<s.size)(h1:θ s i=40)(hr:cx_ ((txt s).drop i) 0 i=r)(hr2:r<=40):
 Calls prog 147 #[.string s,.int .i64 (i:Int)] w fun e w'=>e= .returned (.int .i64 ((r+1:Nat):Int))/\w=w':=by
 have a:=cp_ hlt;rw[h1]at a;have t40:((s[i].toNat:Int)==40)=true:=by rw[<-a];rfl
 have b:=ado_ s i w hs o_;rw[hr]at b;clear h1 a hr;go_enter func147,ntmps147;go_wp2_with (go_at_call 174;refine b.mono ?_;rintro e w' ⟨rfl,rfl⟩);go_ret;exact⟨hu_ o_,rfl⟩
theorem adr_ (s:ByteArray)(i k:Nat)(la:List Nat)(q:ζ)(w:World)(hs:s.size<=40)(h:dq_ k la q)(hsub:sub s i (i+la.length)=la)(hle:i+la.length<=s.size):
 Calls prog 147 #[.string s,.int .i64 (i:Int)] w fun e w'=>e= .returned (.int .i64 ((i+la.length:Nat):Int))/\w=w':=by
 have j:∀ {la:List Nat} {q:ζ},f9_ la q->sub s i (i+la.length)=la->i+la.length<=s.size->Calls prog 147 #[.string s,.int .i64 (i:Int)] w fun e w'=>e= .returned (.int .i64 ((i+la.length:Nat):Int))/\w=w':=by
  intro la q h hsub hle;rcases h with ⟨c,p,rfl,_⟩|⟨rfl,_⟩|⟨a,_,m,⟨rfl,_⟩|⟨rfl,_⟩⟩
  . have d:=j6_ hsub hle i_;exact vx_ s i w hs (by simp at hle;omega) o_ o_
  . have d:=j6_ hsub hle i_;exact vx_ s i w hs (by simp at hle;omega) o_ o_
  . have g:93∉a.flatMap Prt.text:=fun hm=>by have:=ow_ m 93 hm;omega
    have f:(91::a.flatMap Prt.text++ [93]:List Nat).length=(a.flatMap Prt.text).length+2:=i_;rw[f]at hsub hle ⊢;exact vw_ s i (a.flatMap Prt.text) w hs hsub hle g
  . have g:93∉94::a.flatMap Prt.text:=fun hm=>by
     rcases mc_.1 hm with h|h
     . omega
     . have:=ow_ m 93 h;omega
    have f:(91::94::a.flatMap Prt.text++ [93]:List Nat).length=(94::a.flatMap Prt.text).length+2:=i_;rw[f]at hsub hle ⊢;exact vw_ s i (94::a.flatMap Prt.text) w hs hsub hle g
 cases k with
 |zero=>exact j h hsub hle
 |succ k=>
  rcases h with h|⟨b,rfl,h⟩
  . exact j h hsub hle
  . have n:(40::b++ [41]).length=b.length+2:=i_;have d:θ s i=40:=j6_ (l:=b++ [41]) hsub hle o_;have o:cx_ ((txt s).drop i) 0 i=i+1+b.length:=by
     rw[adp_ (show i<=i+(40::b++ [41]).length by omega) hle,hsub];exact acw_ (u7_ k) h i _
    have:=adq_ s i _ w hs o_ d o o_;rw[n];rw[show i+1+b.length+1=i+(b.length+2)by omega]at this;exact this
theorem ads_ (s:ByteArray)(i:Nat)(w:World)(hs:s.size<=40)(hi:i<=s.size)(h:i<s.size->θ s i≠42/\θ s i≠43/\θ s i≠63/\θ s i≠123):
 Calls prog 148 #[.string s,.int .i64 (i:Int)] w fun e w'=>e= .returned (.int .i64 (i:Int))/\w=w':=by
 by_cases c:i<s.size
 . have b:=cp_ c;have a:=h c;rw[b]at a;have d:¬(s.size:Int)<=(i:Int):=o_;have t42:((s[i].toNat:Int)==42)=false:=by simp only[bq_,ne_eq];omega
   have t43:((s[i].toNat:Int)==43)=false:=by simp only[bq_,ne_eq];omega
   have t63:((s[i].toNat:Int)==63)=false:=by simp only[bq_,ne_eq];omega
   have t123:((s[i].toNat:Int)==123)=false:=by simp only[bq_,ne_eq];omega
   clear h a b;go_enter func148,ntmps148;go_wp2_with fail;go_ret;exact⟨rfl,rfl⟩
 . have d:(s.size:Int)<=(i:Int):=o_;clear h;go_enter func148,ntmps148;go_wp2_with fail;go_ret;exact⟨rfl,rfl⟩
theorem rc_ (s:ByteArray)(i:Nat)(w:World)(hs:s.size<=40)(hlt:i<s.size)(h:θ s i=42\/θ s i=43\/θ s i=63):
 Calls prog 148 #[.string s,.int .i64 (i:Int)] w fun e w'=>e= .returned (.int .i64 ((i+1:Nat):Int))/\w=w':=by
 have a:=cp_ hlt;rw[a]at h;have b:¬(s.size:Int)<=(i:Int):=o_;rcases h with h|h|h
 . have t42:((s[i].toNat:Int)==42)=true:=by rw[h];rfl
   clear h a;go_enter func148,ntmps148;go_wp2_with fail;go_ret;exact⟨hu_ o_,rfl⟩
 . have t42:((s[i].toNat:Int)==42)=false:=by rw[h];rfl
   have t43:((s[i].toNat:Int)==43)=true:=by rw[h];rfl
   clear h a;go_enter func148,ntmps148;go_wp2_with fail;go_ret;exact⟨hu_ o_,rfl⟩
 . have t42:((s[i].toNat:Int)==42)=false:=by rw[h];rfl
   have t43:((s[i].toNat:Int)==43)=false:=by rw[h];rfl
   have t63:((s[i].toNat:Int)==63)=true:=by rw[h];rfl
   clear h a;go_enter func148,ntmps148;go_wp2_with fail;go_ret;exact⟨hu_ o_,rfl⟩
theorem rd_ (s:ByteArray)(i:Nat)(l:List Nat)(w:World)(hs:s.size<=40)(hsub:sub s i (i+(l.length+2))=123::l++ [125])(hle:i+(l.length+2)<=s.size)(hz:125∉l):
 Calls prog 148 #[.string s,.int .i64 (i:Int)] w fun e w'=>e= .returned (.int .i64 ((i+(l.length+2):Nat):Int))/\w=w':=by
 have c:=vv_ (l:=123::l) (z:=125) (i:=i) (s:=s) hsub hle (by simp[hz]);have f:θ s i=123:=j6_ hsub hle o_;simp only[length_cons]at c;have p:i<s.size:=o_;have a:=cp_ p;rw[f]at a;have q:¬(s.size:Int)<=(i:Int):=o_;have t42:((s[i].toNat:Int)==42)=false:=by rw[<-a];rfl
 have t43:((s[i].toNat:Int)==43)=false:=by rw[<-a];rfl
 have t63:((s[i].toNat:Int)==63)=false:=by rw[<-a];rfl
 have t123:((s[i].toNat:Int)==123)=true:=by rw[<-a];rfl
 have g:=α c;clear c hsub hz f a;go_enter func148,ntmps148;go_wp2_with fail;go_loop [1] (fun j'=>∃j:Nat,j'= .int .i64 (j:Int)/\i<=j/\j<=i+(l.length+1)) (fun j'=>100 - (intOf j').toNat)
 case atStart=>exact⟨i,rfl,ι,o_⟩
 case round=>
  obtain⟨j,rfl,m,n⟩:=hrel;clear t42 t43 t63 t123 q;have o:j<s.size:=o_;have d:=cp_ o;have b:=g.out j m n;rw[d]at b;by_cases e:j=i+(l.length+1)
  . have t93:((s[j].toNat:Int) !=125)=false:=by rw[b.2 e];rfl
    have k:=α e;clear b d e;go_wp2_with fail;go_ret;exact⟨hu_ (by rw[k.out];omega),rfl⟩
  . have t93:((s[j].toNat:Int) !=125)=true:=by
     have:s[j].toNat≠125:=fun h=>e (b.1 h)
     simp only[bne_iff_ne,ne_eq];omega
    clear b d;go_wp2_with fail;go_round
    case rel=>exact⟨j+1,by go_num,o_,o_⟩
    case measure=>exact c_
theorem adt_ (s:ByteArray)(i:Nat)(m:Mk)(w:World)(hs:s.size<=40)(hm:m.ok)(hsub:sub s i (i+m.text.length)=m.text)(hle:i+m.text.length<=s.size)(hno:m= .none->i<s.size->θ s i≠42/\θ s i≠43/\θ s i≠63/\θ s i≠123):
 Calls prog 148 #[.string s,.int .i64 (i:Int)] w fun e w'=>e= .returned (.int .i64 ((i+m.text.length:Nat):Int))/\w=w':=by
 cases m with
 |none=>exact ads_ s i w hs (by have:i+0<=s.size:=hle;omega) (hno rfl)
 |star=>exact rc_ s i w hs (by simp[Mk.text]at hle;omega) (.inl (j6_ hsub hle (by simp[Mk.text])))
 |plus=>exact rc_ s i w hs (by simp[Mk.text]at hle;omega) (.inr (.inl (j6_ hsub hle (by simp[Mk.text]))))
 |opt=>exact rc_ s i w hs (by simp[Mk.text]at hle;omega) (.inr (.inr (j6_ hsub hle (by simp[Mk.text]))))
 |just n=>exact rd_ s i [48+n] w hs hsub hle (by have:n<=9:=hm;simp;omega)
 |more n=>exact rd_ s i [48+n,44] w hs hsub hle (by have:n<=9:=hm;simp;omega)
 |span n m=>exact rd_ s i [48+n,44,48+m] w hs hsub hle (by have:n<=m/\m<=9:=hm;simp;omega)
theorem re_ (h:txt m=l):m.toList=l.map UInt8.ofNat:=by
 rw[ByteArray.toList_eq,<-h];unfold txt;rw[map_map];have:(UInt8.ofNat ∘ UInt8.toNat)=id:=by funext x;simp
 rw[this,map_id]
theorem g0_ (h:txt m=l)(hj:j<l.length):j<m.size/\θ m j=l.getD j 0:=by
 have b:m.size=l.length:=by rw[<-bm_,h]
 have:=m3_ (s:=m) (a:=j) o_;rw[h]at this;exact⟨o_,by rw[gd_,this];rfl⟩
theorem k0_ (mk:Mk)(m:ByteArray)(w:World)(hm:mk.ok)(h:txt m=mk.text):Calls prog 149 #[.string m] w fun e w'=>e= .returned (.tuple #[.int .i64 (mk.lo:Int),.int .i64 mk.hi])/\Bl w w':=by
 have a:=re_ h;cases mk with
 |none=>
  simp only[Mk.text,List.map]at a;have d:m.toList.isEmpty=true:=by rw[a];rfl
  clear a h hm;go_enter func149,ntmps149;go_wp2_with fail;go_ret2;exact⟨rfl,μ⟩
 |star=>
  simp only[Mk.text,List.map]at a;have d:m.toList.isEmpty=false:=by rw[a];rfl
  have f:(m.toList==[42])=true:=by rw[a];rfl
  clear a h hm;go_enter func149,ntmps149;go_wp2_with fail;go_ret2;exact⟨rfl,μ⟩
 |plus=>
  simp only[Mk.text,List.map]at a;have d:m.toList.isEmpty=false:=by rw[a];rfl
  have f:(m.toList==[42])=false:=by rw[a];rfl
  have i:(m.toList==[43])=true:=by rw[a];rfl
  clear a h hm;go_enter func149,ntmps149;go_wp2_with fail;go_ret2;exact⟨rfl,μ⟩
 |opt=>
  simp only[Mk.text,List.map]at a;have d:m.toList.isEmpty=false:=by rw[a];rfl
  have f:(m.toList==[42])=false:=by rw[a];rfl
  have i:(m.toList==[43])=false:=by rw[a];rfl
  have l:(m.toList==[63])=true:=by rw[a];rfl
  clear a h hm;go_enter func149,ntmps149;go_wp2_with fail;go_ret2;exact⟨rfl,μ⟩
 |just n=>
  obtain⟨g,c⟩:=g0_ h (j:=1) (by simp[Mk.text]);have u:m.size=3:=by rw[<-bm_,h];rfl
  have b:m[1].toNat=48+n:=by rw[<-cp_ g,c];rfl
  simp only[Mk.text,List.map]at a;have d:m.toList.isEmpty=false:=by rw[a];rfl
  have f:(m.toList==[42])=false:=by rw[a];rfl
  have i:(m.toList==[43])=false:=by rw[a];rfl
  have l:(m.toList==[63])=false:=by rw[a];rfl
  have t:n<=9:=hm;have o:=α b;have v:((m[1].toNat:Int)- 48)=(n:Int):=by rw[b];omega
  have q:(48:Int)<=(m[1].toNat:Int):=by rw[b];omega
  have r:(m[1].toNat:Int)<=57:=by rw[b];omega
  clear a h c b;go_enter func149,ntmps149;go_wp2_with fail;go_ret2;exact⟨rfl,μ⟩
 |more n=>
  obtain⟨g,c⟩:=g0_ h (j:=1) (by simp[Mk.text]);have u:m.size=4:=by rw[<-bm_,h];rfl
  have b:m[1].toNat=48+n:=by rw[<-cp_ g,c];rfl
  simp only[Mk.text,List.map]at a;have d:m.toList.isEmpty=false:=by rw[a];rfl
  have f:(m.toList==[42])=false:=by rw[a];rfl
  have i:(m.toList==[43])=false:=by rw[a];rfl
  have l:(m.toList==[63])=false:=by rw[a];rfl
  have t:n<=9:=hm;have o:=α b;have v:((m[1].toNat:Int)- 48)=(n:Int):=by rw[b];omega
  have q:(48:Int)<=(m[1].toNat:Int):=by rw[b];omega
  have r:(m[1].toNat:Int)<=57:=by rw[b];omega
  clear a h c b;go_enter func149,ntmps149;go_wp2_with fail;go_ret2;exact⟨rfl,μ⟩
 |span n k=>
  obtain⟨g,c⟩:=g0_ h (j:=1) (by simp[Mk.text]);have u:m.size=5:=by rw[<-bm_,h];rfl
  have b:m[1].toNat=48+n:=by rw[<-cp_ g,c];rfl
  simp only[Mk.text,List.map]at a;have d:m.toList.isEmpty=false:=by rw[a];rfl
  have f:(m.toList==[42])=false:=by rw[a];rfl
  have i:(m.toList==[43])=false:=by rw[a];rfl
  have l:(m.toList==[63])=false:=by rw[a];rfl
  have t:n<=k/\k<=9:=hm;obtain⟨x,p⟩:=g0_ h (j:=3) (by simp[Mk.text]);have s:m[3].toNat=48+k:=by rw[<-cp_ x,p];rfl
  have y:((m[3].toNat:Int)- 48)=(k:Int):=by rw[s];omega
  have z:IntKind.u8.wrap ((m[3].toNat:Int)- 48)=(k:Int):=by rw[y,IntKind.wrap_u8];omega
  have A:IntKind.i64.wrap (k:Int)=(k:Int):=by rw[IntKind.wrap_i64];omega
  clear p s;have o:=α b;have v:((m[1].toNat:Int)- 48)=(n:Int):=by rw[b];omega
  have q:(48:Int)<=(m[1].toNat:Int):=by rw[b];omega
  have r:(m[1].toNat:Int)<=57:=by rw[b];omega
  clear a h c b;go_enter func149,ntmps149;go_wp2_with fail;go_quiet (fail);go_wp2_with fail;go_ret2;exact⟨rfl,below_drewN μ nq⟩
end Go.Proofs.YtpngikmcjkjdaaaGreatDoor
