import Derived.Test.YtpngikmcjkjdaaaGreatDoorG0
import Derived.WalkKit
import Derived.WalkLawsBesides
import Derived.WalkSpells
import Derived.Test.YtpngikmcjkjdaaaGreatDoorProg
set_option linter.unusedVariables false
set_option linter.unusedSimpArgs false
set_option maxRecDepth 20000
set_option maxHeartbeats 80000000
namespace Go.Proofs.YtpngikmcjkjdaaaGreatDoor
open Go.RowKit Tryz
theorem bh_ {a b:Bool}(h:a=b):Ending.returned (.bool a)= .returned (.bool b):=by rw[h]
theorem ej_ {k:IntKind}{a b:Int}(h:a=b):Ending.returned (.int k a)= .returned (.int k b):=by rw[h]
theorem cu_ {W w1:World}(hb:Below W.heap.size W w1):(∀b o,b<W.heap.size->w1.cell? ⟨b,o,none⟩=W.cell? ⟨b,o,none⟩)/\(∀b o,b<W.heap.size->w1.frozen? ⟨b,o,none⟩=W.frozen? ⟨b,o,none⟩):=
 ⟨fun b o h=>hb.cell (p:=⟨b,o,none⟩) h,fun b o h=>hb.frozen (p:=⟨b,o,none⟩) h⟩
theorem an_ {w:World}{b o:Nat}{v:Value}(h:w.cell? ⟨b,o,none⟩=some v):b<w.heap.size:=by
 rcases Nat.lt_or_ge b w.heap.size with hlt|hge
 . exact hlt
 . exfalso;have hn:w.heap[b]? =none:=s_;simp[World.cell?,hn]at h
theorem og_ (b:Int)(w:World)(h1:97<=b)(h2:b<=104):
 Calls prog 134 #[.int .u8 b] w fun e w'=>e= .returned (.bool true)/\w'=w:=by
 go_enter func134,ntmps134;go_wp2
 go_ret;exact⟨bh_ s_,rfl⟩
theorem p4_ (b:Int)(w:World)(h1:b<97\/104<b):
 Calls prog 134 #[.int .u8 b] w fun e w'=>e= .returned (.bool false)/\w'=w:=by
 rcases h1 with h|h
 . have h':¬97<=b:=o_;go_enter func134,ntmps134;go_wp2
   go_ret;exact⟨bh_ i_,rfl⟩
 . have h':97<=b:=o_;go_enter func134,ntmps134;go_wp2
   go_ret;exact⟨bh_ s_,rfl⟩
theorem kw_ (b:Int)(w:World)(h1:97<=b)(h2:b<=104):
 Calls prog 121 #[.int .u8 b] w fun e w'=>e= .returned (.tuple #[.int .i64 (b - 97),.bool true])/\w'=w:=by
 go_enter func121,ntmps121;go_wp2_with fail;refine(og_ b w h1 h2).mono ?_;rintro e w' ⟨rfl,rfl⟩;go_wp2
 go_ret2;exact⟨rfl,rfl⟩
theorem yg_ (b:Int)(w:World)(h1:b<97\/104<b):
 Calls prog 121 #[.int .u8 b] w fun e w'=>e= .returned (.tuple #[.int .i64 0,.bool false])/\w'=w:=by
 go_enter func121,ntmps121;go_wp2_with fail;refine(p4_ b w h1).mono ?_;rintro e w' ⟨rfl,rfl⟩;go_wp2
 go_ret2;exact⟨rfl,rfl⟩
theorem t7_ (ao:Option Addr)(l c:Nat)(n:Int)(w:World)(hl:l≠8)(hl2:l<=9223372036854775807):
 Calls prog 157 #[.slice ao l c,.int .i64 n] w fun e w'=>e= .returned (.bool false)/\w'=w:=by
 have hb:(((l:Nat):Int) !=8)=true:=by rw[bne_iff_ne];omega
 go_enter func157,ntmps157;go_wp2
 go_ret;exact⟨rfl,rfl⟩
def c8_ (f:Nat->Int)(n:Int):Nat->Bool
 |0=>true
 |k+1=>c8_ f n k&&(decide (0<=f k)&&decide (f k<n))
theorem l4_ (f:Nat->Int)(n:Int)(k:Nat):c8_ f n k=true↔∀c,c<k->0<=f c/\f c<n:=by
 induction k with
 |zero=>simp[c8_]
 |succ k ih=>
  simp only[c8_,Bool.and_eq_true,ih,decide_eq_true_eq];constructor
  . rintro⟨h,h1,h2⟩ c hc;by_cases e:c=k
    . subst e;exact⟨h1,h2⟩
    . exact h c o_
  . intro h;exact⟨fun c hc=>h c o_,h k o_⟩
theorem h8_ (f:Nat->Int)(n:Int)(k m:Nat)(hk:k<=m)(h:c8_ f n k=false):c8_ f n m=false:=by
 rw[Bool.eq_false_iff]at h ⊢;intro hm;apply h;rw[l4_]at hm ⊢;exact fun c hc=>hm c o_
theorem oh_ (b o c:Nat)(f:Nat->Int)(n:Int)(w:World)(hc:∀k,k<8->w.cell? ⟨b,o+k,none⟩=some (.int .i64 (f k))):
 Calls prog 157 #[.slice (some ⟨b,o,none⟩) 8 c,.int .i64 n] w fun e w'=>e= .returned (.bool (c8_ f n 8))/\w'=w:=by
 go_enter func157,ntmps157;go_wp2
 go_loop [6,12] (fun _ i=>∃k:Nat,k<=8/\i= .int .i64 k/\c8_ f n k=true) (fun _ i=>8 - (intOf i).toNat)
 case atStart=>exact⟨0,o_,rfl,rfl⟩
 case round=>
  obtain⟨k,hk,rfl,hr⟩:=hrel;by_cases hlt:k<8
  . have hck:=hc k hlt;by_cases h0:f k<0
    . have HF:Hid (c8_ f n 8=false):=by
       apply h8_ f n (k+1) 8 o_;simp only[c8_,hr,Bool.true_and,Bool.and_eq_false_iff,decide_eq_false_iff_not];left;omega
      clear hr hc;go_wp2
      go_ret;exact⟨bh_ HF.out.symm,rfl⟩
    . by_cases h1:f k<n
      . have HR:Hid (c8_ f n (k+1)=true):=by
         simp only[Hid,c8_,hr,Bool.true_and,Bool.and_eq_true,decide_eq_true_eq];omega
        clear hr hc;go_wp2
        go_round
        case rel=>exact⟨k+1,o_,by go_num,HR.out⟩
        case measure=>simp[intOf];omega
      . have HF:Hid (c8_ f n 8=false):=by
         apply h8_ f n (k+1) 8 o_;simp only[c8_,hr,Bool.true_and,Bool.and_eq_false_iff,decide_eq_false_iff_not];right;omega
        clear hr hc;go_wp2
        go_ret;exact⟨bh_ HF.out.symm,rfl⟩
  . have e:k=8:=o_;subst e;have HR:Hid (c8_ f n 8=true):=hr;clear hr hc;go_wp2
    go_ret;exact⟨bh_ HR.out.symm,rfl⟩
structure Tab where
 n:Nat
 acc:Nat->Bool
 nxt:Nat->Nat->Nat
structure Tab.Ok (M:Tab):Prop where
 lo:1<=M.n
 hi:M.n<=40
 nx:∀i c,i<M.n->c<8->M.nxt i c<M.n
def Tab.read (M:Tab)(s:Nat)(x:List Nat):Nat:=x.foldl M.nxt s
def Tab.accepts (M:Tab)(x:List Nat):Bool:=M.acc (M.read 0 x)
def ax_ (x:List Nat):Prop:=∀c∈x,c<8
theorem Tab.read_lt {M:Tab}(h:M.Ok)(s:Nat)(hs:s<M.n)(x:List Nat)(hx:ax_ x):M.read s x<M.n:=by
 induction x generalizing s with
 |nil=>exact hs
 |cons c x ih=>
  simp only[Tab.read,List.foldl_cons];exact ih (M.nxt s c) (h.nx s c hs (hx c i_)) (fun d hd=>hx d (by simp[hd]))
theorem Tab.read_append (M:Tab)(s:Nat)(x y:List Nat):M.read s (x++y)=M.read (M.read s x) y:=by simp[Tab.read]
theorem Tab.read_snoc (M:Tab)(s:Nat)(x:List Nat)(c:Nat):M.read s (x++ [c])=M.nxt (M.read s x) c:=by simp[Tab.read]
structure Lay where
 (ba oa ca bn on cn:Nat)
 (rb ro rc:Nat->Nat)
structure av_ (w:World)(V:Lay)(M:Tab):Prop where
 acc:∀i,i<M.n->w.cell? ⟨V.ba,V.oa+i,none⟩=some (.bool (M.acc i))
 row:∀i,i<M.n->w.cell? ⟨V.bn,V.on+i,none⟩=some (.slice (some ⟨V.rb i,V.ro i,none⟩) 8 (V.rc i))
 cel:∀i c,i<M.n->c<8->w.cell? ⟨V.rb i,V.ro i+c,none⟩=some (.int .i64 (M.nxt i c))
theorem av_.below {w w':World}{V:Lay}{M:Tab}(h:av_ w V M)(hb:Below w.heap.size w w'):av_ w' V M where
 acc i hi:=by rw[(cu_ hb).1 _ _ (an_ (h.acc i hi))];exact h.acc i hi
 row i hi:=by rw[(cu_ hb).1 _ _ (an_ (h.row i hi))];exact h.row i hi
 cel i c hi hc:=by rw[(cu_ hb).1 _ _ (an_ (h.cel i c hi hc))];exact h.cel i c hi hc
structure Lay.From (V:Lay)(N n:Nat):Prop where
 a:N<=V.ba
 b:N<=V.bn
 r:∀i,i<n->N<=V.rb i
theorem c6_ {w:World}{p q:Addr}{u:Value}(h:q.block≠p.block):(w.setCell p u).cell? q=w.cell? q:=World.cell?_of_block (Below.heap_setCell w p u q.block h)
theorem av_.set {w:World}{V:Lay}{M:Tab}(h:av_ w V M){N:Nat}(hV:V.From N M.n){p:Addr}(hp:p.block<N)(u:Value):av_ (w.setCell p u) V M where
 acc i hi:=by rw[c6_ (by have:=hV.a;simp;omega)];exact h.acc i hi
 row i hi:=by rw[c6_ (by have:=hV.b;simp;omega)];exact h.row i hi
 cel i c hi hc:=by rw[c6_ (by have:=hV.r i hi;simp;omega)];exact h.cel i c hi hc
theorem nm_ (V:Lay)(M:Tab)(w:World)(hM:M.Ok)(h:av_ w V M):
 Calls prog 120 #[.agg #[.slice (some ⟨V.ba,V.oa,none⟩) M.n V.ca,.slice (some ⟨V.bn,V.on,none⟩) M.n V.cn]] w
  fun e w'=>e= .returned (.bool true)/\Below w.heap.size w w':=by
 obtain⟨h1,h2,hnx⟩:=hM;generalize hn:M.n=n at*;have hs:n≠0:=o_;have B1:Below w.heap.size w (w.alloc (.cells #[.slice (some ⟨V.ba,V.oa,none⟩) n V.ca,.slice (some ⟨V.bn,V.on,none⟩) n V.cn] 41)):=br__.alloc lr__ _;have hrow:∀i,i<n->(w.alloc (.cells #[.slice (some ⟨V.ba,V.oa,none⟩) n V.ca,.slice (some ⟨V.bn,V.on,none⟩) n V.cn] 41)).cell? ⟨V.bn,V.on+i,none⟩=some (.slice (some ⟨V.rb i,V.ro i,none⟩) 8 (V.rc i)):=
  fun i hi=>(h.below B1).row i o_
 have hcel:∀i,i<n->∀c,c<8->(w.alloc (.cells #[.slice (some ⟨V.ba,V.oa,none⟩) n V.ca,.slice (some ⟨V.bn,V.on,none⟩) n V.cn] 41)).cell? ⟨V.rb i,V.ro i+c,none⟩=some (.int .i64 (M.nxt i c)):=
  fun i hi c hc=>(h.below B1).cel i c o_ hc
 have hok:∀i,i<n->c8_ (fun c=>(M.nxt i c:Int)) n 8=true:=by
  intro i hi;rw[l4_];intro c hc;have:=hnx i c hi hc;omega
 clear h hnx;go_enter func120,ntmps120;go_wp2
 go_loop [5,25] (fun _ i=>∃k:Nat,k<=n/\i= .int .i64 k) (fun _ i=>n - (intOf i).toNat)
 case atStart=>exact⟨0,o_,rfl⟩
 case round=>
  obtain⟨k,hk,rfl⟩:=hrel;by_cases hlt:k<n
  . have hr:=hrow k hlt;have hcl:=hcel k hlt;have hk8:=hok k hlt;clear hrow hcel hok;go_wp2_with (go_at_call 157;refine(oh_ _ _ _ (fun c=>(M.nxt k c:Int)) _ _ hcl).mono ?_;rw[hk8];rintro e w' ⟨rfl,rfl⟩);go_round
    case rel=>exact⟨k+1,o_,by go_num⟩
    case measure=>simp[intOf];omega
  . clear hrow hcel hok;go_wp2
    go_ret;exact⟨rfl,B1⟩
def bu_ (s:ByteArray):List Nat:=s.data.toList.map fun c=>c.toNat - 97
def ed_ (s:ByteArray):Prop:=∀c∈s.data.toList,97<=c.toNat/\c.toNat<=104
theorem sc_ {s:ByteArray}(h:ed_ s):ax_ (bu_ s):=by
 intro c hc;simp only[bu_,List.mem_map]at hc;obtain⟨b,hb,rfl⟩:=hc;have:=h b hb;omega
theorem ha_ (s:ByteArray):(bu_ s).length=s.size:=by simp[bu_]
theorem jb_ {s:ByteArray}(h:ed_ s)(k:Nat)(hk:k<s.size):97<=(s[k].toNat:Int)/\(s[k].toNat:Int)<=104:=by
 have:s[k]∈s.data.toList:=by
  rw[Array.mem_toList_iff];exact Array.getElem_mem (xs:=s.data) hk
 have:=h _ this;omega
theorem l5_ (s:ByteArray)(k:Nat)(h:k<s.size):(bu_ s).take (k+1)=(bu_ s).take k++ [s[k].toNat - 97]:=by
 rw[List.take_succ_eq_append_getElem (by rw[ha_];exact h)];congr 2
 simp[bu_];rfl
def jc_ (pv:Nat):UInt8:=UInt8.ofNat (97+pv)
theorem wb_ (pv:Nat)(h:pv<8):(jc_ pv).toNat=97+pv:=by
 unfold jc_;rw[UInt8.toNat_ofNat'];omega
theorem oi_ {x:List Nat}(h:ax_ x)(k:Nat):ax_ (x.take k):=fun c hc=>h c (List.mem_of_mem_take hc)
theorem adz_ (V:Lay)(M:Tab)(s:ByteArray)(w:World)(hM:M.Ok)(h:av_ w V M)(hs:ed_ s)(hl:s.size<=1000):
 Calls prog 74 #[.agg #[.slice (some ⟨V.ba,V.oa,none⟩) M.n V.ca,.slice (some ⟨V.bn,V.on,none⟩) M.n V.cn],.string s] w
  fun e w'=>e= .returned (.tuple #[.bool (M.accepts (bu_ s)),.int .i64 0])/\Below w.heap.size w w':=by
 have hlo:=hM.lo;have hhi:=hM.hi;have B1:Below w.heap.size w (w.alloc (.cells #[.slice (some ⟨V.ba,V.oa,none⟩) M.n V.ca,.slice (some ⟨V.bn,V.on,none⟩) M.n V.cn] 41)):=br__.alloc lr__ _;have h1:=h.below B1;go_enter func74,ntmps74;go_wp2_with fail;refine(nm_ V M _ hM h1).mono ?_;rintro e w1 ⟨rfl,hb1⟩;have hc0:=(cu_ hb1).1 w.heap.size 0 i_;have hc1:=(cu_ hb1).1 w.heap.size 1 i_;have h2:=h1.below hb1;have B2:Below w.heap.size w w1:=B1.trans (hb1.mono i_);simp at hc0 hc1;clear h h1 hb1;go_wp2_with fail;go_loop [6,7,8,9] (fun st i _ _=>∃k:Nat,k<=s.size/\i= .int .i64 k/\st= .int .i64 (M.read 0 ((bu_ s).take k))) (fun _ i _ _=>s.size - (intOf i).toNat)
 case atStart=>exact⟨0,Nat.zero_le _,rfl,rfl⟩
 case round=>
  obtain⟨k,hk,rfl,rfl⟩:=hrel;have hst:=Tab.read_lt hM 0 o_ _ (oi_ (sc_ hs) k);by_cases hlt:k<s.size
  . have hch:=jb_ hs k hlt;have HT:=l5_ s k hlt;have hc8:(s[k].toNat - 97:Nat)<8:=o_;have HS:Hid (((M.read 0 ((bu_ s).take (k+1)):Nat):Int)=(M.nxt (M.read 0 ((bu_ s).take k)) (s[k].toNat - 97):Nat)):=by
     unfold Hid;rw[HT,Tab.read_snoc]
    generalize M.read 0 ((bu_ s).take k)=q at*;have hr:=h2.row q hst;have hcl:=h2.cel q _ hst hc8;have e1:((s[k].toNat:Int)- 97).toNat=s[k].toNat - 97:=o_;clear HT h2;go_wp2_with (go_at_call 121;refine(kw_ _ _ hch.1 hch.2).mono ?_;rintro e w' ⟨rfl,rfl⟩);go_round
    case rel=>exact⟨k+1,o_,by go_num,by rw[HS.out]⟩
    case measure=>simp[intOf];omega
  . have e:k=s.size:=o_;subst e;rw[List.take_of_length_le (by rw[ha_];omega)]at hst ⊢;have HS:Hid (M.accepts (bu_ s)=M.acc (M.read 0 (bu_ s))):=rfl;generalize M.read 0 (bu_ s)=q at*;have ha:=h2.acc q hst;go_wp2
    go_ret2;exact⟨by rw[HS.out];rfl,B2⟩
def ba_ (s:ByteArray):Nat->Bool
 |0=>true
 |k+1=>ba_ s k&&(decide (97<=(s.data.toList.getD k 0).toNat)&&decide ((s.data.toList.getD k 0).toNat<=104))
theorem oj_ (s:ByteArray)(k:Nat):ba_ s k=true↔∀j,j<k->97<=(s.data.toList.getD j 0).toNat/\(s.data.toList.getD j 0).toNat<=104:=by
 induction k with
 |zero=>simp[ba_]
 |succ k ih=>
  simp only[ba_,Bool.and_eq_true,ih,decide_eq_true_eq];constructor
  . rintro⟨h,h1⟩ c hc;by_cases e:c=k
    . subst e;exact h1
    . exact h c o_
  . intro h;exact⟨fun c hc=>h c o_,h k o_⟩
theorem jv_ (s:ByteArray)(k m:Nat)(hk:k<=m)(h:ba_ s k=false):ba_ s m=false:=by
 rw[Bool.eq_false_iff]at h ⊢;intro hm;apply h;rw[oj_]at hm ⊢;exact fun c hc=>hm c o_
theorem l6_ (s:ByteArray)(k:Nat)(hk:k<s.size):s.data.toList.getD k 0=s[k]:=by
 rw[List.getD_eq_getElem?_getD,List.getElem?_eq_getElem (by rw[Array.length_toList];exact hk)];rfl
theorem ek_ (s:ByteArray):ba_ s s.size=true↔ed_ s:=by
 rw[oj_];constructor
 . intro h c hc;obtain⟨j,hj,rfl⟩:=List.getElem_of_mem hc;have:=h j (by rw[Array.length_toList]at hj;exact hj);rw[List.getD_eq_getElem?_getD,List.getElem?_eq_getElem hj]at this;exact this
 . intro h j hj;have hj':j<s.data.toList.length:=by rw[Array.length_toList];exact hj
   rw[List.getD_eq_getElem?_getD,List.getElem?_eq_getElem hj'];exact h _ (List.getElem_mem hj')
theorem nn_ {P:Program}(w:World)(base:Nat)(t ty e:TypeId)(i:TypeInfo)(z:Value)(size bytes:Nat)(ht:P.underlying t=some (.slice e))(hi:P.info? e=some i)(hz:i.zero=some z)
 (hsize:i.size=size) (hby:i.bytes=bytes) (hzs:z.cells.size=size) (hsz:0<size)
 (v:Value) (n:Nat) (xs:List Value) (hown:w.ownsRow base e size v n xs)
 (a:Addr) (m c:Nat) (news:List Value) (hl:news.length=m*size) (hnews:∀j u,news[j]? =some u->w.cell? (a.add j)=some u) (h1:∀u∈news,u.oneCell'=true) (hm:0<m)
 (h63:n+m<=maxLen) (hbytes:(n+m)*bytes<=140737488355328) (hbase:base<=w.heap.size):
 ∃g cap w',(Builtin.append_ #[t,t] ty #[v,.slice (some a) m c]).run P w= .ok (.slice (some ⟨g,0,none⟩) (n+m) cap) w'/\w'.ownsRow base e size (.slice (some ⟨g,0,none⟩) (n+m) cap) (n+m) (xs++news)/\
  w.grownBy w' v.ownBlock/\(v.ownBlock=some g\/g=w.heap.size):=by
 obtain⟨v',w',hr,h2,h3,h4⟩:=run_append_own (P:=P) w base t ty e i z size bytes ht hi hz hsize hby hzs hsz v n xs hown a m c news hl hnews h1 h63 hbytes hbase;subst hsize;subst hby;have hsmall:n+m<=9223372036854775807:=by simp only[maxLen]at h63;omega
 rcases hown.2 with ⟨rfl,rfl⟩|⟨g,cap,cur,rfl,hbg,hg,hnc,hcm,hcs,htake⟩
 . have hr2:=run_append_nil (P:=P) w t ty e i z ht hi hz a m c news hl hnews hm o_ (by have hb:=hbytes;simp only[Nat.zero_add]at hb;omega);rw[hr]at hr2;injection hr2 with e1 e2;rw[show m=0+m by omega]at e1;subst e1;exact⟨_,_,w',hr,h2,h3,.inr rfl⟩
 . by_cases hroom:n+m<=cap
   . have hfit:n*i.size+news.length<=cur.size:=by rw[hl,hcs,<-Nat.add_mul];exact Nat.mul_le_mul_right _ hroom
     have hr2:=run_append_room (P:=P) w t ty e i ht hi g n cap cur hg a m c news hl hnews h1 hroom hfit;rw[hr]at hr2;injection hr2 with e1 e2;subst e1;exact⟨_,_,w',hr,h2,h3,.inl rfl⟩
   . have holds:∀j u,xs[j]? =some u->w.cell? ((⟨g,0,none⟩:Addr).add j)=some u:=hown.cells (g:=g) rfl;have hr2:=run_append_grow (P:=P) w t ty e i z ht hi hz ⟨g,0,none⟩ n cap xs hown.1 holds a m c news hl hnews o_ o_ (growslice_fits o_ hbytes);rw[hr]at hr2;injection hr2 with e1 e2;subst e1;exact⟨_,_,w',hr,h2,h3,.inr rfl⟩
theorem ae_ {P:Program}(w:World){ops:Array Oper}{rest:List Oper}{o:Oper}{a:Act}{Q:Exit->Act->World->Prop}(hgd:o.guard=none)(s x:Operand)(t:TypeId)
 (ho:o.op= .call {callee:= .builtin .append,args:= #[s,x],argTypes:= #[t,t]})
 (base:Nat) (e:TypeId) (i:TypeInfo) (z:Value) (size bytes:Nat) (ht:P.underlying t=some (.slice e)) (hi:P.info? e=some i) (hz:i.zero=some z)
 (hsize:i.size=size) (hby:i.bytes=bytes) (hzs:z.cells.size=size) (hsz:0<size)
 (v:Value) (n:Nat) (xs:List Value) (hs:a.eval s=v) (hown:w.ownsRow base e size v n xs)
 (ad:Addr) (m c:Nat) (news:List Value) (hx:a.eval x= .slice (some ad) m c) (hl:news.length=m*size) (hnews:∀j u,news[j]? =some u->w.cell? (ad.add j)=some u) (h1:∀u∈news,u.oneCell'=true) (hm:0<m)
 (h63:n+m<=maxLen) (hbytes:(n+m)*bytes<=140737488355328) (hbase:base<=w.heap.size)
 (h:∀g cap w',w'.ownsRow base e size (.slice (some ⟨g,0,none⟩) (n+m) cap) (n+m) (xs++news)->w.grownBy w' v.ownBlock->(v.ownBlock=some g\/g=w.heap.size)->
  wpList P ops Q rest (a.put o.dst (.slice (some ⟨g,0,none⟩) (n+m) cap)) w'):wpList P ops Q (o::rest) a w:=by
 refine wpList_plain hgd fun K hK=> ?_
 obtain⟨g,cap,w',hr,h2,h3,h4⟩:=nn_ (P:=P) w base t o.type e i z size bytes ht hi hz hsize hby hzs hsz v n xs hown ad m c news hl hnews h1 hm h63 hbytes hbase;unfold Oper.wp execOp;simp only[ho,resolve,invoke,builtin,Sem.run_bind,Sem.run_pure,Result.andThen_ok,List.map_toArray,List.map_cons,List.map_nil,hs,hx,hr];exact hK _ _ (h g cap w' h2 h3 h4)
theorem aa_ {w:World}{b:Nat}{x y:Value}{t:TypeId}(h:w.heap[b]? =some (.cells #[x,y] t (0,0))):w.cell? ⟨b,0,none⟩=some x/\w.cell? ⟨b,1,none⟩=some y/\w.frozen? ⟨b,0,none⟩=false/\w.frozen? ⟨b,1,none⟩=false:=by
 simp[World.cell?,World.frozen?,h]
theorem bg_ {w:World}{b:Nat}{x y u:Value}{t:TypeId}(h:w.heap[b]? =some (.cells #[x,y] t (0,0))):(w.setCell ⟨b,0,none⟩ u).heap[b]? =some (.cells #[u,y] t (0,0)):=by
 simp[World.setCell,Array.getElem?_modify,h]
theorem c7_ {w:World}{b:Nat}{x y u:Value}{t:TypeId}(h:w.heap[b]? =some (.cells #[x,y] t (0,0))):(w.setCell ⟨b,1,none⟩ u).heap[b]? =some (.cells #[x,u] t (0,0)):=by
 simp[World.setCell,Array.getElem?_modify,h]
theorem a7_ {w:World}{b:Nat}{x y u v:Value}{t:TypeId}(h:w.heap[b]? =some (.cells #[x,y] t (0,0))):
 (w.setCell ⟨b,0,none⟩ u).cell? ⟨b,0,none⟩=some u/\((w.setCell ⟨b,0,none⟩ u).setCell ⟨b,1,none⟩ v).cell? ⟨b,1,none⟩=some v/\((w.setCell ⟨b,0,none⟩ u).setCell ⟨b,1,none⟩ v).cell? ⟨b,0,none⟩=some u:=
 ⟨(aa_ (bg_ h)).1,(aa_ (c7_ (bg_ h))).2.1,(aa_ (c7_ (bg_ h))).1⟩
theorem aj_ {w:World}{a:Addr}{u:Value}{k:Nat}{o:Obj}(h:w.heap[k]? =some o)(hne:k≠a.block):(w.setCell a u).heap[k]? =some o:=by
 rw[Below.heap_setCell w a u k hne];exact h
theorem ac_ {w:World}{b:Nat}{o:Obj}(h:w.heap[b]? =some o):b<w.heap.size:=(Array.getElem?_eq_some_iff.1 h).1
structure bd_ (W:World)(b:Nat)(t e0 s0 e1 s1:Nat)(w:World)(v0 v1:Value)(n0 n1:Nat)(x0 x1:List Value):Prop where
 blw:Below b W w
 blk:w.heap[b]? =some (.cells #[v0,v1] t (0,0))
 own0:w.ownsRow (b+1) e0 s0 v0 n0 x0
 own1:w.ownsRow (b+1) e1 s1 v1 n1 x1
 dis:∀g,v0.ownBlock=some g->v1.ownBlock=some g->False
variable {W:World} {b t e0 s0 e1 s1:Nat} {w w1 w2:World} {v0 v1:Value} {n0 n1:Nat} {x0 x1:List Value}
theorem al_ {base e size n:Nat}{v:Value}{xs:List Value}(h:w.ownsRow base e size v n xs)(hb:Below w.heap.size w w1):w1.ownsRow base e size v n xs:=
 h.kept (row:=none) ⟨hb.os,hb.tape,hb.output,hb.size,fun k hk _=>hb.block k hk⟩ (by cases hv:v.ownBlock<;>simp)
theorem bd_.below (h:bd_ W b t e0 s0 e1 s1 w v0 v1 n0 n1 x0 x1)(hb:Below w.heap.size w w1):bd_ W b t e0 s0 e1 s1 w1 v0 v1 n0 n1 x0 x1 where
 blw:=h.blw.trans (hb.mono (by have:=ac_ h.blk;omega))
 blk:=by rw[hb.block b (ac_ h.blk)];exact h.blk
 own0:=al_ h.own0 hb
 own1:=al_ h.own1 hb
 dis:=h.dis
theorem bd_.grown0 (h:bd_ W b t e0 s0 e1 s1 w v0 v1 n0 n1 x0 x1)(hg:w.grownBy w2 v0.ownBlock):w2.heap[b]? =some (.cells #[v0,v1] t (0,0)):=by
 rw[hg.block b (ac_ h.blk) (fun e=>by have:=(h.own0.lt b e.symm).1;omega)];exact h.blk
theorem bd_.grown1 (h:bd_ W b t e0 s0 e1 s1 w v0 v1 n0 n1 x0 x1)(hg:w.grownBy w2 v1.ownBlock):w2.heap[b]? =some (.cells #[v0,v1] t (0,0)):=by
 rw[hg.block b (ac_ h.blk) (fun e=>by have:=(h.own1.lt b e.symm).1;omega)];exact h.blk
theorem bd_.put0 (h:bd_ W b t e0 s0 e1 s1 w v0 v1 n0 n1 x0 x1){g cap m:Nat}{ys:List Value}(hown:w2.ownsRow (b+1) e0 s0 (.slice (some ⟨g,0,none⟩) m cap) m ys)(hg:w.grownBy w2 v0.ownBlock)
 (hf:v0.ownBlock=some g\/g=w.heap.size):bd_ W b t e0 s0 e1 s1 (w2.setCell ⟨b,0,none⟩ (.slice (some ⟨g,0,none⟩) m cap)) (.slice (some ⟨g,0,none⟩) m cap) v1 m n1 ys x1 where
 blw:=by
  have hb1:=ac_ h.blk;exact(h.blw.grown hg o_ (fun k e=>by have:=(h.own0.lt k e).1;omega)).setCell lr__ _
 blk:=bg_ (h.grown0 hg)
 own0:=ownsRow_setCell_below hown i_ _
 own1:=ownsRow_setCell_below (h.own1.kept hg (by
  cases hv:v1.ownBlock with
  |none=>exact .inl rfl
  |some k=>exact .inr (fun e=>h.dis k e.symm hv))) i_ _
 dis:=by
  intro k hk hk1;simp only[Value.ownBlock,Option.some.injEq]at hk;subst hk;rcases hf with hf|rfl
  . exact h.dis _ hf hk1
  . have:=(h.own1.lt _ hk1).2;omega
theorem bd_.put1 (h:bd_ W b t e0 s0 e1 s1 w v0 v1 n0 n1 x0 x1){g cap m:Nat}{ys:List Value}(hown:w2.ownsRow (b+1) e1 s1 (.slice (some ⟨g,0,none⟩) m cap) m ys)(hg:w.grownBy w2 v1.ownBlock)
 (hf:v1.ownBlock=some g\/g=w.heap.size):bd_ W b t e0 s0 e1 s1 (w2.setCell ⟨b,1,none⟩ (.slice (some ⟨g,0,none⟩) m cap)) v0 (.slice (some ⟨g,0,none⟩) m cap) n0 m x0 ys where
 blw:=by
  have hb1:=ac_ h.blk;exact(h.blw.grown hg o_ (fun k e=>by have:=(h.own1.lt k e).1;omega)).setCell lr__ _
 blk:=c7_ (h.grown1 hg)
 own1:=ownsRow_setCell_below hown i_ _
 own0:=ownsRow_setCell_below (h.own0.kept hg (by
  cases hv:v0.ownBlock with
  |none=>exact .inl rfl
  |some k=>exact .inr (fun e=>h.dis k hv e.symm))) i_ _
 dis:=by
  intro k hk1 hk;simp only[Value.ownBlock,Option.some.injEq]at hk;subst hk;rcases hf with hf|rfl
  . exact h.dis _ hk1 hf
  . have:=(h.own0.lt _ hk1).2;omega
theorem af_ {base e size n:Nat}{v:Value}{xs:List Value}(h:w.ownsRow base e size v n xs):∃ao cap,v= .slice ao n cap/\(0<n->∃g,ao=some ⟨g,0,none⟩/\∀j,j<n*size->w.cell? ⟨g,j,none⟩=xs[j]?):=by
 rcases h.2 with ⟨rfl,rfl⟩|⟨g,cap,cur,rfl,r⟩
 . exact⟨none,0,rfl,fun h=>absurd h o_⟩
 . exact⟨some ⟨g,0,none⟩,cap,rfl,fun _=>⟨g,rfl,fun j hj=>h.cellAt j hj⟩⟩
abbrev Bs:=List UInt8
theorem ht_:∀x:Bs,Op.bytesLess x x=false
 | []=>rfl
 |a::x=>by simp[Op.bytesLess,ht_ x]
theorem pf_ (a b:UInt8)(x y:Bs):Op.bytesLess (a::x) (b::y)=true↔a<b\/(a=b/\Op.bytesLess x y=true):=by
 simp[Op.bytesLess]
theorem ip_:∀x y z:Bs,Op.bytesLess x y=true->Op.bytesLess y z=true->Op.bytesLess x z=true
 | [],[],_,h,_=>by simp[Op.bytesLess]at h
 | [],_::_,[],_,h=>by simp[Op.bytesLess]at h
 | [],_::_,_::_,_,_=>by simp[Op.bytesLess]
 |_::_,[],_,h,_=>by simp[Op.bytesLess]at h
 |_::_,_::_,[],_,h=>by simp[Op.bytesLess]at h
 |a::x,b::y,c::z,h1,h2=>by
  rw[pf_]at h1 h2 ⊢;rcases h1 with h1|⟨rfl,h1⟩
  . rcases h2 with h2|⟨rfl,h2⟩
    . exact .inl (by simp only[UInt8.lt_iff_toNat_lt]at*;omega)
    . exact .inl h1
  . rcases h2 with h2|⟨rfl,h2⟩
    . exact .inl h2
    . exact .inr ⟨rfl,ip_ x y z h1 h2⟩
theorem ok_:∀x y:Bs,Op.bytesLess x y=false->x≠y->Op.bytesLess y x=true
 | [],[],_,h=>absurd rfl h
 | [],_::_,h,_=>by simp[Op.bytesLess]at h
 |_::_,[],_,_=>by simp[Op.bytesLess]
 |a::x,b::y,h,hne=>by
  rw[Bool.eq_false_iff,ne_eq,pf_]at h;rw[pf_];by_cases e:a=b
  . subst e;refine .inr ⟨rfl,ok_ x y (by rw[Bool.eq_false_iff];exact fun h'=>h (.inr ⟨rfl,h'⟩)) (fun e=>hne (by rw[e]))⟩
  . left;have h1:¬a<b:=fun h'=>h (.inl h')
    have h2:a.toNat≠b.toNat:=fun h'=>e (UInt8.toNat_inj.1 h')
    simp only[UInt8.lt_iff_toNat_lt]at*;omega
theorem no_ {x y:Bs}(h:Op.bytesLess x y=true):Op.bytesLess y x=false:=by
 rw[Bool.eq_false_iff];intro h';have:=ip_ _ _ _ h h';rw[ht_]at this;cases this
def lsb (s:ByteArray):Bs:=s.data.toList
theorem hb_ {a b:ByteArray}(h:lsb a=lsb b):a=b:=by
 cases a;cases b;simp only[lsb]at h;congr 1;exact Array.ext' h
theorem abe_ (s:ByteArray):(lsb s).length=s.size:=by rw[lsb,Array.length_toList];rfl
def less (a b:ByteArray):Bool:=Op.bytesLess a.toList b.toList
theorem kx_ (a b:ByteArray):less a b=Op.bytesLess (lsb a) (lsb b):=by rw[less,ByteArray.toList_eq,ByteArray.toList_eq];rfl
theorem fr_ (a b:ByteArray):(a.toList==b.toList)=decide (a=b):=by
 rw[ByteArray.toList_eq,ByteArray.toList_eq];by_cases h:a=b
 . subst h;simp
 . have:lsb a≠lsb b:=fun e=>h (hb_ e)
   simp only[h,decide_false,beq_eq_false_iff_ne,ne_eq];exact this
theorem m5_ (a:ByteArray):less a a=false:=by rw[kx_,ht_]
theorem wc_ {a b c:ByteArray}(h1:less a b=true)(h2:less b c=true):less a c=true:=by rw[kx_]at*;exact ip_ _ _ _ h1 h2
theorem sd_ {a b:ByteArray}(h:less a b=false)(hne:a≠b):less b a=true:=by rw[kx_]at*;exact ok_ _ _ h (fun e=>hne (hb_ e))
theorem ol_ {a b:ByteArray}(h:less a b=true):less b a=false:=by rw[kx_]at*;exact no_ h
theorem pg_ {a b:ByteArray}(h:less a b=true):a≠b:=by rintro rfl;rw[m5_]at h;cases h
def SrtB (t:Nat->ByteArray)(n:Nat):Prop:=∀i j,i<j->j<n->less (t i) (t j)=true
structure IsPl (t:Nat->ByteArray)(n:Nat)(s:ByteArray)(p:Nat):Prop where
 le:p<=n
 lo:∀j,j<p->less (t j) s=true
 at':p<n->less (t p) s=false
section
variable {t:Nat->ByteArray} {n p:Nat} {s:ByteArray}
theorem IsPl.hi (h:IsPl t n s p)(hs:SrtB t n)(j:Nat)(h1:p<=j)(h2:j<n):less (t j) s=false:=by
 have h0:=h.at' o_;by_cases e:p=j
 . rw[<-e];exact h0
 . rw[Bool.eq_false_iff];intro h';have:=wc_ (hs p j o_ h2) h';rw[h0]at this;cases this
theorem IsPl.stands (h:IsPl t n s p)(hs:SrtB t n):(∃j,j<n/\t j=s)↔(p<n/\t p=s):=by
 constructor
 . rintro⟨j,hj,e⟩;have h1:p<=j:=by
    apply Nat.le_of_not_lt;intro hlt;exact pg_ (h.lo j hlt) e
   by_cases e':p=j
   . subst e';exact⟨hj,e⟩
   . have:=hs p j o_ hj;rw[e,h.at' o_]at this;cases this
 . rintro⟨h1,h2⟩;exact⟨p,h1,h2⟩
theorem IsPl.gt (h:IsPl t n s p)(hs:SrtB t n)(hn:¬(p<n/\t p=s))(j:Nat)(h1:p<=j)(h2:j<n):less s (t j)=true:=by
 refine sd_ (h.hi hs j h1 h2) ?_;intro e;exact hn ((h.stands hs).1 ⟨j,h2,e⟩)
def ins (t:Nat->ByteArray)(p:Nat)(s:ByteArray):Nat->ByteArray:=fun j=>if j<p then t j else if j=p then s else t (j - 1)
def del (t:Nat->ByteArray)(p:Nat):Nat->ByteArray:=fun j=>if j<p then t j else t (j+1)
theorem IsPl.ins_srt (h:IsPl t n s p)(hs:SrtB t n)(hn:¬(p<n/\t p=s)):SrtB (ins t p s) (n+1):=by
 intro i j h1 h2;have hle:=h.le;unfold ins;by_cases a:i<p
 . rw[if_pos a];by_cases b:j<p
   . rw[if_pos b];exact hs i j h1 o_
   . rw[if_neg b];by_cases c:j=p
     . rw[if_pos c];exact h.lo i a
     . rw[if_neg c];exact hs i (j - 1) o_ o_
 . rw[if_neg a,if_neg (show¬j<p by omega),if_neg (show¬j=p by omega)];by_cases c:i=p
   . rw[if_pos c];exact h.gt hs hn (j - 1) o_ o_
   . rw[if_neg c];exact hs (i - 1) (j - 1) o_ o_
theorem ad0_ (hs:SrtB t n)(hp:p<n):SrtB (del t p) (n - 1):=by
 intro i j h1 h2;unfold del;by_cases a:i<p
 . rw[if_pos a];by_cases b:j<p
   . rw[if_pos b];exact hs i j h1 o_
   . rw[if_neg b];exact hs i (j+1) o_ o_
 . rw[if_neg a,if_neg (show¬j<p by omega)];exact hs (i+1) (j+1) o_ o_
end
def strs (l:List ByteArray):List Value:=l.map .string
theorem gy_ (l:List ByteArray)(s:ByteArray):strs l++ [.string s]=strs (l++ [s]):=by simp[strs]
def cp_ (t:Nat->ByteArray)(k:Nat):List Value:=(List.range k).map fun j=> .string (t j)
theorem fs_ (t:Nat->ByteArray)(k:Nat):cp_ t k++ [.string (t k)]=cp_ t (k+1):=by simp[cp_,List.range_succ]
theorem yh_ (t:Nat->ByteArray){k j:Nat}(h:j<k):(cp_ t k)[j]? =some (.string (t j)):=by simp[cp_,h]
theorem jd_ (s:ByteArray)(w:World)(hs:s.size<=maxLen):
 Calls prog 98 #[.string s] w fun e w'=>e= .returned (.bool (decide (s.size<=12)&&ba_ s s.size))/\w'=w:=by
 unfold maxLen at hs;by_cases hl:s.size<=12
 . have e:(decide (s.size<=12)&&ba_ s s.size)=ba_ s s.size:=by simp[hl]
   rw[e];clear e;go_enter func98,ntmps98;go_wp2_with fail;go_loop [3] (fun i'=>∃i:Nat,i<=s.size/\i'= .int .i64 i/\ba_ s i=true) (fun i'=>s.size - (intOf i').toNat)
   case atStart=>exact⟨0,o_,rfl,rfl⟩
   case round=>
    obtain⟨i,hi,rfl,ht⟩:=hrel;by_cases hlt:i<s.size
    . have hg:=l6_ s i hlt;have hts:ba_ s (i+1)=(decide (97<=s[i].toNat)&&decide (s[i].toNat<=104)):=by simp only[ba_,ht,Bool.true_and,hg]
      by_cases h97:97<=s[i].toNat/\s[i].toNat<=104
      . have HT:Hid (ba_ s (i+1)=true):=by unfold Hid;rw[hts];simp[h97.1,h97.2]
        have HC:=og_ (s[i].toNat:Int) w o_ o_;clear hts hg ht;go_wp2_with fail;refine HC.mono ?_;rintro e w' ⟨rfl,rfl⟩;clear HC;go_wp2_with fail;go_round
        case rel=>exact⟨i+1,o_,by go_num,HT.out⟩
        case measure=>simp[intOf];omega
      . have HT:Hid (ba_ s s.size=false):=jv_ s (i+1) _ o_ (by rw[hts];simp;omega);have HC:=p4_ (s[i].toNat:Int) w o_;clear hts hg ht;go_wp2_with fail;refine HC.mono ?_;rintro e w' ⟨rfl,rfl⟩;clear HC;go_wp2_with fail;go_ret;exact⟨bh_ HT.out.symm,rfl⟩
    . have e:i=s.size:=o_;subst e;have HT:Hid (ba_ s s.size=true):=ht;clear ht;go_wp2_with fail;go_ret;exact⟨bh_ HT.out.symm,rfl⟩
 . have e:(decide (s.size<=12)&&ba_ s s.size)=false:=by simp[hl]
   rw[e];clear e;go_enter func98,ntmps98;go_wp2_with fail;go_ret;exact⟨rfl,rfl⟩
theorem yi_ (pv:Nat)(h:pv<8)(u:World):Sem.run prog (convert 110 9 (.slice (some ⟨u.heap.size,0,none⟩) 1 1)) (u.alloc (.cells #[.int .u8 (97+(pv:Int))] 5))=
 .ok (.string ⟨#[jc_ pv]⟩) (u.alloc (.cells #[.int .u8 (97+(pv:Int))] 5)):=by
 have h1:=run_convert_bytes_back (P:=prog) (u.alloc (.cells #[.int .u8 (97+(pv:Int))] 5)) 110 9 5 ⟨u.heap.size,0,none⟩ 1 [jc_ pv] underlying110 underlying5 underlying9 (by
  intro j hj;have:j=0:=by simp at hj;omega
  subst this;have:=cell_one_new u (.int .u8 (97+(pv:Int))) 5 0 _ rfl;rw[this];simp only[List.getElem_cons_zero,wb_ pv h];rfl)
 exact h1
inductive Pat where
 |none:Pat
 |one (S:Nat->Bool):Pat
 |chain (a b:Pat):Pat
 |alt (a b:Pat):Pat
 |rep (a:Pat) (least copies:Nat) (endless:Bool):Pat
inductive Star (l:List Nat->Prop):List Nat->Prop where
 |nil:Star l []
 |cons {u v:List Nat} (hu:l u) (hv:Star l v):Star l (u++v)
def Cat (l l':List Nat->Prop)(x:List Nat):Prop:=∃u v,x=u++v/\l u/\l' v
def Copy (l:List Nat->Prop)(least i:Nat)(endless:Bool)(x:List Nat):Prop:=
 if i<least then l x else if endless then Star l x else x=[]\/l x
def d4_ (l:List Nat->Prop)(least:Nat)(endless:Bool):Nat->List Nat->Prop
 |0=>fun x=>x=[]
 |k+1=>Cat (d4_ l least endless k) (Copy l least k endless)
def Pat.lang:Pat->List Nat->Prop
 | .none=>fun x=>x=[]
 | .one S=>fun x=>∃c,x=[c]/\S c=true
 | .chain a b=>Cat a.lang b.lang
 | .alt a b=>fun x=>a.lang x\/b.lang x
 | .rep a least copies endless=>d4_ a.lang least endless copies
inductive Way (B rd:Nat->Nat->Prop)(L:Nat->Prop):Nat->List Nat->Prop where
 |last {p c:Nat} (hr:rd p c) (hl:L p):Way B rd L p [c]
 |step {p q c:Nat} {x:List Nat} (hr:rd p c) (hb:B p q) (hx:Way B rd L q x):Way B rd L p (c::x)
theorem Way.ne_nil {B rd:Nat->Nat->Prop}{L:Nat->Prop}{p:Nat}{x:List Nat}(h:Way B rd L p x):x≠ []:=by cases h<;>simp
theorem Way.mono {B B' rd:Nat->Nat->Prop}{L L':Nat->Prop}(hB:∀p q,B p q->B' p q)(hL:∀p,L p->L' p){p:Nat}{x:List Nat}(h:Way B rd L p x):Way B' rd L' p x:=by
 induction h with
 |last hr hl=>exact .last hr (hL _ hl)
 |step hr hb _ ih=>exact .step hr (hB _ _ hb) ih
structure Str (rd:Nat->Nat->Prop) where
 lo:Nat
 hi:Nat
 e:Prop
 F:Nat->Prop
 L:Nat->Prop
 B:Nat->Nat->Prop
structure Str.In {rd:Nat->Nat->Prop}(s:Str rd):Prop where
 le:s.lo<=s.hi
 fi:∀p,s.F p->s.lo<=p/\p<s.hi
 la:∀p,s.L p->s.lo<=p/\p<s.hi
 be:∀p q,s.B p q->(s.lo<=p/\p<s.hi)/\(s.lo<=q/\q<s.hi)
def Str.acc {rd:Nat->Nat->Prop}(s:Str rd)(x:List Nat):Prop:=(x=[]/\s.e)\/∃p,s.F p/\Way s.B rd s.L p x
def Str.chain {rd:Nat->Nat->Prop}(s t:Str rd):Str rd where
 lo:=s.lo
 hi:=t.hi
 e:=s.e/\t.e
 F p:=s.F p\/(s.e/\t.F p)
 L p:=t.L p\/(t.e/\s.L p)
 B p q:=s.B p q\/t.B p q\/(s.L p/\t.F q)
def Str.alt {rd:Nat->Nat->Prop}(s t:Str rd):Str rd where
 lo:=s.lo
 hi:=t.hi
 e:=s.e\/t.e
 F p:=s.F p\/t.F p
 L p:=s.L p\/t.L p
 B p q:=s.B p q\/t.B p q
def Str.free {rd:Nat->Nat->Prop}(s:Str rd)(endless:Prop):Str rd where
 lo:=s.lo
 hi:=s.hi
 e:=True
 F:=s.F
 L:=s.L
 B p q:=s.B p q\/(endless/\s.L p/\s.F q)
section
variable {rd:Nat->Nat->Prop} {s t:Str rd}
theorem hf_ (hs:s.In)(ht:t.In)(h:s.hi=t.lo){p:Nat}{x:List Nat}(hp:t.lo<=p):Way (s.chain t).B rd (s.chain t).L p x↔Way t.B rd t.L p x:=by
 constructor
 . intro hw;induction hw with
   |last hr hl=>
    rcases hl with hl|⟨_,hl⟩
    . exact .last hr hl
    . have:=hs.la _ hl;omega
   |step hr hb _ ih=>
    rcases hb with hb|hb|⟨hb,_⟩
    . have:=(hs.be _ _ hb).1;omega
    . exact .step hr hb (ih (ht.be _ _ hb).2.1)
    . have:=hs.la _ hb;omega
 . exact Way.mono (fun p q h=> .inr (.inl h)) (fun p h=> .inl h)
theorem wd_ (hs:s.In)(ht:t.In)(h:s.hi=t.lo){p:Nat}{x:List Nat}(hp:p<s.hi)(hw:Way (s.chain t).B rd (s.chain t).L p x):∃u v,x=u++v/\Way s.B rd s.L p u/\t.acc v:=by
 induction hw with
 |last hr hl=>
  rcases hl with hl|⟨he,hl⟩
  . have:=ht.la _ hl;omega
  . exact⟨_,[],i_,.last hr hl,.inl ⟨rfl,he⟩⟩
 |step hr hb hx ih=>
  rcases hb with hb|hb|⟨hb,hq⟩
  . obtain⟨u,v,rfl,h1,h2⟩:=ih (hs.be _ _ hb).2.2;exact⟨_::u,v,rfl,.step hr hb h1,h2⟩
  . have:=(ht.be _ _ hb).1;omega
  . exact⟨[_],_,rfl,.last hr hb,.inr ⟨_,hq,(hf_ hs ht h (ht.fi _ hq).1).1 hx⟩⟩
theorem we_ (hs:s.In)(ht:t.In)(h:s.hi=t.lo){p:Nat}{u v:List Nat}(hu:Way s.B rd s.L p u)(hv:t.acc v):Way (s.chain t).B rd (s.chain t).L p (u++v):=by
 rcases hv with ⟨rfl,he⟩|⟨q,hq,hv⟩
 . rw[List.append_nil];exact hu.mono (fun p q h=> .inl h) (fun p hl=> .inr ⟨he,hl⟩)
 . have hv':=(hf_ hs ht h (ht.fi _ hq).1).2 hv;induction hu with
   |last hr hl=>exact .step hr (.inr (.inr ⟨hl,hq⟩)) hv'
   |step hr hb _ ih=>exact .step hr (.inl hb) ih
theorem yj_ (hs:s.In)(ht:t.In)(h:s.hi=t.lo)(x:List Nat):(s.chain t).acc x↔Cat s.acc t.acc x:=by
 constructor
 . rintro(⟨rfl,h1,h2⟩|⟨p,hp|⟨he,hp⟩,hw⟩)
   . exact⟨[],[],rfl,.inl ⟨rfl,h1⟩,.inl ⟨rfl,h2⟩⟩
   . obtain⟨u,v,rfl,h1,h2⟩:=wd_ hs ht h (hs.fi p hp).2 hw;exact⟨u,v,rfl,.inr ⟨p,hp,h1⟩,h2⟩
   . exact⟨[],x,rfl,.inl ⟨rfl,he⟩,.inr ⟨p,hp,(hf_ hs ht h (ht.fi p hp).1).1 hw⟩⟩
 . rintro⟨u,v,rfl,⟨rfl,he⟩|⟨p,hp,hu⟩,hv⟩
   . rcases hv with ⟨rfl,he'⟩|⟨q,hq,hv⟩
     . exact .inl ⟨rfl,he,he'⟩
     . exact .inr ⟨q,.inr ⟨he,hq⟩,by simpa using (hf_ hs ht h (ht.fi q hq).1).2 hv⟩
   . exact .inr ⟨p,.inl hp,we_ hs ht h hu hv⟩
theorem ad1_ (hs:s.In)(ht:t.In)(h:s.hi=t.lo)(x:List Nat):(s.alt t).acc x↔s.acc x\/t.acc x:=by
 have left:∀p x,p<s.hi->Way (s.alt t).B rd (s.alt t).L p x->Way s.B rd s.L p x:=by
  intro p x hp hw;induction hw with
  |last hr hl=>
   rcases hl with hl|hl
   . exact .last hr hl
   . have:=ht.la _ hl;omega
  |step hr hb _ ih=>
   rcases hb with hb|hb
   . exact .step hr hb (ih (hs.be _ _ hb).2.2)
   . have:=(ht.be _ _ hb).1;omega
 have right:∀p x,t.lo<=p->Way (s.alt t).B rd (s.alt t).L p x->Way t.B rd t.L p x:=by
  intro p x hp hw;induction hw with
  |last hr hl=>
   rcases hl with hl|hl
   . have:=hs.la _ hl;omega
   . exact .last hr hl
  |step hr hb _ ih=>
   rcases hb with hb|hb
   . have:=(hs.be _ _ hb).1;omega
   . exact .step hr hb (ih (ht.be _ _ hb).2.1)
 constructor
 . rintro(⟨rfl,h1|h1⟩|⟨p,hp|hp,hw⟩)
   . exact .inl (.inl ⟨rfl,h1⟩)
   . exact .inr (.inl ⟨rfl,h1⟩)
   . exact .inl (.inr ⟨p,hp,left p x (hs.fi p hp).2 hw⟩)
   . exact .inr (.inr ⟨p,hp,right p x (ht.fi p hp).1 hw⟩)
 . rintro((⟨rfl,h1⟩|⟨p,hp,hw⟩)|(⟨rfl,h1⟩|⟨p,hp,hw⟩))
   . exact .inl ⟨rfl,.inl h1⟩
   . exact .inr ⟨p,.inl hp,hw.mono (fun _ _ h=> .inl h) (fun _ h=> .inl h)⟩
   . exact .inl ⟨rfl,.inr h1⟩
   . exact .inr ⟨p,.inr hp,hw.mono (fun _ _ h=> .inr h) (fun _ h=> .inr h)⟩
theorem om_ {en:Prop}{p:Nat}{x:List Nat}(hw:Way (s.free en).B rd (s.free en).L p x):∃u v,x=u++v/\Way s.B rd s.L p u/\(v=[]\/(en/\∃q,s.F q/\Way (s.free en).B rd (s.free en).L q v)):=by
 induction hw with
 |last hr hl=>exact⟨_,[],i_,.last hr hl,.inl rfl⟩
 |step hr hb hx ih=>
  rcases hb with hb|⟨he,hl,hq⟩
  . obtain⟨u,v,rfl,h1,h2⟩:=ih;exact⟨_::u,v,rfl,.step hr hb h1,h2⟩
  . exact⟨[_],_,rfl,.last hr hl,.inr ⟨he,_,hq,hx⟩⟩
theorem yk_ {en:Prop}(he:en){p q:Nat}{u v:List Nat}(hu:Way s.B rd s.L p u)(hq:s.F q)(hv:Way (s.free en).B rd (s.free en).L q v):Way (s.free en).B rd (s.free en).L p (u++v):=by
 induction hu with
 |last hr hl=>exact .step hr (.inr ⟨he,hl,hq⟩) hv
 |step hr hb _ ih=>exact .step hr (.inl hb) ih
theorem ad2_ (x:List Nat):(s.free False).acc x↔x=[]\/s.acc x:=by
 constructor
 . rintro(⟨rfl,_⟩|⟨p,hp,hw⟩)
   . exact .inl rfl
   . obtain⟨u,v,rfl,h1,rfl|⟨h2,_⟩⟩:=om_ hw
     . rw[List.append_nil];exact .inr (.inr ⟨p,hp,h1⟩)
     . exact h2.elim
 . rintro(rfl|⟨rfl,_⟩|⟨p,hp,hw⟩)
   . exact .inl ⟨rfl,trivial⟩
   . exact .inl ⟨rfl,trivial⟩
   . exact .inr ⟨p,hp,hw.mono (fun _ _ h=> .inl h) (fun _ h=>h)⟩
theorem abf_ (x:List Nat):(s.free True).acc x↔Star s.acc x:=by
 constructor
 . rintro(⟨rfl,_⟩|⟨p,hp,hw⟩)
   . exact .nil
   . have key:∀n x p,x.length<=n->s.F p->Way (s.free True).B rd (s.free True).L p x->Star s.acc x:=by
      intro n;induction n with
      |zero=>
       intro x p hx _ hw;exact absurd (List.length_eq_zero_iff.1 o_) hw.ne_nil
      |succ n ih=>
       intro x p hx hp hw;obtain⟨u,v,rfl,h1,rfl|⟨_,q,hq,h2⟩⟩:=om_ hw
       . exact .cons (.inr ⟨p,hp,h1⟩) .nil
       . have hl:1<=u.length:=by cases u with
          |nil=>exact absurd rfl h1.ne_nil
          |cons _ _=>simp
         exact .cons (.inr ⟨p,hp,h1⟩) (ih v q (by rw[List.length_append]at hx;omega) hq h2)
     exact key _ x p lr__ hp hw
 . intro h;induction h with
   |nil=>exact .inl ⟨rfl,trivial⟩
   |cons hu _ ih=>
    rcases hu with ⟨rfl,_⟩|⟨p,hp,hu⟩
    . simpa using ih
    . rcases ih with ⟨rfl,_⟩|⟨q,hq,hv⟩
      . rw[List.append_nil];exact .inr ⟨p,hp,hu.mono (fun _ _ h=> .inl h) (fun _ h=>h)⟩
      . exact .inr ⟨p,hp,yk_ trivial hu hq hv⟩
end
def Str.nothing (rd:Nat->Nat->Prop)(lo:Nat):Str rd:=⟨lo,lo,True,fun _=>False,fun _=>False,fun _ _=>False⟩
theorem t8_ (rd:Nat->Nat->Prop)(lo:Nat)(x:List Nat):(Str.nothing rd lo).acc x↔x=[]:=by
 constructor
 . rintro(⟨rfl,_⟩|⟨_,h,_⟩)
   . rfl
   . exact h.elim
 . rintro rfl;exact .inl ⟨rfl,trivial⟩
def Str.spot (rd:Nat->Nat->Prop)(lo:Nat):Str rd:=⟨lo,lo+1,False,fun p=>p=lo,fun p=>p=lo,fun _ _=>False⟩
theorem abg_ {rd:Nat->Nat->Prop}{lo:Nat}{S:Nat->Bool}(h:∀c,rd lo c↔S c=true)(x:List Nat):(Str.spot rd lo).acc x↔(Pat.one S).lang x:=by
 constructor
 . rintro(⟨_,h'⟩|⟨p,hp,hw⟩)
   . exact h'.elim
   . have hp':p=lo:=hp;subst hp';cases hw with
     |last hr _=>exact⟨_,rfl,(h _).1 hr⟩
     |step _ hb _=>exact hb.elim
 . rintro⟨c,rfl,hc⟩;exact .inr ⟨lo,rfl,.last ((h c).2 hc) rfl⟩
theorem Cat.congr {l l' m m':List Nat->Prop}(h:∀x,l x↔l' x)(h':∀x,m x↔m' x)(x:List Nat):Cat l m x↔Cat l' m' x:=
 ⟨fun⟨u,v,e,a,b⟩=>⟨u,v,e,(h u).1 a,(h' v).1 b⟩,fun⟨u,v,e,a,b⟩=>⟨u,v,e,(h u).2 a,(h' v).2 b⟩⟩
theorem Star.congr {l l':List Nat->Prop}(h:∀x,l x↔l' x)(x:List Nat):Star l x↔Star l' x:=
 ⟨fun hs=>by induction hs with
  |nil=>exact .nil
  |cons hu _ ih=>exact .cons ((h _).1 hu) ih,fun hs=>by induction hs with
  |nil=>exact .nil
  |cons hu _ ih=>exact .cons ((h _).2 hu) ih⟩
def Pat.size:Pat->Nat
 | .none=>0
 | .one _=>1
 | .chain a b=>a.size+b.size
 | .alt a b=>a.size+b.size
 | .rep a _ copies _=>a.size*copies
theorem se_ {l:List Nat->Prop}(h:∀x,l x↔x=[])(x:List Nat):Star l x↔x=[]:=by
 constructor
 . intro hs;induction hs with
   |nil=>rfl
   |cons hu _ ih=>rw[(h _).1 hu,ih];rfl
 . rintro rfl;exact .nil
theorem wf_ {l:List Nat->Prop}(h:∀x,l x↔x=[])(least:Nat)(endless:Bool)(k:Nat)(x:List Nat):d4_ l least endless k x↔x=[]:=by
 induction k generalizing x with
 |zero=>exact Iff.rfl
 |succ k ih=>
  have hc:∀x,Copy l least k endless x↔x=[]:=by
   intro x;unfold Copy;by_cases h1:k<least
   . rw[if_pos h1];exact h x
   . rw[if_neg h1];cases endless
     . rw[if_neg i_,h x];simp
     . rw[if_pos rfl];exact se_ h x
  constructor
  . rintro⟨u,v,rfl,hu,hv⟩;rw[(ih u).1 hu,(hc v).1 hv];rfl
  . rintro rfl;exact⟨[],[],rfl,(ih []).2 rfl,(hc []).2 rfl⟩
theorem yl_ (a:Pat)(h:a.size=0)(x:List Nat):a.lang x↔x=[]:=by
 induction a generalizing x with
 |none=>exact Iff.rfl
 |one S=>simp[Pat.size]at h
 |chain a b iha ihb=>
  have h':a.size+b.size=0:=h;constructor
  . rintro⟨u,v,rfl,hu,hv⟩;rw[(iha o_ u).1 hu,(ihb o_ v).1 hv];rfl
  . rintro rfl;exact⟨[],[],rfl,(iha o_ []).2 rfl,(ihb o_ []).2 rfl⟩
 |alt a b iha ihb=>
  have h':a.size+b.size=0:=h;show a.lang x\/b.lang x↔_
  rw[iha o_ x,ihb o_ x];simp
 |rep a least copies endless iha=>
  have h':a.size*copies=0:=h;rcases Nat.mul_eq_zero.1 h' with h0|h0
  . exact wf_ (iha h0) least endless copies x
  . subst h0;exact Iff.rfl
def on_ (B rd:Nat->Nat->Prop)(S:Nat->Prop)(c:Nat):Nat->Prop:=fun q=>rd q c/\∃p,S p/\B p q
theorem ym_ {B rd:Nat->Nat->Prop}{L:Nat->Prop}(x:List Nat)(c:Nat)(S:Nat->Prop):(∃p,((c::x).foldl (on_ B rd) S) p/\L p)↔∃p q,S p/\B p q/\Way B rd L q (c::x):=by
 induction x generalizing c S with
 |nil=>
  constructor
  . rintro⟨q,⟨hr,p,hp,hb⟩,hl⟩;exact⟨p,q,hp,hb,.last hr hl⟩
  . rintro⟨p,q,hp,hb,hw⟩;cases hw with
    |last hr hl=>exact⟨q,⟨hr,p,hp,hb⟩,hl⟩
    |step _ _ hx=>exact absurd rfl hx.ne_nil
 |cons d y ih=>
  rw[List.foldl_cons,ih d (on_ B rd S c)];constructor
  . rintro⟨p,q,⟨hr,p0,hp0,hb0⟩,hb,hw⟩;exact⟨p0,p,hp0,hb0,.step hr hb hw⟩
  . rintro⟨p0,p,hp0,hb0,hw⟩;cases hw with
    |step hr hb hx=>exact⟨p,_,⟨hr,p0,hp0,hb0⟩,hb,hx⟩
theorem yn_ {rd:Nat->Nat->Prop}{s:Str rd}{B:Nat->Nat->Prop}{L:Nat->Prop}{a:Nat}(hs:s.In)(ha:a<s.lo)(hB:∀p q,B p q↔(p=a/\s.F q)\/s.B p q)(hL:∀p,L p↔(p=a/\s.e)\/s.L p)(x:List Nat):
 (∃p,(x.foldl (on_ B rd) (fun p=>p=a)) p/\L p)↔s.acc x:=by
 have hw:∀q y,s.lo<=q->(Way B rd L q y↔Way s.B rd s.L q y):=by
  intro q y hq;constructor
  . intro h;induction h with
    |last hr hl=>
     rcases (hL _).1 hl with ⟨h,_⟩|h
     . omega
     . exact .last hr h
    |step hr hb _ ih=>
     rcases (hB _ _).1 hb with ⟨h,_⟩|h
     . omega
     . exact .step hr h (ih (hs.be _ _ h).2.1)
  . exact Way.mono (fun p q h=>(hB p q).2 (.inr h)) (fun p h=>(hL p).2 (.inr h))
 cases x with
 |nil=>
  constructor
  . rintro⟨p,hp,hl⟩;have hp':p=a:=hp;subst hp';rcases (hL p).1 hl with ⟨_,he⟩|h
    . exact .inl ⟨rfl,he⟩
    . have:=hs.la _ h;omega
  . rintro(⟨_,he⟩|⟨p,_,hw'⟩)
    . exact⟨a,rfl,(hL a).2 (.inl ⟨rfl,he⟩)⟩
    . exact absurd rfl hw'.ne_nil
 |cons c x=>
  rw[ym_];constructor
  . rintro⟨p,q,rfl,hb,hw'⟩;rcases (hB p q).1 hb with ⟨_,hq⟩|h
    . exact .inr ⟨q,hq,(hw q _ (hs.fi q hq).1).1 hw'⟩
    . have:=(hs.be _ _ h).1;omega
  . rintro(⟨h,_⟩|⟨q,hq,hw'⟩)
    . simp at h
    . exact⟨a,q,rfl,(hB a q).2 (.inl ⟨rfl,hq⟩),(hw q _ (hs.fi q hq).1).2 hw'⟩
structure Nd where
 kind:Nat
 size:Nat
 S:Nat->Bool
 least:Nat
 copies:Nat
 en:Bool
 one:Nat
 two:Nat
inductive be_ (L:List Nd):Nat->Pat->Prop where
 |none {i:Nat} {d:Nd} (h:L[i]? =some d) (hk:d.kind=0) (hs:d.size=0):be_ L i .none
 |one {i:Nat} {d:Nd} {S:Nat->Bool} (h:L[i]? =some d) (hk:d.kind=1) (hs:d.size=1) (hS:d.S=S):be_ L i (.one S)
 |chain {i o t:Nat} {d:Nd} {a b:Pat} (h:L[i]? =some d) (hk:d.kind=2) (hs:d.size=a.size+b.size) (ho:d.one=o) (ht:d.two=t) (h1:be_ L o a) (h2:be_ L t b):be_ L i (.chain a b)
 |alt {i o t:Nat} {d:Nd} {a b:Pat} (h:L[i]? =some d) (hk:d.kind=3) (hs:d.size=a.size+b.size) (ho:d.one=o) (ht:d.two=t) (h1:be_ L o a) (h2:be_ L t b):be_ L i (.alt a b)
 |rep {i o lo co:Nat} {en:Bool} {d:Nd} {a:Pat} (h:L[i]? =some d) (hk:d.kind=4) (hs:d.size=a.size*co) (ho:d.one=o) (hl:d.least=lo) (hc:d.copies=co) (he:d.en=en) (h1:be_ L o a):be_ L i (.rep a lo co en)
theorem l7_ {L M:List Nd}{i:Nat}{d:Nd}(h:L[i]? =some d):(L++M)[i]? =some d:=by
 rw[List.getElem?_append_left (List.getElem?_eq_some_iff.1 h).1];exact h
theorem be_.app {L:List Nd}{i:Nat}{p:Pat}(h:be_ L i p)(M:List Nd):be_ (L++M) i p:=by
 induction h with
 |none h hk hs=>exact .none (l7_ h) hk hs
 |one h hk hs hS=>exact .one (l7_ h) hk hs hS
 |chain h hk hs ho ht _ _ h1 h2=>exact .chain (l7_ h) hk hs ho ht h1 h2
 |alt h hk hs ho ht _ _ h1 h2=>exact .alt (l7_ h) hk hs ho ht h1 h2
 |rep h hk hs ho hl hc he _ h1=>exact .rep (l7_ h) hk hs ho hl hc he h1
theorem be_.node {L:List Nd}{i:Nat}{p:Pat}(h:be_ L i p):∃d,L[i]? =some d/\d.size=p.size:=by
 cases h with
 |none h hk hs=>exact⟨_,h,hs⟩
 |one h hk hs hS=>exact⟨_,h,hs⟩
 |chain h hk hs=>exact⟨_,h,hs⟩
 |alt h hk hs=>exact⟨_,h,hs⟩
 |rep h hk hs=>exact⟨_,h,hs⟩
theorem be_.lt {L:List Nd}{i:Nat}{p:Pat}(h:be_ L i p):i<L.length:=by
 obtain⟨d,h,_⟩:=h.node;exact(List.getElem?_eq_some_iff.1 h).1
end Go.Proofs.YtpngikmcjkjdaaaGreatDoor
