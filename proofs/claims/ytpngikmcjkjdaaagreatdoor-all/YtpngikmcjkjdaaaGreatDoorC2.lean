import Derived.Test.YtpngikmcjkjdaaaGreatDoorC0
set_option linter.unusedVariables false
set_option linter.unusedSimpArgs false
set_option maxRecDepth 20000
set_option maxHeartbeats 80000000
namespace Go.Proofs.YtpngikmcjkjdaaaGreatDoor
open Go.RowKit Tryz List Nat
variable {a s:ByteArray} {x:List Nat} {l l':List Nat->Prop} {xs ys:List Value} {b base cap e g i j k least m n p:Nat} {L:Nat->Prop} {o:Obj} {P:Program} {t:TypeId} {u v y:Value} {w:World}
theorem b6_ {a b:Bool}(h:a=b):Ending.returned (.bool a)= .returned (.bool b):=by rw[h]
theorem hu_ {k:IntKind}{a b:Int}(h:a=b):Ending.returned (.int k a)= .returned (.int k b):=by rw[h]
theorem bc_ {W w1:World}(hb:Bl W w1):(∀b o,b<W.heap.size->w1.cell? ⟨b,o,none⟩=W.cell? ⟨b,o,none⟩)/\(∀b o,b<W.heap.size->w1.frozen? ⟨b,o,none⟩=W.frozen? ⟨b,o,none⟩):=
 ⟨fun b o h=>hb.cell (p:=⟨b,o,none⟩) h,fun b o h=>hb.frozen (p:=⟨b,o,none⟩) h⟩
theorem Χ {o:Nat}(h:w.cell? ⟨b,o,none⟩=some v):b<w.heap.size:=by
 rcases Nat.lt_or_ge b w.heap.size with hlt|hge
 . exact hlt
 . exfalso;have a:w.heap[b]? =none:=s_;simp[World.cell?,a]at h
theorem w4_ (b:Int)(w:World)(h1:97<=b)(h2:b<=104):
 Calls prog 134 #[.int .u8 b] w fun e w'=>e= .returned (.bool true)/\w'=w:=by
 go_enter func134,ntmps134;go_wp2
 go_ret;exact⟨b6_ s_,rfl⟩
theorem w5_ (b:Int)(w:World)(h1:b<97\/104<b):
 Calls prog 134 #[.int .u8 b] w fun e w'=>e= .returned (.bool false)/\w'=w:=by
 rcases h1 with h|h
 . have a:¬97<=b:=o_;go_enter func134,ntmps134;go_wp2
   go_ret;exact⟨b6_ i_,rfl⟩
 . have a:97<=b:=o_;go_enter func134,ntmps134;go_wp2
   go_ret;exact⟨b6_ s_,rfl⟩
theorem pm_ (b:Int)(w:World)(h1:97<=b)(h2:b<=104):
 Calls prog 121 #[.int .u8 b] w fun e w'=>e= .returned (.tuple #[.int .i64 (b - 97),.bool true])/\w'=w:=by
 go_enter func121,ntmps121;go_wp2_with fail;refine(w4_ b w h1 h2).mono ?_;rintro e w' ⟨rfl,rfl⟩;go_wp2
 go_ret2;exact⟨rfl,rfl⟩
theorem w6_ (b:Int)(w:World)(h1:b<97\/104<b):
 Calls prog 121 #[.int .u8 b] w fun e w'=>e= .returned (.tuple #[.int .i64 0,.bool false])/\w'=w:=by
 go_enter func121,ntmps121;go_wp2_with fail;refine(w5_ b w h1).mono ?_;rintro e w' ⟨rfl,rfl⟩;go_wp2
 go_ret2;exact⟨rfl,rfl⟩
theorem af9_ (ao:Option Addr)(l c:Nat)(n:Int)(w:World)(hl:l≠8)(hl2:l<=9223372036854775807):
 Calls prog 157 #[.slice ao l c,.int .i64 n] w fun e w'=>e= .returned (.bool false)/\w'=w:=by
 have a:(((l:Nat):Int) !=8)=true:=by rw[bne_iff_ne];omega
 go_enter func157,ntmps157;go_wp2
 go_ret;exact⟨rfl,rfl⟩
def dn_ (f:Nat->Int)(n:Int):Nat->Bool
 |0=>true
 |k+1=>dn_ f n k&&(decide (0<=f k)&&decide (f k<n))
theorem rx_ (f:Nat->Int)(n:Int)(k:Nat):dn_ f n k=true↔∀c,c<k->0<=f c/\f c<n:=by
 induction k with
 |zero=>simp[dn_]
 |succ k ih=>
  simp only[dn_,Bool.and_eq_true,ih,decide_eq_true_eq];constructor
  . rintro⟨h,a,b⟩ c hc;by_cases e:c=k
    . subst e;exact⟨a,b⟩
    . exact h c o_
  . intro h;exact⟨fun c hc=>h c o_,h k o_⟩
theorem pn_ (f:Nat->Int)(n:Int)(k m:Nat)(hk:k<=m)(h:dn_ f n k=false):dn_ f n m=false:=by
 rw[Bool.eq_false_iff]at h ⊢;intro a;apply h;rw[rx_]at a ⊢;exact fun c hc=>a c o_
theorem w7_ (b o c:Nat)(f:Nat->Int)(n:Int)(w:World)(hc:∀k,k<8->w.cell? ⟨b,o+k,none⟩=some (.int .i64 (f k))):
 Calls prog 157 #[.slice (some ⟨b,o,none⟩) 8 c,.int .i64 n] w fun e w'=>e= .returned (.bool (dn_ f n 8))/\w'=w:=by
 go_enter func157,ntmps157;go_wp2
 go_loop [6,12] (fun _ i=>∃k:Nat,k<=8/\i= .int .i64 k/\dn_ f n k=true) (fun _ i=>8 - (intOf i).toNat)
 case atStart=>exact⟨0,o_,rfl,rfl⟩
 case round=>
  obtain⟨k,p,rfl,a⟩:=hrel;by_cases h:k<8
  . have m:=hc k h;by_cases j:f k<0
    . have d:Hid (dn_ f n 8=false):=by
       apply pn_ f n (k+1) 8 o_;simp only[dn_,a,Bool.true_and,Bool.and_eq_false_iff,decide_eq_false_iff_not];left;omega
      clear a hc;go_wp2
      go_ret;exact⟨b6_ d.out.symm,rfl⟩
    . by_cases l:f k<n
      . have g:Hid (dn_ f n (k+1)=true):=by
         simp only[Hid,dn_,a,Bool.true_and,Bool.and_eq_true,decide_eq_true_eq];omega
        clear a hc;go_wp2
        go_round
        case rel=>exact⟨k+1,o_,by go_num,g.out⟩
        case measure=>exact c_
      . have d:Hid (dn_ f n 8=false):=by
         apply pn_ f n (k+1) 8 o_;simp only[dn_,a,Bool.true_and,Bool.and_eq_false_iff,decide_eq_false_iff_not];right;omega
        clear a hc;go_wp2
        go_ret;exact⟨b6_ d.out.symm,rfl⟩
  . have e:k=8:=o_;subst e;have g:=α a;clear a hc;go_wp2
    go_ret;exact⟨b6_ g.out.symm,rfl⟩
structure γ where
 n:Nat
 acc:Nat->Bool
 b7:Nat->Nat->Nat
structure γ.Ok (M:γ):Prop where
 lo:1<=M.n
 hi:M.n<=40
 nx:∀i c,i<M.n->c<8->M.b7 i c<M.n
def γ.read (M:γ)(s:Nat)(x:List Nat):Nat:=x.foldl M.b7 s
def γ.b6 (M:γ)(x:List Nat):Bool:=M.acc (M.read 0 x)
def Γ (x:List Nat):Prop:=∀c∈x,c<8
theorem γ.cU {M:γ}(h:M.Ok)(s:Nat)(hs:s<M.n)(x:List Nat)(hx:Γ x):M.read s x<M.n:=by
 induction x generalizing s with
 |nil=>exact hs
 |cons c x ih=>
  simp only[γ.read,foldl_cons];exact ih (M.b7 s c) (h.nx s c hs (hx c i_)) (fun d hd=>hx d (by simp[hd]))
theorem γ.cL (M:γ)(s:Nat)(x y:List Nat):M.read s (x++y)=M.read (M.read s x) y:=by simp[γ.read]
theorem γ.cE (M:γ)(s:Nat)(x:List Nat)(c:Nat):M.read s (x++ [c])=M.b7 (M.read s x) c:=by simp[γ.read]
structure ρ where
 (ba oa ca bn on cn:Nat)
 (rb ro rc:Nat->Nat)
structure π (w:World)(V:ρ)(M:γ):Prop where
 acc:∀i,i<M.n->w.cell? ⟨V.ba,V.oa+i,none⟩=some (.bool (M.acc i))
 row:∀i,i<M.n->w.cell? ⟨V.bn,V.on+i,none⟩=some (.slice (some ⟨V.rb i,V.ro i,none⟩) 8 (V.rc i))
 cT:∀i c,i<M.n->c<8->w.cell? ⟨V.rb i,V.ro i+c,none⟩=some (.int .i64 (M.b7 i c))
theorem π.below {w':World}{V:ρ}{M:γ}(h:π w V M)(hb:Bl w w'):π w' V M where
 acc i hi:=by rw[(bc_ hb).1 _ _ (Χ (h.acc i hi))];exact h.acc i hi
 row i hi:=by rw[(bc_ hb).1 _ _ (Χ (h.row i hi))];exact h.row i hi
 cT i c hi hc:=by rw[(bc_ hb).1 _ _ (Χ (h.cT i c hi hc))];exact h.cT i c hi hc
structure ρ.cP (V:ρ)(N n:Nat):Prop where
 a:N<=V.ba
 b:N<=V.bn
 r:∀i,i<n->N<=V.rb i
theorem ir_ {p q:Addr}(h:q.block≠p.block):(w.setCell p u).cell? q=w.cell? q:=World.cell?_of_block (Below.heap_setCell w p u q.block h)
theorem π.set {V:ρ}{M:γ}(h:π w V M){N:Nat}(hV:V.cP N M.n){p:Addr}(hp:p.block<N)(u:Value):π (w.setCell p u) V M where
 acc i hi:=by rw[ir_ (by have:=hV.a;simp;omega)];exact h.acc i hi
 row i hi:=by rw[ir_ (by have:=hV.b;simp;omega)];exact h.row i hi
 cT i c hi hc:=by rw[ir_ (by have:=hV.r i hi;simp;omega)];exact h.cT i c hi hc
theorem jf_ (V:ρ)(M:γ)(w:World)(hM:M.Ok)(h:π w V M):
 Calls prog 120 #[.agg #[.slice (some ⟨V.ba,V.oa,none⟩) M.n V.ca,.slice (some ⟨V.bn,V.on,none⟩) M.n V.cn]] w
  fun e w'=>e= .returned (.bool true)/\Bl w w':=by
 obtain⟨q,r,m⟩:=hM;generalize hn:M.n=n at*;have a:Bl w (w.alloc (.cells #[.slice (some ⟨V.ba,V.oa,none⟩) n V.ca,.slice (some ⟨V.bn,V.on,none⟩) n V.cn] 41)):=μ.alloc ι _;have l:∀i,i<n->(w.alloc (.cells #[.slice (some ⟨V.ba,V.oa,none⟩) n V.ca,.slice (some ⟨V.bn,V.on,none⟩) n V.cn] 41)).cell? ⟨V.bn,V.on+i,none⟩=some (.slice (some ⟨V.rb i,V.ro i,none⟩) 8 (V.rc i)):=
  fun i f=>(h.below a).row i o_
 have d:∀i,i<n->∀c,c<8->(w.alloc (.cells #[.slice (some ⟨V.ba,V.oa,none⟩) n V.ca,.slice (some ⟨V.bn,V.on,none⟩) n V.cn] 41)).cell? ⟨V.rb i,V.ro i+c,none⟩=some (.int .i64 (M.b7 i c)):=
  fun i f c b=>(h.below a).cT i c o_ b
 have j:∀i,i<n->dn_ (fun c=>(M.b7 i c:Int)) n 8=true:=by
  intro i f;rw[rx_];intro c b;have:=m i c f b;omega
 clear h m;go_enter func120,ntmps120;go_wp2
 go_loop [5,25] (fun _ i=>∃k:Nat,k<=n/\i= .int .i64 k) (fun _ i=>n - (intOf i).toNat)
 case atStart=>exact⟨0,o_,rfl⟩
 case round=>
  obtain⟨k,s,rfl⟩:=hrel;by_cases g:k<n
  . have t:=l k g;have o:=d k g;have p:=j k g;clear l d j;go_wp2_with (go_at_call 157;refine(w7_ _ _ _ (fun c=>(M.b7 k c:Int)) _ _ o).mono ?_;rw[p];rintro e w' ⟨rfl,rfl⟩);go_round
    case rel=>exact⟨k+1,o_,by go_num⟩
    case measure=>exact c_
  . clear l d j;go_wp2
    go_ret;exact⟨rfl,a⟩
def ar_ (s:ByteArray):List Nat:=s.data.toList.map fun c=>c.toNat - 97
def dh_ (s:ByteArray):Prop:=∀c∈s.data.toList,97<=c.toNat/\c.toNat<=104
theorem k7_ (h:dh_ s):Γ (ar_ s):=by
 intro c a;simp only[ar_,mem_map]at a;obtain⟨b,d,rfl⟩:=a;have:=h b d;omega
theorem lz_ (s:ByteArray):(ar_ s).length=s.size:=by simp[ar_]
theorem po_ (h:dh_ s)(k:Nat)(hk:k<s.size):97<=(s[k].toNat:Int)/\(s[k].toNat:Int)<=104:=by
 have:s[k]∈s.data.toList:=by
  rw[Array.mem_toList_iff];exact Array.getElem_mem (xs:=s.data) hk
 have:=h _ this;omega
theorem w8_ (s:ByteArray)(k:Nat)(h:k<s.size):(ar_ s).take (k+1)=(ar_ s).take k++ [s[k].toNat - 97]:=by
 rw[take_succ_eq_append_getElem (by rw[lz_];exact h)];congr 2
 simp[ar_];rfl
theorem w9_ (s t:ByteArray)(hs:dh_ s)(ht:dh_ t):dh_ (s++t):=by
 intro c a;have:(s++t).data=s.data++t.data:=by simp[ByteArray.data_append]
 rw[this,Array.toList_append,mp_]at a;rcases a with h|h
 . exact hs c h
 . exact ht c h
def g2_ (pv:Nat):UInt8:=UInt8.ofNat (97+pv)
theorem ry_ (pv:Nat)(h:pv<8):(g2_ pv).toNat=97+pv:=by
 unfold g2_;rw[UInt8.toNat_ofNat'];omega
theorem xa_ (pv:Nat)(h:pv<8):dh_ ⟨#[g2_ pv]⟩:=by
 intro c a;simp at a;subst a;have:=ry_ pv h;omega
theorem xb_ (h:Γ x)(k:Nat):Γ (x.take k):=fun c hc=>h c (mem_of_mem_take hc)
theorem xc_ (V:ρ)(M:γ)(s:ByteArray)(w:World)(hM:M.Ok)(h:π w V M)(hs:dh_ s)(hl:s.size<=1000):
 Calls prog 74 #[.agg #[.slice (some ⟨V.ba,V.oa,none⟩) M.n V.ca,.slice (some ⟨V.bn,V.on,none⟩) M.n V.cn],.string s] w
  fun e w'=>e= .returned (.tuple #[.bool (M.b6 (ar_ s)),.int .i64 0])/\Bl w w':=by
 have B:=hM.lo;have z:=hM.hi;have g:Bl w (w.alloc (.cells #[.slice (some ⟨V.ba,V.oa,none⟩) M.n V.ca,.slice (some ⟨V.bn,V.on,none⟩) M.n V.cn] 41)):=μ.alloc ι _;have f:=h.below g;go_enter func74,ntmps74;go_wp2_with fail;refine(jf_ V M _ hM f).mono ?_;rintro e u ⟨rfl,a⟩;have p:=(bc_ a).1 w.heap.size 0 i_;have r:=(bc_ a).1 w.heap.size 1 i_;have b:=f.below a;have o:Bl w u:=g.trans (a.mono i_);simp at p r;clear h f a;go_wp2_with fail;go_loop [6,7,8,9] (fun st i _ _=>∃k:Nat,k<=s.size/\i= .int .i64 k/\st= .int .i64 (M.read 0 ((ar_ s).take k))) (fun _ i _ _=>s.size - (intOf i).toNat)
 case atStart=>exact⟨0,zero_le _,rfl,rfl⟩
 case round=>
  obtain⟨k,A,rfl,rfl⟩:=hrel;have c:=γ.cU hM 0 o_ _ (xb_ (k7_ hs) k);by_cases m:k<s.size
  . have l:=po_ hs k m;have j:=w8_ s k m;have t:(s[k].toNat - 97:Nat)<8:=o_;have d:Hid (((M.read 0 ((ar_ s).take (k+1)):Nat):Int)=(M.b7 (M.read 0 ((ar_ s).take k)) (s[k].toNat - 97):Nat)):=by
     unfold Hid;rw[j,γ.cE]
    generalize M.read 0 ((ar_ s).take k)=q at*;have C:=b.row q c;have y:=b.cT q _ c t;have v:((s[k].toNat:Int)- 97).toNat=s[k].toNat - 97:=o_;clear j b;go_wp2_with (go_at_call 121;refine(pm_ _ _ l.1 l.2).mono ?_;rintro e w' ⟨rfl,rfl⟩);go_round
    case rel=>exact⟨k+1,o_,by go_num,by rw[d.out]⟩
    case measure=>exact c_
  . have e:k=s.size:=o_;subst e;rw[tk_ (by rw[lz_];omega)]at c ⊢;have d:Hid (M.b6 (ar_ s)=M.acc (M.read 0 (ar_ s))):=rfl;generalize M.read 0 (ar_ s)=q at*;have x:=b.acc q c;go_wp2
    go_ret2;exact⟨by rw[d.out];rfl,o⟩
def as_ (s:ByteArray):Nat->Bool
 |0=>true
 |k+1=>as_ s k&&(decide (97<=(s.data.toList.getD k 0).toNat)&&decide ((s.data.toList.getD k 0).toNat<=104))
theorem xd_ (s:ByteArray)(k:Nat):as_ s k=true↔∀j,j<k->97<=(s.data.toList.getD j 0).toNat/\(s.data.toList.getD j 0).toNat<=104:=by
 induction k with
 |zero=>simp[as_]
 |succ k ih=>
  simp only[as_,Bool.and_eq_true,ih,decide_eq_true_eq];constructor
  . rintro⟨h,a⟩ c hc;by_cases e:c=k
    . subst e;exact a
    . exact h c o_
  . intro h;exact⟨fun c hc=>h c o_,h k o_⟩
theorem rz_ (s:ByteArray)(k m:Nat)(hk:k<=m)(h:as_ s k=false):as_ s m=false:=by
 rw[Bool.eq_false_iff]at h ⊢;intro a;apply h;rw[xd_]at a ⊢;exact fun c hc=>a c o_
theorem l0_ (s:ByteArray)(k:Nat)(hk:k<s.size):s.data.toList.getD k 0=s[k]:=by
 rw[gd_,ge_ (by rw[Array.length_toList];exact hk)];rfl
theorem jg_ (s:ByteArray):as_ s s.size=true↔dh_ s:=by
 rw[xd_];constructor
 . intro h c d;obtain⟨j,a,rfl⟩:=getElem_of_mem d;have:=h j (by rw[Array.length_toList]at a;exact a);rw[gd_,ge_ a]at this;exact this
 . intro h j a;have b:j<s.data.toList.length:=by rw[Array.length_toList];exact a
   rw[gd_,ge_ b];exact h _ (getElem_mem b)
theorem aga_ (w:World)(base:Nat)(t ty e:TypeId)(i:TypeInfo)(z:Value)(size bytes:Nat)(ht:P.underlying t=some (.slice e))(hi:P.info? e=some i)(hz:i.zero=some z)
 (hsize:i.size=size) (hby:i.bytes=bytes) (hzs:z.cells.size=size) (hsz:0<size)
 (v:Value) (n:Nat) (xs:List Value) (hown:w.ownsRow base e size v n xs)
 (a:Addr) (m c:Nat) (news:List Value) (hl:news.length=m*size) (hnews:∀j u,news[j]? =some u->w.cell? (a.add j)=some u) (h1:∀u∈news,u.oneCell'=true) (hm:0<m)
 (h63:n+m<=maxLen) (hbytes:(n+m)*bytes<=140737488355328) (hbase:base<=w.heap.size):
 ∃g cap w',(Builtin.append_ #[t,t] ty #[v,.slice (some a) m c]).run P w= .ok (.slice (some ⟨g,0,none⟩) (n+m) cap) w'/\w'.ownsRow base e size (.slice (some ⟨g,0,none⟩) (n+m) cap) (n+m) (xs++news)/\
  w.grownBy w' v.ownBlock/\(v.ownBlock=some g\/g=w.heap.size):=by
 obtain⟨E,w',d,f,h,x⟩:=run_append_own (P:=P) w base t ty e i z size bytes ht hi hz hsize hby hzs hsz v n xs hown a m c news hl hnews h1 h63 hbytes hbase;subst hsize;subst hby;have C:n+m<=9223372036854775807:=by simp only[maxLen]at h63;omega
 rcases hown.2 with ⟨rfl,rfl⟩|⟨g,cap,k,rfl,y,r,B,A,p,D⟩
 . have b:=run_append_nil (P:=P) w t ty e i z ht hi hz a m c news hl hnews hm o_ (by have o:=hbytes;simp only[Nat.zero_add]at o;omega);rw[d]at b;injection b with e1 e2;rw[show m=0+m by omega]at e1;subst e1;exact⟨_,_,w',d,f,h,.inr rfl⟩
 . by_cases l:n+m<=cap
   . have q:n*i.size+news.length<=k.size:=by rw[hl,p,<-Nat.add_mul];exact mul_le_mul_right _ l
     have b:=run_append_room (P:=P) w t ty e i ht hi g n cap k r a m c news hl hnews h1 l q;rw[d]at b;injection b with e1 e2;subst e1;exact⟨_,_,w',d,f,h,.inl rfl⟩
   . have s:∀j u,xs[j]? =some u->w.cell? ((⟨g,0,none⟩:Addr).add j)=some u:=hown.cells (g:=g) rfl;have b:=run_append_grow (P:=P) w t ty e i z ht hi hz ⟨g,0,none⟩ n cap xs hown.1 s a m c news hl hnews o_ o_ (growslice_fits o_ hbytes);rw[d]at b;injection b with e1 e2;subst e1;exact⟨_,_,w',d,f,h,.inr rfl⟩
theorem jh_ (w:World){ops:Array Oper}{rest:List Oper}{o:Oper}{a:Act}{Q:Exit->Act->World->Prop}(hgd:o.guard=none)(s x:Operand)(t:TypeId)
 (ho:o.op= .call {callee:= .builtin .append,args:= #[s,x],argTypes:= #[t,t]})
 (base:Nat) (e:TypeId) (i:TypeInfo) (z:Value) (size bytes:Nat) (ht:P.underlying t=some (.slice e)) (hi:P.info? e=some i) (hz:i.zero=some z)
 (hsize:i.size=size) (hby:i.bytes=bytes) (hzs:z.cells.size=size) (hsz:0<size)
 (v:Value) (n:Nat) (xs:List Value) (hs:a.eval s=v) (hown:w.ownsRow base e size v n xs)
 (ad:Addr) (m c:Nat) (news:List Value) (hx:a.eval x= .slice (some ad) m c) (hl:news.length=m*size) (hnews:∀j u,news[j]? =some u->w.cell? (ad.add j)=some u) (h1:∀u∈news,u.oneCell'=true) (hm:0<m)
 (h63:n+m<=maxLen) (hbytes:(n+m)*bytes<=140737488355328) (hbase:base<=w.heap.size)
 (h:∀g cap w',w'.ownsRow base e size (.slice (some ⟨g,0,none⟩) (n+m) cap) (n+m) (xs++news)->w.grownBy w' v.ownBlock->(v.ownBlock=some g\/g=w.heap.size)->
  wpList P ops Q rest (a.put o.dst (.slice (some ⟨g,0,none⟩) (n+m) cap)) w'):wpList P ops Q (o::rest) a w:=by
 refine wpList_plain hgd fun K hK=> ?_
 obtain⟨g,cap,w',k,b,d,f⟩:=aga_ (P:=P) w base t o.type e i z size bytes ht hi hz hsize hby hzs hsz v n xs hown ad m c news hl hnews h1 hm h63 hbytes hbase;unfold Oper.wp execOp;simp only[ho,resolve,invoke,builtin,Sem.run_bind,Sem.run_pure,Result.andThen_ok,map_toArray,map_cons,map_nil,hs,hx,k];exact hK _ _ (h g cap w' b d f)
theorem Υ {P:Program} {w:World} {ops:Array Oper} {rest:List Oper} {o:Oper} {a:Act} {Q:Exit->Act->World->Prop} {s x:Operand} {t:TypeId} {base:Nat} {e:TypeId} {i:TypeInfo} {z:Value} {bytes:Nat}(ht:P.underlying t=some (.slice e))(hi:P.info? e=some i)(hz:i.zero=some z)(hsize:i.size=1)(hby:i.bytes=bytes) {v:Value} {n:Nat} {xs:List Value}(hown:w.ownsRow base e 1 v n xs) {ad:Addr} {c:Nat} {y:Value}(h:∀g cap w',w'.ownsRow base e 1 (.slice (some ⟨g,0,none⟩) (n+1) cap) (n+1) (xs++ [y])->w.grownBy w' v.ownBlock->(v.ownBlock=some g\/g=w.heap.size)->wpList P ops Q rest (a.put o.dst (.slice (some ⟨g,0,none⟩) (n+1) cap)) w')(hgd:o.guard=none:=by exact rfl)(ho:o.op= .call {callee:= .builtin .append,args:= #[s,x],argTypes:= #[t,t]}:=by exact rfl)(hzs:z.cells.size=1:=by exact rfl)(hs:a.eval s=v:=by exact rfl)(hx:a.eval x= .slice (some ad) 1 c:=by exact rfl)(hn:∀j u,[y][j]? =some u->w.cell? (ad.add j)=some u:=by exact cell_one_new _ _ _)(h1:∀u∈[y],u.oneCell'=true:=by exact gt_ rfl)(h6:n+1<=maxLen:=by unfold maxLen;omega)(hb:(n+1)*bytes<=140737488355328:=by omega)(hB:base<=w.heap.size:=by first|assumption|(simp;omega)|omega):wpList P ops Q (o::rest) a w:=jh_ w hgd s x t ho base e i z 1 bytes ht hi hz hsize hby hzs (by decide) v n xs hs hown ad 1 c [y] hx rfl hn h1 (by decide) h6 hb hB h
theorem β {x:Value}(h:w.heap[b]? =some (.cells #[x,y] t (0,0))):w.cell? ⟨b,0,none⟩=some x/\w.cell? ⟨b,1,none⟩=some y/\w.frozen? ⟨b,0,none⟩=false/\w.frozen? ⟨b,1,none⟩=false:=by
 simp[World.cell?,World.frozen?,h]
theorem cb_ {x:Value}(h:w.heap[b]? =some (.cells #[x,y] t (0,0))):(w.setCell ⟨b,0,none⟩ u).heap[b]? =some (.cells #[u,y] t (0,0)):=by
 simp[World.setCell,Array.getElem?_modify,h]
theorem fr_ {x:Value}(h:w.heap[b]? =some (.cells #[x,y] t (0,0))):(w.setCell ⟨b,1,none⟩ u).heap[b]? =some (.cells #[x,u] t (0,0)):=by
 simp[World.setCell,Array.getElem?_modify,h]
theorem Φ {x:Value}(h:w.heap[b]? =some (.cells #[x,y] t (0,0))):
 (w.setCell ⟨b,0,none⟩ u).cell? ⟨b,0,none⟩=some u/\((w.setCell ⟨b,0,none⟩ u).setCell ⟨b,1,none⟩ v).cell? ⟨b,1,none⟩=some v/\((w.setCell ⟨b,0,none⟩ u).setCell ⟨b,1,none⟩ v).cell? ⟨b,0,none⟩=some u:=
 ⟨(β (cb_ h)).1,(β (fr_ (cb_ h))).2.1,(β (fr_ (cb_ h))).1⟩
theorem a3_ {a:Addr}(h:w.heap[k]? =some o)(hne:k≠a.block):(w.setCell a u).heap[k]? =some o:=by
 rw[Below.heap_setCell w a u k hne];exact h
theorem κ (h:w.heap[b]? =some o):b<w.heap.size:=(Array.getElem?_eq_some_iff.1 h).1
structure cd_ (W:World)(b:Nat)(t e0 s0 e1 s1:Nat)(w:World)(v0 v1:Value)(n0 n1:Nat)(x0 x1:List Value):Prop where
 cz:Below b W w
 cg:w.heap[b]? =some (.cells #[v0,v1] t (0,0))
 cB:w.ownsRow (b+1) e0 s0 v0 n0 x0
 cA:w.ownsRow (b+1) e1 s1 v1 n1 x1
 cX:∀g,v0.ownBlock=some g->v1.ownBlock=some g->False
variable {W:World} {b t e0 s0 e1 s1:Nat} {w w1 w2:World} {v0 v1:Value} {n0 n1:Nat} {x0 x1:List Value}
theorem ao_ {size:Nat}(h:w.ownsRow base e size v n xs)(hb:Bl w w1):w1.ownsRow base e size v n xs:=
 h.kept (row:=none) ⟨hb.os,hb.tape,hb.output,hb.size,fun k hk _=>hb.block k hk⟩ (by cases hv:v.ownBlock<;>simp)
theorem cd_.below (h:cd_ W b t e0 s0 e1 s1 w v0 v1 n0 n1 x0 x1)(hb:Bl w w1):cd_ W b t e0 s0 e1 s1 w1 v0 v1 n0 n1 x0 x1 where
 cz:=h.cz.trans (hb.mono (by have:=κ h.cg;omega))
 cg:=by rw[hb.block b (κ h.cg)];exact h.cg
 cB:=ao_ h.cB hb
 cA:=ao_ h.cA hb
 cX:=h.cX
theorem cd_.cM (h:cd_ W b t e0 s0 e1 s1 w v0 v1 n0 n1 x0 x1)(hg:w.grownBy w2 v0.ownBlock):w2.heap[b]? =some (.cells #[v0,v1] t (0,0)):=by
 rw[hg.block b (κ h.cg) (fun e=>by have:=(h.cB.lt b e.symm).1;omega)];exact h.cg
theorem cd_.cN (h:cd_ W b t e0 s0 e1 s1 w v0 v1 n0 n1 x0 x1)(hg:w.grownBy w2 v1.ownBlock):w2.heap[b]? =some (.cells #[v0,v1] t (0,0)):=by
 rw[hg.block b (κ h.cg) (fun e=>by have:=(h.cA.lt b e.symm).1;omega)];exact h.cg
theorem cd_.eE (h:cd_ W b t e0 s0 e1 s1 w v0 v1 n0 n1 x0 x1)(hown:w2.ownsRow (b+1) e0 s0 (.slice (some ⟨g,0,none⟩) m cap) m ys)(hg:w.grownBy w2 v0.ownBlock)
 (hf:v0.ownBlock=some g\/g=w.heap.size):cd_ W b t e0 s0 e1 s1 (w2.setCell ⟨b,0,none⟩ (.slice (some ⟨g,0,none⟩) m cap)) (.slice (some ⟨g,0,none⟩) m cap) v1 m n1 ys x1 where
 cz:=by
  have d:=κ h.cg;exact(h.cz.grown hg o_ (fun k e=>by have:=(h.cB.lt k e).1;omega)).setCell ι _
 cg:=cb_ (h.cM hg)
 cB:=ownsRow_setCell_below hown i_ _
 cA:=ownsRow_setCell_below (h.cA.kept hg (by
  cases hv:v1.ownBlock with
  |none=>exact .inl rfl
  |some k=>exact .inr (fun e=>h.cX k e.symm hv))) i_ _
 cX:=by
  intro k a c;simp only[Value.ownBlock,Δ]at a;subst a;rcases hf with hf|rfl
  . exact h.cX _ hf c
  . have:=(h.cA.lt _ c).2;omega
theorem cd_.eD (h:cd_ W b t e0 s0 e1 s1 w v0 v1 n0 n1 x0 x1)(hown:w2.ownsRow (b+1) e1 s1 (.slice (some ⟨g,0,none⟩) m cap) m ys)(hg:w.grownBy w2 v1.ownBlock)
 (hf:v1.ownBlock=some g\/g=w.heap.size):cd_ W b t e0 s0 e1 s1 (w2.setCell ⟨b,1,none⟩ (.slice (some ⟨g,0,none⟩) m cap)) v0 (.slice (some ⟨g,0,none⟩) m cap) n0 m x0 ys where
 cz:=by
  have d:=κ h.cg;exact(h.cz.grown hg o_ (fun k e=>by have:=(h.cA.lt k e).1;omega)).setCell ι _
 cg:=fr_ (h.cN hg)
 cA:=ownsRow_setCell_below hown i_ _
 cB:=ownsRow_setCell_below (h.cB.kept hg (by
  cases hv:v0.ownBlock with
  |none=>exact .inl rfl
  |some k=>exact .inr (fun e=>h.cX k hv e.symm))) i_ _
 cX:=by
  intro k c a;simp only[Value.ownBlock,Δ]at a;subst a;rcases hf with hf|rfl
  . exact h.cX _ c hf
  . have:=(h.cB.lt _ c).2;omega
theorem Β {size:Nat}(h:w.ownsRow base e size v n xs):∃ao cap,v= .slice ao n cap/\(0<n->∃g,ao=some ⟨g,0,none⟩/\∀j,j<n*size->w.cell? ⟨g,j,none⟩=xs[j]?):=by
 rcases h.2 with ⟨rfl,rfl⟩|⟨g,cap,a,rfl,r⟩
 . exact⟨none,0,rfl,fun h=>absurd h o_⟩
 . exact⟨some ⟨g,0,none⟩,cap,rfl,fun _=>⟨g,rfl,fun j hj=>h.cellAt j hj⟩⟩
abbrev Bs:=List UInt8
theorem l1_:∀x:Bs,Op.bytesLess x x=false
 | []=>rfl
 |a::x=>by simp[Op.bytesLess,l1_ x]
theorem nj_ (a b:UInt8)(x y:Bs):Op.bytesLess (a::x) (b::y)=true↔a<b\/(a=b/\Op.bytesLess x y=true):=by
 simp[Op.bytesLess]
theorem nk_:∀x y z:Bs,Op.bytesLess x y=true->Op.bytesLess y z=true->Op.bytesLess x z=true
 | [],[],_,h,_=>by simp[Op.bytesLess]at h
 | [],_::_,[],_,h=>by simp[Op.bytesLess]at h
 | [],_::_,_::_,_,_=>by simp[Op.bytesLess]
 |_::_,[],_,h,_=>by simp[Op.bytesLess]at h
 |_::_,_::_,[],_,h=>by simp[Op.bytesLess]at h
 |a::x,b::y,c::z,h1,h2=>by
  rw[nj_]at h1 h2 ⊢;rcases h1 with h1|⟨rfl,h1⟩
  . rcases h2 with h2|⟨rfl,h2⟩
    . exact .inl (by simp only[UInt8.lt_iff_toNat_lt]at*;omega)
    . exact .inl h1
  . rcases h2 with h2|⟨rfl,h2⟩
    . exact .inl h2
    . exact .inr ⟨rfl,nk_ x y z h1 h2⟩
theorem pp_:∀x y:Bs,Op.bytesLess x y=false->x≠y->Op.bytesLess y x=true
 | [],[],_,h=>absurd rfl h
 | [],_::_,h,_=>by simp[Op.bytesLess]at h
 |_::_,[],_,_=>by simp[Op.bytesLess]
 |a::x,b::y,h,hne=>by
  rw[Bool.eq_false_iff,ne_eq,nj_]at h;rw[nj_];by_cases e:a=b
  . subst e;refine .inr ⟨rfl,pp_ x y (by rw[Bool.eq_false_iff];exact fun h'=>h (.inr ⟨rfl,h'⟩)) (fun e=>hne (by rw[e]))⟩
  . left
    have h2:a.toNat≠b.toNat:=fun h'=>e (UInt8.toNat_inj.1 h')
    simp only[UInt8.lt_iff_toNat_lt]at*;omega
theorem l2_ {x y:Bs}(h:Op.bytesLess x y=true):Op.bytesLess y x=false:=by
 rw[Bool.eq_false_iff];intro a;have:=nk_ _ _ _ h a;rw[l1_]at this;cases this
theorem xe_:∀p a b c:Bs,p<+:a->p<+:c->Op.bytesLess b a=false->Op.bytesLess c b=false->p<+:b
 | [],_,_,_,_,_,_,_=>nil_prefix
 |x::p,[],_,_,h,_,_,_=>by simp at h
 |x::p,_::_,_,[],_,h,_,_=>by simp at h
 |x::p,y::a,[],z::c,h1,h2,h3,h4=>by simp[Op.bytesLess]at h3
 |x::p,y::a,v::b,z::c,h1,h2,h3,h4=>by
  rw[cons_prefix_cons]at h1 h2 ⊢;obtain⟨rfl,h1⟩:=h1;obtain⟨rfl,h2⟩:=h2;rw[Bool.eq_false_iff,ne_eq,nj_]at h3 h4;have e:x=v:=by
   apply UInt8.toNat_inj.1;have d:¬v<x:=fun h'=>h3 (.inl h')
   have f:¬x<v:=fun h'=>h4 (.inl h')
   simp only[UInt8.lt_iff_toNat_lt]at d f;omega
  subst e;exact⟨rfl,xe_ p a b c h1 h2 (by rw[Bool.eq_false_iff];exact fun h'=>h3 (.inr ⟨rfl,h'⟩)) (by rw[Bool.eq_false_iff];exact fun h'=>h4 (.inr ⟨rfl,h'⟩))⟩
theorem xf_:∀ {x y:Bs},x<+:y->x≠y->Op.bytesLess x y=true
 | [],[],_,h=>absurd rfl h
 | [],_::_,_,_=>by simp[Op.bytesLess]
 |_::_,[],h,_=>by simp at h
 |a::x,b::y,h,hne=>by
  rw[cons_prefix_cons]at h;obtain⟨rfl,h⟩:=h;rw[nj_];exact .inr ⟨rfl,xf_ h (fun e=>hne (by rw[e]))⟩
def f1_:Bs->Bs->Nat
 |a::x,b::y=>if a=b then f1_ x y+1 else 0
 |_,_=>0
theorem is_:∀(x y:Bs) (n:Nat),n<=f1_ x y↔n<=x.length/\n<=y.length/\x.take n=y.take n
 | [],y,n=>by cases y<;>simp[f1_]<;>rintro rfl<;>simp
 |a::x,[],n=>by simp[f1_];rintro rfl;simp
 |a::x,b::y,0=>i_
 |a::x,b::y,n+1=>by
  have ih:=is_ x y n;by_cases e:a=b
  . subst e;simp only[f1_,if_true,length_cons,take_succ_cons,Nat.add_le_add_iff_right,ih,List.cons.injEq,true_and]
  . simp[f1_,e]
theorem r0_ (x y:Bs)(n:Nat)(h:n<=f1_ x y):f1_ x y=n↔¬(n<x.length/\n<y.length/\x.getD n 0=y.getD n 0):=by
 obtain⟨o,p,j⟩:=(is_ x y n).1 h;constructor
 . rintro e ⟨a,b,m⟩;have:n+1<=f1_ x y:=(is_ x y (n+1)).2 ⟨a,b,by
    rw[take_add_one,take_add_one,j];have c:x[n]? =some (x.getD n 0):=by simp[a]
    have d:y[n]? =some (y.getD n 0):=by simp[b]
    rw[c,d,m]⟩
   omega
 . intro l;apply Nat.le_antisymm ?_ h;apply Nat.le_of_not_lt;intro k;obtain⟨f,g,i⟩:=(is_ x y (n+1)).1 k;refine l ⟨f,g, ?_⟩;have:(x.take (n+1)).getD n 0=(y.take (n+1)).getD n 0:=by rw[i]
   simpa [List.getD,getElem?_take] using this
def Srt (t:Nat->Bs)(n:Nat):Prop:=∀i j,i<j->j<n->Op.bytesLess (t i) (t j)=true
def nl_ (t:Nat->Bs)(n:Nat)(p:Bs):Prop:=∃j k,j<n/\k<n/\p.length<(t j).length/\p.length<(t k).length/\(t j).take p.length=p/\(t k).take p.length=p/\(t j).getD p.length 0≠(t k).getD p.length 0
def gc_ (t:Nat->Bs)(i:Nat):Nat:=if i=0 then 0 else f1_ (t (i - 1)) (t i)
def k8_ (t:Nat->Bs)(n i m:Nat):Prop:=∃j,i<j/\j<n/\f1_ (t i) (t j)=m
theorem agb_ {t:Nat->Bs}(hs:Srt t n)(hi:i<n)(hji:j<i)(hm:m<=(t i).length)(hp:(t i).take m<+:t j):m<=gc_ t i:=by
 have c:i≠0:=o_;rw[gc_,if_neg c];have g:(t i).take m<+:t i:=take_prefix _ _;have d:Op.bytesLess (t (i - 1)) (t j)=false:=by
  by_cases e:j=i - 1
  . rw[<-e,l1_]
  . exact l2_ (hs j (i - 1) o_ o_)
 have f:Op.bytesLess (t i) (t (i - 1))=false:=l2_ (hs (i - 1) i o_ hi);have:=xe_ _ _ _ _ hp g d f;have a:((t i).take m).length=m:=by simp[hm]
 have b:=this.length_le;rw[a]at b;refine(is_ _ _ _).2 ⟨b,hm, ?_⟩;have e:=prefix_iff_eq_take.1 this;rw[a]at e;exact e.symm
theorem agc_ {t:Nat->Bs}(hs:Srt t n)(hi:i<n)(hk:gc_ t i<m)(hm:m<=(t i).length):
 (m=(t i).length\/k8_ t n i m)↔((∃j,j<n/\t j=(t i).take m)\/(t i).take m=[]\/nl_ t n ((t i).take m)):=by
 have a:((t i).take m).length=m:=by simp[hm]
 constructor
 . rintro(h|⟨j,q,f,g⟩)
   . exact .inl ⟨i,hi,by rw[h];simp⟩
   . obtain⟨L,M,l⟩:=(is_ (t i) (t j) m).1 o_;have D:=(r0_ (t i) (t j) m o_).1 g;by_cases E:m=(t i).length
     . exact .inl ⟨i,hi,by rw[E];simp⟩
     . by_cases F:m=(t j).length
       . exact .inl ⟨j,f,by rw[l,F];simp⟩
       . refine .inr (.inr ⟨i,j,hi,f,by rw[a];omega,by rw[a];omega,by rw[a],by rw[a,l], ?_⟩);rw[a];intro e;exact D ⟨o_,o_,e⟩
 . intro h;by_cases e:m=(t i).length
   . exact .inl e
   right;have u:∀j,j<n->m<=(t j).length->(t j).take m=(t i).take m->j≠i->i<j:=by
    intro j c N J I;apply Nat.lt_of_le_of_ne ?_ (fun e=>I e.symm);apply Nat.le_of_not_lt;intro H;have:=agb_ hs hi H hm (by rw[<-J];exact take_prefix _ _);omega
   rcases h with ⟨j,c,d⟩|h|⟨j,k,c,G,y,z,A,B,r⟩
   . exfalso;have s:j≠i:=by
      rintro rfl;have:=congrArg List.length d;rw[a]at this;omega
     have q:=u j c (by rw[d,a];omega) (by rw[d,take_take];simp) s;have f:=hs i j q c;have g:Op.bytesLess (t j) (t i)=true:=xf_ (by rw[d];exact take_prefix _ _) (fun b=>s (by
      exfalso;have:=congrArg List.length b;rw[d,a]at this;omega))
     rw[l2_ f]at g;cases g
   . have:=congrArg List.length h;rw[a]at this;simp at this;omega
   . rw[a]at y z A B r;have w:∀x,x<n->m<(t x).length->(t x).take m=(t i).take m->(t x).getD m 0≠(t i).getD m 0->k8_ t n i m:=by
      intro x v O C o;have K:x≠i:=by rintro rfl;exact o rfl
      refine⟨x,u x v o_ C K,v, ?_⟩;refine(r0_ (t i) (t x) m ((is_ _ _ _).2 ⟨hm,o_,C.symm⟩)).2 ?_;rintro⟨_,_,b⟩;exact o b.symm
     by_cases p:(t j).getD m 0=(t i).getD m 0
     . exact w k G z B (fun b=>r (by rw[p,b]))
     . exact w j c y A p
def ω (s:ByteArray):Bs:=s.data.toList
theorem hv_ {b:ByteArray}(h:ω a=ω b):a=b:=by
 cases a;cases b;simp only[ω]at h;congr 1;exact Array.ext' h
theorem eq_ (s:ByteArray):(ω s).length=s.size:=by rw[ω,Array.length_toList];rfl
def less (a b:ByteArray):Bool:=Op.bytesLess a.toList b.toList
theorem nm_ (a b:ByteArray):less a b=Op.bytesLess (ω a) (ω b):=by rw[less,ByteArray.toList_eq,ByteArray.toList_eq];rfl
theorem g3_ (a b:ByteArray):(a.toList==b.toList)=decide (a=b):=by
 rw[ByteArray.toList_eq,ByteArray.toList_eq];by_cases h:a=b
 . subst h;simp
 . have:ω a≠ω b:=fun e=>h (hv_ e)
   simp only[h,decide_false,bq_,ne_eq];exact this
theorem xg_ (a:ByteArray):less a a=false:=by rw[nm_,l1_]
theorem agd_ {b c:ByteArray}(h1:less a b=true)(h2:less b c=true):less a c=true:=by rw[nm_]at*;exact nk_ _ _ _ h1 h2
theorem xh_ {b:ByteArray}(h:less a b=false)(hne:a≠b):less b a=true:=by rw[nm_]at*;exact pp_ _ _ h (fun e=>hne (hv_ e))
theorem xi_ {b:ByteArray}(h:less a b=true):less b a=false:=by rw[nm_]at*;exact l2_ h
theorem r2_ {b:ByteArray}(h:less a b=true):a≠b:=by rintro rfl;rw[xg_]at h;cases h
def d2_ (t:Nat->ByteArray)(n:Nat):Prop:=∀i j,i<j->j<n->less (t i) (t j)=true
theorem d2_.dx {t:Nat->ByteArray}(h:d2_ t n):Srt (fun i=>ω (t i)) n:=fun i j h1 h2=>by rw[<-nm_];exact h i j h1 h2
structure d3_ (t:Nat->ByteArray)(n:Nat)(s:ByteArray)(p:Nat):Prop where
 le:p<=n
 lo:∀j,j<p->less (t j) s=true
 at':p<n->less (t p) s=false
section
variable {t:Nat->ByteArray} {n p:Nat} {s:ByteArray}
theorem d3_.hi (h:d3_ t n s p)(hs:d2_ t n)(j:Nat)(h1:p<=j)(h2:j<n):less (t j) s=false:=by
 have a:=h.at' o_;by_cases e:p=j
 . rw[<-e];exact a
 . rw[Bool.eq_false_iff];intro b;have:=agd_ (hs p j o_ h2) b;rw[a]at this;cases this
theorem d3_.dF (h:d3_ t n s p)(hs:d2_ t n):(∃j,j<n/\t j=s)↔(p<n/\t p=s):=by
 constructor
 . rintro⟨j,b,e⟩;have a:p<=j:=by
    apply Nat.le_of_not_lt;intro f;exact r2_ (h.lo j f) e
   by_cases c:p=j
   . subst c;exact⟨b,e⟩
   . have:=hs p j o_ b;rw[e,h.at' o_]at this;cases this
 . rintro⟨a,d⟩;exact⟨p,a,d⟩
theorem d3_.gt (h:d3_ t n s p)(hs:d2_ t n)(hn:¬(p<n/\t p=s))(j:Nat)(h1:p<=j)(h2:j<n):less s (t j)=true:=by
 refine xh_ (h.hi hs j h1 h2) ?_;intro e;exact hn ((h.dF hs).1 ⟨j,h2,e⟩)
def ins (t:Nat->ByteArray)(p:Nat)(s:ByteArray):Nat->ByteArray:=fun j=>if j<p then t j else if j=p then s else t (j - 1)
def del (t:Nat->ByteArray)(p:Nat):Nat->ByteArray:=fun j=>if j<p then t j else t (j+1)
theorem d3_.ey (h:d3_ t n s p)(hs:d2_ t n)(hn:¬(p<n/\t p=s)):d2_ (ins t p s) (n+1):=by
 intro i j d e;have f:=h.le;unfold ins;by_cases a:i<p
 . rw[if_pos a];by_cases b:j<p
   . rw[if_pos b];exact hs i j d o_
   . rw[if_neg b];by_cases c:j=p
     . rw[if_pos c];exact h.lo i a
     . rw[if_neg c];exact hs i (j - 1) o_ o_
 . rw[if_neg a,if_neg (show¬j<p by omega),if_neg (show¬j=p by omega)];by_cases c:i=p
   . rw[if_pos c];exact h.gt hs hn (j - 1) o_ o_
   . rw[if_neg c];exact hs (i - 1) (j - 1) o_ o_
theorem age_ (hs:d2_ t n)(hp:p<n):d2_ (del t p) (n - 1):=by
 intro i j c d;unfold del;by_cases a:i<p
 . rw[if_pos a];by_cases b:j<p
   . rw[if_pos b];exact hs i j c o_
   . rw[if_neg b];exact hs i (j+1) o_ o_
 . rw[if_neg a,if_neg (show¬j<p by omega)];exact hs (i+1) (j+1) o_ o_
end
theorem ji_ (s:ByteArray)(m:Nat):ω (s.extract 0 m)=(ω s).take m:=by
 simp[ω,ByteArray.data_extract]
def e7_ (t:Nat->ByteArray)(n i m:Nat):Prop:=gc_ (fun j=>ω (t j)) i<m/\(m=(t i).size\/k8_ (fun j=>ω (t j)) n i m)
open Classical in
noncomputable def kin (t:Nat->ByteArray)(n i:Nat):Nat->List ByteArray
 |0=> []
 |m+1=>if e7_ t n i (m+1)then kin t n i m++ [(t i).extract 0 (m+1)]else kin t n i m
theorem k9_ {t:Nat->ByteArray}(h:e7_ t n i (m+1)):kin t n i (m+1)=kin t n i m++ [(t i).extract 0 (m+1)]:=by rw[kin,if_pos h]
theorem l3_ {t:Nat->ByteArray}(h:¬e7_ t n i (m+1)):kin t n i (m+1)=kin t n i m:=by rw[kin,if_neg h]
theorem xj_ (t:Nat->ByteArray)(n i:Nat):∀m,m<=gc_ (fun j=>ω (t j)) i->kin t n i m=[]
 |0,_=>rfl
 |m+1,h=>by rw[l3_ (fun hk=>by have:=hk.1;omega)];exact xj_ t n i m o_
theorem pq_ (t:Nat->ByteArray)(n i:Nat):∀m,(kin t n i m).length<=m
 |0=>by simp[kin]
 |m+1=>by
  have:=pq_ t n i m;by_cases h:e7_ t n i (m+1)
  . rw[k9_ h];simp;omega
  . rw[l3_ h];omega
noncomputable def am_ (t:Nat->ByteArray)(n:Nat):Nat->List ByteArray
 |0=> [ByteArray.empty]
 |i+1=>am_ t n i++kin t n i (t i).size
theorem pr_ (t:Nat->ByteArray)(n:Nat)(hz:∀i,i<n->(t i).size<=12):∀i,i<=n->(am_ t n i).length<=1+12*i
 |0,_=>by simp[am_]
 |i+1,h=>by
  have h1:=pr_ t n hz i o_;have h2:=pq_ t n i (t i).size;have h3:=hz i o_;rw[am_,Μ];omega
theorem agf_ {t:Nat->ByteArray}(hs:d2_ t n)(hi:i<n)(hm:m<=(t i).size)(hk:gc_ (fun j=>ω (t j)) i<m):
 e7_ t n i m↔((∃j,j<n/\t j=(t i).extract 0 m)\/(t i).extract 0 m=ByteArray.empty\/nl_ (fun j=>ω (t j)) n (ω ((t i).extract 0 m))):=by
 have h:=agc_ hs.dx hi hk (by rw[eq_];exact hm);rw[e7_,and_iff_right hk];simp only[eq_]at h;rw[h,ji_];have b:(∃j,j<n/\ω (t j)=(ω (t i)).take m)↔∃j,j<n/\t j=(t i).extract 0 m:=by
  constructor
  . rintro⟨j,a,e⟩;exact⟨j,a,hv_ (by rw[e,ji_])⟩
  . rintro⟨j,a,e⟩;exact⟨j,a,by rw[e,ji_]⟩
 have c:(ω (t i)).take m=[]↔(t i).extract 0 m=ByteArray.empty:=by
  rw[<-ji_];constructor
  . intro e;exact hv_ (by rw[e];rfl)
  . intro e;rw[e];rfl
 rw[b,c]
theorem agg_ {t:Nat->ByteArray}(hm:m<=(t i).size)(h0:0<m)(last:ByteArray)(hl:last=if i=0 then ByteArray.empty else t (i - 1)):
 (m<=last.size/\last.extract 0 m=(t i).extract 0 m)↔m<=gc_ (fun j=>ω (t j)) i:=by
 rw[gc_];by_cases e:i=0
 . rw[if_pos e]at hl ⊢;subst hl;simp;omega
 . rw[if_neg e]at hl ⊢;subst hl;rw[is_,eq_,eq_,<-ji_,<-ji_];constructor
   . rintro⟨a,b⟩;exact⟨a,hm,by rw[b]⟩
   . rintro⟨a,_,b⟩;exact⟨a,hv_ b⟩
def Ζ (l:List ByteArray):List Value:=l.map .string
theorem it_ (l:List ByteArray)(s:ByteArray):Ζ l++ [.string s]=Ζ (l++ [s]):=by simp[Ζ]
def hw_ (t:Nat->ByteArray)(k:Nat):List Value:=(List.range k).map fun j=> .string (t j)
theorem l4_ (t:Nat->ByteArray)(k:Nat):hw_ t k++ [.string (t k)]=hw_ t (k+1):=by simp[hw_,range_succ]
theorem agh_ (t:Nat->ByteArray)(h:j<k):(hw_ t k)[j]? =some (.string (t j)):=by simp[hw_,h]
theorem nn_ (s:ByteArray)(w:World)(hs:s.size<=maxLen):
 Calls prog 98 #[.string s] w fun e w'=>e= .returned (.bool (decide (s.size<=12)&&as_ s s.size))/\w'=w:=by
 unfold maxLen at hs;by_cases h:s.size<=12
 . have e:(decide (s.size<=12)&&as_ s s.size)=as_ s s.size:=by simp[h]
   rw[e];clear e;go_enter func98,ntmps98;go_wp2_with fail;go_loop [3] (fun i'=>∃i:Nat,i<=s.size/\i'= .int .i64 i/\as_ s i=true) (fun i'=>s.size - (intOf i').toNat)
   case atStart=>exact⟨0,o_,rfl,rfl⟩
   case round=>
    obtain⟨i,k,rfl,c⟩:=hrel;by_cases j:i<s.size
    . have f:=l0_ s i j;have d:as_ s (i+1)=(decide (97<=s[i].toNat)&&decide (s[i].toNat<=104)):=by simp only[as_,c,Bool.true_and,f]
      by_cases g:97<=s[i].toNat/\s[i].toNat<=104
      . have b:Hid (as_ s (i+1)=true):=by unfold Hid;rw[d];simp[g.1,g.2]
        have a:=w4_ (s[i].toNat:Int) w o_ o_;clear d f c;go_wp2_with fail;refine a.mono ?_;rintro e w' ⟨rfl,rfl⟩;clear a;go_wp2_with fail;go_round
        case rel=>exact⟨i+1,o_,by go_num,b.out⟩
        case measure=>exact c_
      . have b:Hid (as_ s s.size=false):=rz_ s (i+1) _ o_ (by rw[d];simp;omega);have a:=w5_ (s[i].toNat:Int) w o_;clear d f c;go_wp2_with fail;refine a.mono ?_;rintro e w' ⟨rfl,rfl⟩;clear a;go_wp2_with fail;go_ret;exact⟨b6_ b.out.symm,rfl⟩
    . have e:i=s.size:=o_;subst e;have b:=α c;clear c;go_wp2_with fail;go_ret;exact⟨b6_ b.out.symm,rfl⟩
 . have e:(decide (s.size<=12)&&as_ s s.size)=false:=by simp[h]
   rw[e];clear e;go_enter func98,ntmps98;go_wp2_with fail;go_ret;exact⟨rfl,rfl⟩
theorem xk_ (pv:Nat)(h:pv<8)(u:World):Sem.run prog (convert 110 9 (.slice (some ⟨u.heap.size,0,none⟩) 1 1)) (u.alloc (.cells #[.int .u8 (97+(pv:Int))] 5))=
 .ok (.string ⟨#[g2_ pv]⟩) (u.alloc (.cells #[.int .u8 (97+(pv:Int))] 5)):=by
 have a:=run_convert_bytes_back (P:=prog) (u.alloc (.cells #[.int .u8 (97+(pv:Int))] 5)) 110 9 5 ⟨u.heap.size,0,none⟩ 1 [g2_ pv] underlying110 underlying5 underlying9 (by
  intro j b;have:j=0:=by simp at b;omega
  subst this;have:=cell_one_new u (.int .u8 (97+(pv:Int))) 5 0 _ rfl;rw[this];simp only[getElem_cons_zero,ry_ pv h];rfl)
 exact a
inductive ζ where
 |none:ζ
 |one (S:Nat->Bool):ζ
 |chain (a b:ζ):ζ
 |alt (a b:ζ):ζ
 |rep (a:ζ) (least cV:Nat) (endless:Bool):ζ
inductive e3_ (l:List Nat->Prop):List Nat->Prop where
 |nil:e3_ l []
 |cons {u v:List Nat} (hu:l u) (hv:e3_ l v):e3_ l (u++v)
def Cat (l l':List Nat->Prop)(x:List Nat):Prop:=∃u v,x=u++v/\l u/\l' v
def fi_ (l:List Nat->Prop)(least i:Nat)(endless:Bool)(x:List Nat):Prop:=
 if i<least then l x else if endless then e3_ l x else x=[]\/l x
def fs_ (l:List Nat->Prop)(least:Nat)(endless:Bool):Nat->List Nat->Prop
 |0=>fun x=>x=[]
 |k+1=>Cat (fs_ l least endless k) (fi_ l least k endless)
def ζ.lang:ζ->List Nat->Prop
 | .none=>fun x=>x=[]
 | .one S=>fun x=>∃c,x=[c]/\S c=true
 | .chain a b=>Cat a.lang b.lang
 | .alt a b=>fun x=>a.lang x\/b.lang x
 | .rep a least cV endless=>fs_ a.lang least endless cV
inductive Way (B rd:Nat->Nat->Prop)(L:Nat->Prop):Nat->List Nat->Prop where
 |last {p c:Nat} (hr:rd p c) (hl:L p):Way B rd L p [c]
 |step {p q c:Nat} {x:List Nat} (hr:rd p c) (hb:B p q) (hx:Way B rd L q x):Way B rd L p (c::x)
theorem Way.ne_nil {B rd:Nat->Nat->Prop}(h:Way B rd L p x):x≠ []:=by cases h<;>simp
theorem Way.mono {B B' rd:Nat->Nat->Prop}{L':Nat->Prop}(hB:∀p q,B p q->B' p q)(hL:∀p,L p->L' p)(h:Way B rd L p x):Way B' rd L' p x:=by
 induction h with
 |last hr hl=>exact .last hr (hL _ hl)
 |step hr hb _ ih=>exact .step hr (hB _ _ hb) ih
structure Str (rd:Nat->Nat->Prop) where
 lo:Nat
 hi:Nat
 e:Prop
 F:Nat->Prop
 L:Nat->Prop
 B:Nat->Nat->Prop
structure Str.In {rd:Nat->Nat->Prop}(s:Str rd):Prop where
 le:s.lo<=s.hi
 fi:∀p,s.F p->s.lo<=p/\p<s.hi
 la:∀p,s.L p->s.lo<=p/\p<s.hi
 be:∀p q,s.B p q->(s.lo<=p/\p<s.hi)/\(s.lo<=q/\q<s.hi)
def Str.acc {rd:Nat->Nat->Prop}(s:Str rd)(x:List Nat):Prop:=(x=[]/\s.e)\/∃p,s.F p/\Way s.B rd s.L p x
def Str.chain {rd:Nat->Nat->Prop}(s t:Str rd):Str rd where
 lo:=s.lo
 hi:=t.hi
 e:=s.e/\t.e
 F p:=s.F p\/(s.e/\t.F p)
 L p:=t.L p\/(t.e/\s.L p)
 B p q:=s.B p q\/t.B p q\/(s.L p/\t.F q)
def Str.alt {rd:Nat->Nat->Prop}(s t:Str rd):Str rd where
 lo:=s.lo
 hi:=t.hi
 e:=s.e\/t.e
 F p:=s.F p\/t.F p
 L p:=s.L p\/t.L p
 B p q:=s.B p q\/t.B p q
def Str.free {rd:Nat->Nat->Prop}(s:Str rd)(endless:Prop):Str rd where
 lo:=s.lo
 hi:=s.hi
 e:=True
 F:=s.F
 L:=s.L
 B p q:=s.B p q\/(endless/\s.L p/\s.F q)
section
variable {rd:Nat->Nat->Prop} {s t:Str rd}
theorem ps_ (hs:s.In)(ht:t.In)(h:s.hi=t.lo)(hp:t.lo<=p):Way (s.chain t).B rd (s.chain t).L p x↔Way t.B rd t.L p x:=by
 constructor
 . intro c;induction c with
   |last hr b=>
    rcases b with b|⟨_,b⟩
    . exact .last hr b
    . have:=hs.la _ b;omega
   |step hr a _ ih=>
    rcases a with a|a|⟨a,_⟩
    . have:=(hs.be _ _ a).1;omega
    . exact .step hr a (ih (ht.be _ _ a).2.1)
    . have:=hs.la _ a;omega
 . exact Way.mono (fun p q h=> .inr (.inl h)) (fun p h=> .inl h)
theorem agi_ (hs:s.In)(ht:t.In)(h:s.hi=t.lo)(hp:p<s.hi)(hw:Way (s.chain t).B rd (s.chain t).L p x):∃u v,x=u++v/\Way s.B rd s.L p u/\t.acc v:=by
 induction hw with
 |last hr b=>
  rcases b with b|⟨f,b⟩
  . have:=ht.la _ b;omega
  . exact⟨_,[],i_,.last hr b,.inl ⟨rfl,f⟩⟩
 |step hr a hx ih=>
  rcases a with a|a|⟨a,c⟩
  . obtain⟨u,v,rfl,d,e⟩:=ih (hs.be _ _ a).2.2;exact⟨_::u,v,rfl,.step hr a d,e⟩
  . have:=(ht.be _ _ a).1;omega
  . exact⟨[_],_,rfl,.last hr a,.inr ⟨_,c,(ps_ hs ht h (ht.fi _ c).1).1 hx⟩⟩
theorem agj_ (hs:s.In)(ht:t.In)(h:s.hi=t.lo){u v:List Nat}(hu:Way s.B rd s.L p u)(hv:t.acc v):Way (s.chain t).B rd (s.chain t).L p (u++v):=by
 rcases hv with ⟨rfl,b⟩|⟨q,a,hv⟩
 . rw[append_nil];exact hu.mono (fun p q h=> .inl h) (fun p hl=> .inr ⟨b,hl⟩)
 . have c:=(ps_ hs ht h (ht.fi _ a).1).2 hv;induction hu with
   |last hr hl=>exact .step hr (.inr (.inr ⟨hl,a⟩)) c
   |step hr hb _ ih=>exact .step hr (.inl hb) ih
theorem agk_ (hs:s.In)(ht:t.In)(h:s.hi=t.lo)(x:List Nat):(s.chain t).acc x↔Cat s.acc t.acc x:=by
 constructor
 . rintro(⟨rfl,c,d⟩|⟨p,a|⟨b,a⟩,hw⟩)
   . exact⟨[],[],rfl,.inl ⟨rfl,c⟩,.inl ⟨rfl,d⟩⟩
   . obtain⟨u,v,rfl,c,d⟩:=agi_ hs ht h (hs.fi p a).2 hw;exact⟨u,v,rfl,.inr ⟨p,a,c⟩,d⟩
   . exact⟨[],x,rfl,.inl ⟨rfl,b⟩,.inr ⟨p,a,(ps_ hs ht h (ht.fi p a).1).1 hw⟩⟩
 . rintro⟨u,v,rfl,⟨rfl,b⟩|⟨p,a,g⟩,hv⟩
   . rcases hv with ⟨rfl,f⟩|⟨q,e,hv⟩
     . exact .inl ⟨rfl,b,f⟩
     . exact .inr ⟨q,.inr ⟨b,e⟩,by simpa using (ps_ hs ht h (ht.fi q e).1).2 hv⟩
   . exact .inr ⟨p,.inl a,agj_ hs ht h g hv⟩
theorem agl_ (hs:s.In)(ht:t.In)(h:s.hi=t.lo)(x:List Nat):(s.alt t).acc x↔s.acc x\/t.acc x:=by
 have d:∀p x,p<s.hi->Way (s.alt t).B rd (s.alt t).L p x->Way s.B rd s.L p x:=by
  intro p x a b;induction b with
  |last hr hl=>
   rcases hl with hl|hl
   . exact .last hr hl
   . have:=ht.la _ hl;omega
  |step hr hb _ ih=>
   rcases hb with hb|hb
   . exact .step hr hb (ih (hs.be _ _ hb).2.2)
   . have:=(ht.be _ _ hb).1;omega
 have e:∀p x,t.lo<=p->Way (s.alt t).B rd (s.alt t).L p x->Way t.B rd t.L p x:=by
  intro p x a b;induction b with
  |last hr hl=>
   rcases hl with hl|hl
   . have:=hs.la _ hl;omega
   . exact .last hr hl
  |step hr hb _ ih=>
   rcases hb with hb|hb
   . have:=(hs.be _ _ hb).1;omega
   . exact .step hr hb (ih (ht.be _ _ hb).2.1)
 constructor
 . rintro(⟨rfl,c|c⟩|⟨p,a|a,b⟩)
   . exact .inl (.inl ⟨rfl,c⟩)
   . exact .inr (.inl ⟨rfl,c⟩)
   . exact .inl (.inr ⟨p,a,d p x (hs.fi p a).2 b⟩)
   . exact .inr (.inr ⟨p,a,e p x (ht.fi p a).1 b⟩)
 . rintro((⟨rfl,c⟩|⟨p,a,b⟩)|(⟨rfl,c⟩|⟨p,a,b⟩))
   . exact .inl ⟨rfl,.inl c⟩
   . exact .inr ⟨p,.inl a,b.mono (fun _ _ h=> .inl h) (fun _ h=> .inl h)⟩
   . exact .inl ⟨rfl,.inr c⟩
   . exact .inr ⟨p,.inr a,b.mono (fun _ _ h=> .inr h) (fun _ h=> .inr h)⟩
theorem xl_ {en:Prop}(hw:Way (s.free en).B rd (s.free en).L p x):∃u v,x=u++v/\Way s.B rd s.L p u/\(v=[]\/(en/\∃q,s.F q/\Way (s.free en).B rd (s.free en).L q v)):=by
 induction hw with
 |last hr a=>exact⟨_,[],i_,.last hr a,.inl rfl⟩
 |step hr hb hx ih=>
  rcases hb with hb|⟨d,a,e⟩
  . obtain⟨u,v,rfl,b,c⟩:=ih;exact⟨_::u,v,rfl,.step hr hb b,c⟩
  . exact⟨[_],_,rfl,.last hr a,.inr ⟨d,_,e,hx⟩⟩
theorem agm_ {en:Prop}(he:en){q:Nat}{u v:List Nat}(hu:Way s.B rd s.L p u)(hq:s.F q)(hv:Way (s.free en).B rd (s.free en).L q v):Way (s.free en).B rd (s.free en).L p (u++v):=by
 induction hu with
 |last hr hl=>exact .step hr (.inr ⟨he,hl,hq⟩) hv
 |step hr hb _ ih=>exact .step hr (.inl hb) ih
theorem agn_ (x:List Nat):(s.free False).acc x↔x=[]\/s.acc x:=by
 constructor
 . rintro(⟨rfl,_⟩|⟨p,a,b⟩)
   . exact .inl rfl
   . obtain⟨u,v,rfl,c,rfl|⟨d,_⟩⟩:=xl_ b
     . rw[append_nil];exact .inr (.inr ⟨p,a,c⟩)
     . exact d.elim
 . rintro(rfl|⟨rfl,_⟩|⟨p,a,b⟩)
   . exact .inl ⟨rfl,trivial⟩
   . exact .inl ⟨rfl,trivial⟩
   . exact .inr ⟨p,a,b.mono (fun _ _ h=> .inl h) (fun _ h=>h)⟩
theorem ago_ (x:List Nat):(s.free True).acc x↔e3_ s.acc x:=by
 constructor
 . rintro(⟨rfl,_⟩|⟨p,a,b⟩)
   . exact .nil
   . have i:∀n x p,x.length<=n->s.F p->Way (s.free True).B rd (s.free True).L p x->e3_ s.acc x:=by
      intro n;induction n with
      |zero=>
       intro x p f _ b;exact absurd (length_eq_zero_iff.1 o_) b.ne_nil
      |succ n ih=>
       intro x p f a b;obtain⟨u,v,rfl,d,rfl|⟨_,q,e,g⟩⟩:=xl_ b
       . exact .cons (.inr ⟨p,a,d⟩) .nil
       . have j:1<=u.length:=by cases u with
          |nil=>exact absurd rfl d.ne_nil
          |cons _ _=>simp
         exact .cons (.inr ⟨p,a,d⟩) (ih v q (by rw[Μ]at f;omega) e g)
     exact i _ x p ι a b
 . intro h;induction h with
   |nil=>exact .inl ⟨rfl,trivial⟩
   |cons c _ ih=>
    rcases c with ⟨rfl,_⟩|⟨p,a,c⟩
    . simpa using ih
    . rcases ih with ⟨rfl,_⟩|⟨q,e,hv⟩
      . rw[append_nil];exact .inr ⟨p,a,c.mono (fun _ _ h=> .inl h) (fun _ h=>h)⟩
      . exact .inr ⟨p,a,agm_ trivial c e hv⟩
end
def Str.nothing (rd:Nat->Nat->Prop)(lo:Nat):Str rd:=⟨lo,lo,True,fun _=>False,fun _=>False,fun _ _=>False⟩
theorem agp_ (rd:Nat->Nat->Prop)(lo:Nat)(x:List Nat):(Str.nothing rd lo).acc x↔x=[]:=by
 constructor
 . rintro(⟨rfl,_⟩|⟨_,h,_⟩)
   . rfl
   . exact h.elim
 . rintro rfl;exact .inl ⟨rfl,trivial⟩
def Str.spot (rd:Nat->Nat->Prop)(lo:Nat):Str rd:=⟨lo,lo+1,False,fun p=>p=lo,fun p=>p=lo,fun _ _=>False⟩
theorem agq_ {rd:Nat->Nat->Prop}{lo:Nat}{S:Nat->Bool}(h:∀c,rd lo c↔S c=true)(x:List Nat):(Str.spot rd lo).acc x↔(ζ.one S).lang x:=by
 constructor
 . rintro(⟨_,a⟩|⟨p,d,f⟩)
   . exact a.elim
   . have e:p=lo:=d;subst e;cases f with
     |last hr _=>exact⟨_,rfl,(h _).1 hr⟩
     |step _ hb _=>exact hb.elim
 . rintro⟨c,rfl,b⟩;exact .inr ⟨lo,rfl,.last ((h c).2 b) rfl⟩
theorem Cat.congr {m m':List Nat->Prop}(h:∀x,l x↔l' x)(h':∀x,m x↔m' x)(x:List Nat):Cat l m x↔Cat l' m' x:=
 ⟨fun⟨u,v,e,a,b⟩=>⟨u,v,e,(h u).1 a,(h' v).1 b⟩,fun⟨u,v,e,a,b⟩=>⟨u,v,e,(h u).2 a,(h' v).2 b⟩⟩
theorem e3_.congr (h:∀x,l x↔l' x)(x:List Nat):e3_ l x↔e3_ l' x:=
 ⟨fun hs=>by induction hs with
  |nil=>exact .nil
  |cons hu _ ih=>exact .cons ((h _).1 hu) ih,fun hs=>by induction hs with
  |nil=>exact .nil
  |cons hu _ ih=>exact .cons ((h _).2 hu) ih⟩
def ζ.size:ζ->Nat
 | .none=>0
 | .one _=>1
 | .chain a b=>a.size+b.size
 | .alt a b=>a.size+b.size
 | .rep a _ cV _=>a.size*cV
theorem xm_ (h:∀x,l x↔x=[])(x:List Nat):e3_ l x↔x=[]:=by
 constructor
 . intro a;induction a with
   |nil=>rfl
   |cons hu _ ih=>rw[(h _).1 hu,ih];rfl
 . rintro rfl;exact .nil
theorem agr_ (h:∀x,l x↔x=[])(least:Nat)(endless:Bool)(k:Nat)(x:List Nat):fs_ l least endless k x↔x=[]:=by
 induction k generalizing x with
 |zero=>exact Iff.rfl
 |succ k ih=>
  have b:∀x,fi_ l least k endless x↔x=[]:=by
   intro x;unfold fi_;by_cases a:k<least
   . rw[if_pos a];exact h x
   . rw[if_neg a];cases endless
     . rw[if_neg i_,h x];simp
     . rw[if_pos rfl];exact xm_ h x
  constructor
  . rintro⟨u,v,rfl,c,hv⟩;rw[(ih u).1 c,(b v).1 hv];rfl
  . rintro rfl;exact⟨[],[],rfl,(ih []).2 rfl,(b []).2 rfl⟩
theorem ags_ (a:ζ)(h:a.size=0)(x:List Nat):a.lang x↔x=[]:=by
 induction a generalizing x with
 |none=>exact Iff.rfl
 |one S=>simp[ζ.size]at h
 |chain a b iha ihb=>
  have c:a.size+b.size=0:=h;constructor
  . rintro⟨u,v,rfl,d,hv⟩;rw[(iha o_ u).1 d,(ihb o_ v).1 hv];rfl
  . rintro rfl;exact⟨[],[],rfl,(iha o_ []).2 rfl,(ihb o_ []).2 rfl⟩
 |alt a b iha ihb=>
  have c:a.size+b.size=0:=h;show a.lang x\/b.lang x↔_
  rw[iha o_ x,ihb o_ x];simp
 |rep a least cV endless iha=>
  have c:a.size*cV=0:=h;rcases mul_eq_zero.1 c with h0|h0
  . exact agr_ (iha h0) least endless cV x
  . subst h0;exact Iff.rfl
def no_ (B rd:Nat->Nat->Prop)(S:Nat->Prop)(c:Nat):Nat->Prop:=fun q=>rd q c/\∃p,S p/\B p q
theorem agt_ {B rd:Nat->Nat->Prop}(x:List Nat)(c:Nat)(S:Nat->Prop):(∃p,((c::x).foldl (no_ B rd) S) p/\L p)↔∃p q,S p/\B p q/\Way B rd L q (c::x):=by
 induction x generalizing c S with
 |nil=>
  constructor
  . rintro⟨q,⟨b,p,g,a⟩,hl⟩;exact⟨p,q,g,a,.last b hl⟩
  . rintro⟨p,q,g,a,e⟩;cases e with
    |last b hl=>exact⟨q,⟨b,p,g,a⟩,hl⟩
    |step _ _ hx=>exact absurd rfl hx.ne_nil
 |cons d y ih=>
  rw[foldl_cons,ih d (no_ B rd S c)];constructor
  . rintro⟨p,q,⟨b,i,h,f⟩,a,e⟩;exact⟨i,p,h,f,.step b a e⟩
  . rintro⟨i,p,h,f,e⟩;cases e with
    |step b a hx=>exact⟨p,_,⟨b,i,h,f⟩,a,hx⟩
theorem agu_ {rd:Nat->Nat->Prop}{s:Str rd}{B:Nat->Nat->Prop}{a:Nat}(hs:s.In)(ha:a<s.lo)(hB:∀p q,B p q↔(p=a/\s.F q)\/s.B p q)(hL:∀p,L p↔(p=a/\s.e)\/s.L p)(x:List Nat):
 (∃p,(x.foldl (no_ B rd) (fun p=>p=a)) p/\L p)↔s.acc x:=by
 have j:∀q y,s.lo<=q->(Way B rd L q y↔Way s.B rd s.L q y):=by
  intro q y b;constructor
  . intro h;induction h with
    |last hr i=>
     rcases (hL _).1 i with ⟨h,_⟩|h
     . omega
     . exact .last hr h
    |step hr f _ ih=>
     rcases (hB _ _).1 f with ⟨h,_⟩|h
     . omega
     . exact .step hr h (ih (hs.be _ _ h).2.1)
  . exact Way.mono (fun p q h=>(hB p q).2 (.inr h)) (fun p h=>(hL p).2 (.inr h))
 cases x with
 |nil=>
  constructor
  . rintro⟨p,k,i⟩;have l:p=a:=k;subst l;rcases (hL p).1 i with ⟨_,g⟩|h
    . exact .inl ⟨rfl,g⟩
    . have:=hs.la _ h;omega
  . rintro(⟨_,g⟩|⟨p,_,d⟩)
    . exact⟨a,rfl,(hL a).2 (.inl ⟨rfl,g⟩)⟩
    . exact absurd rfl d.ne_nil
 |cons c x=>
  rw[agt_];constructor
  . rintro⟨p,q,rfl,f,d⟩;rcases (hB p q).1 f with ⟨_,b⟩|h
    . exact .inr ⟨q,b,(j q _ (hs.fi q b).1).1 d⟩
    . have:=(hs.be _ _ h).1;omega
  . rintro(⟨h,_⟩|⟨q,b,d⟩)
    . simp at h
    . exact⟨a,q,rfl,(hB a q).2 (.inl ⟨rfl,b⟩),(j q _ (hs.fi q b).1).2 d⟩
structure Nd where
 kind:Nat
 size:Nat
 S:Nat->Bool
 least:Nat
 cV:Nat
 en:Bool
 one:Nat
 two:Nat
inductive b3_ (L:List Nd):Nat->ζ->Prop where
 |none {i:Nat} {d:Nd} (h:L[i]? =some d) (hk:d.kind=0) (hs:d.size=0):b3_ L i .none
 |one {i:Nat} {d:Nd} {S:Nat->Bool} (h:L[i]? =some d) (hk:d.kind=1) (hs:d.size=1) (hS:d.S=S):b3_ L i (.one S)
 |chain {i o t:Nat} {d:Nd} {a b:ζ} (h:L[i]? =some d) (hk:d.kind=2) (hs:d.size=a.size+b.size) (ho:d.one=o) (ht:d.two=t) (h1:b3_ L o a) (h2:b3_ L t b):b3_ L i (.chain a b)
 |alt {i o t:Nat} {d:Nd} {a b:ζ} (h:L[i]? =some d) (hk:d.kind=3) (hs:d.size=a.size+b.size) (ho:d.one=o) (ht:d.two=t) (h1:b3_ L o a) (h2:b3_ L t b):b3_ L i (.alt a b)
 |rep {i o lo co:Nat} {en:Bool} {d:Nd} {a:ζ} (h:L[i]? =some d) (hk:d.kind=4) (hs:d.size=a.size*co) (ho:d.one=o) (hl:d.least=lo) (hc:d.cV=co) (he:d.en=en) (h1:b3_ L o a):b3_ L i (.rep a lo co en)
theorem np_ {L M:List Nd}{d:Nd}(h:L[i]? =some d):(L++M)[i]? =some d:=by
 rw[gl_ (gs_.1 h).1];exact h
theorem b3_.app {L:List Nd}{p:ζ}(h:b3_ L i p)(M:List Nd):b3_ (L++M) i p:=by
 induction h with
 |none h hk hs=>exact .none (np_ h) hk hs
 |one h hk hs hS=>exact .one (np_ h) hk hs hS
 |chain h hk hs ho ht _ _ h1 h2=>exact .chain (np_ h) hk hs ho ht h1 h2
 |alt h hk hs ho ht _ _ h1 h2=>exact .alt (np_ h) hk hs ho ht h1 h2
 |rep h hk hs ho hl hc he _ h1=>exact .rep (np_ h) hk hs ho hl hc he h1
theorem b3_.node {L:List Nd}{p:ζ}(h:b3_ L i p):∃d,L[i]? =some d/\d.size=p.size:=by
 cases h with
 |none h hk hs=>exact⟨_,h,hs⟩
 |one h hk hs hS=>exact⟨_,h,hs⟩
 |chain h hk hs=>exact⟨_,h,hs⟩
 |alt h hk hs=>exact⟨_,h,hs⟩
 |rep h hk hs=>exact⟨_,h,hs⟩
theorem b3_.lt {L:List Nd}{p:ζ}(h:b3_ L i p):i<L.length:=by
 obtain⟨d,h,_⟩:=h.node;exact(gs_.1 h).1
inductive Ex where
 |nil:Ex
 |one (S:Nat->Bool):Ex
 |thn (a b:Ex):Ex
 |alt (a b:Ex):Ex
 |star (a:Ex):Ex
def Ex.isNil:Ex->Bool
 | .nil=>true
 |_=>false
def Ex.lang:Ex->List Nat->Prop
 | .nil=>fun x=>x=[]
 | .one S=>fun x=>∃c,x=[c]/\S c=true
 | .thn a b=>Cat a.lang b.lang
 | .alt a b=>fun x=>a.lang x\/b.lang x
 | .star a=>e3_ a.lang
def Ex.cF (a b:Ex):Ex:=if a.isNil then b else if b.isNil then a else .thn a b
def Ex.di (a b:Ex):Ex:=if a.isNil&&b.isNil then a else .alt a b
def Ex.cK (a:Ex):Ex:=if a.isNil then a else .star a
theorem Ex.cW {a:Ex}(h:a.isNil=true):a= .nil:=by cases a<;>simp[Ex.isNil]at h ⊢
theorem l5_ (x:List Nat):Cat (fun x=>x=[]) l x↔l x:=
 ⟨fun⟨u,v,e,hu,hv⟩=>by subst hu;rw[e];exact hv,fun h=>⟨[],x,rfl,rfl,h⟩⟩
theorem pt_ (x:List Nat):Cat l (fun x=>x=[]) x↔l x:=
 ⟨fun⟨u,v,e,hu,hv⟩=>by subst hv;rw[e,append_nil];exact hu,fun h=>⟨x,[],i_,h,rfl⟩⟩
theorem lb_ (a b:Ex)(x:List Nat):(a.cF b).lang x↔Cat a.lang b.lang x:=by
 unfold Ex.cF;by_cases c:a.isNil=true
 . rw[if_pos c,Ex.cW c];exact(l5_ x).symm
 . rw[if_neg c];by_cases d:b.isNil=true
   . rw[if_pos d,Ex.cW d];exact(pt_ x).symm
   . rw[if_neg d];exact Iff.rfl
theorem xn_ (a b:Ex)(x:List Nat):(a.di b).lang x↔a.lang x\/b.lang x:=by
 unfold Ex.di;by_cases h:(a.isNil&&b.isNil)=true
 . rw[if_pos h];simp only[Bool.and_eq_true]at h;rw[Ex.cW h.1,Ex.cW h.2];simp
 . rw[if_neg h];exact Iff.rfl
theorem agv_ (a:Ex)(x:List Nat):a.cK.lang x↔e3_ a.lang x:=by
 unfold Ex.cK;by_cases h:a.isNil=true
 . rw[if_pos h,Ex.cW h];exact(xm_ (fun x=>Iff.rfl) x).symm
 . rw[if_neg h];exact Iff.rfl
def Ex.empty:Ex->Bool
 | .nil=>true
 | .one _=>false
 | .thn a b=>a.empty&&b.empty
 | .alt a b=>a.empty||b.empty
 | .star _=>true
theorem r3_ (e:Ex):e.empty=true↔e.lang []:=by
 induction e with
 |nil=>simp[Ex.empty,Ex.lang]
 |one S=>simp[Ex.empty,Ex.lang]
 |thn a b iha ihb=>
  simp only[Ex.empty,Bool.and_eq_true,iha,ihb];constructor
  . rintro⟨c,d⟩;exact⟨[],[],rfl,c,d⟩
  . rintro⟨u,v,e,c,d⟩;have:=append_eq_nil_iff.1 e.symm;rw[this.1]at c;rw[this.2]at d;exact⟨c,d⟩
 |alt a b iha ihb=>simp only[Ex.empty,Bool.or_eq_true,iha,ihb];exact Iff.rfl
 |star a _=>exact⟨fun _=> .nil,fun _=>rfl⟩
def Ex.behind:Ex->Nat->List Ex
 | .nil,_=> []
 | .one S,c=>if S c then [.nil]else []
 | .alt a b,c=>a.behind c++b.behind c
 | .star a,c=>(a.behind c).map fun x=>x.cF (.star a)
 | .thn a b,c=>((a.behind c).map fun x=>x.cF b)++if a.empty then b.behind c else []
theorem agw_ (c:Nat)(x:List Nat):e3_ l (c::x)↔∃u v,x=u++v/\l (c::u)/\e3_ l v:=by
 constructor
 . intro h;generalize hy:c::x=y at h;induction h with
   |nil=>simp at hy
   |cons a hv ih=>
    rename_i u v;cases u with
    |nil=>exact ih (by simpa using hy)
    |cons d u=>
     simp only[cons_append,List.cons.injEq]at hy;obtain⟨rfl,rfl⟩:=hy;exact⟨u,v,rfl,a,hv⟩
 . rintro⟨u,v,rfl,a,hv⟩;exact .cons (u:=c::u) a hv
theorem xo_ (e:Ex)(c:Nat)(x:List Nat):e.lang (c::x)↔∃d∈e.behind c,d.lang x:=by
 induction e generalizing x with
 |nil=>simp[Ex.lang,Ex.behind]
 |one S=>
  simp only[Ex.lang,Ex.behind];by_cases h:S c=true
  . rw[if_pos h];simp only[mem_singleton,exists_eq_left,Ex.lang,List.cons.injEq];constructor
    . rintro⟨d,⟨_,rfl⟩,_⟩;rfl
    . rintro rfl;exact⟨c,⟨rfl,rfl⟩,h⟩
  . rw[if_neg h];simp only[not_mem_nil,false_and,exists_false,iff_false,List.cons.injEq];rintro⟨d,⟨rfl,_⟩,hd⟩;exact h hd
 |alt a b iha ihb=>
  show a.lang (c::x)\/b.lang (c::x)↔_
  rw[iha x,ihb x];simp only[Ex.behind,mp_];constructor
  . rintro(⟨d,f,g⟩|⟨d,f,g⟩)
    . exact⟨d,.inl f,g⟩
    . exact⟨d,.inr f,g⟩
  . rintro⟨d,f|f,g⟩
    . exact .inl ⟨d,f,g⟩
    . exact .inr ⟨d,f,g⟩
 |star a iha=>
  show e3_ a.lang (c::x)↔_
  rw[agw_];simp only[Ex.behind,mem_map];constructor
  . rintro⟨u,v,rfl,i,hv⟩;obtain⟨d,f,g⟩:=(iha u).1 i;exact⟨_,⟨d,f,rfl⟩,(lb_ d (.star a) _).2 ⟨u,v,rfl,g,hv⟩⟩
  . rintro⟨_,⟨d,f,rfl⟩,g⟩;obtain⟨u,v,rfl,j,k⟩:=(lb_ d (.star a) _).1 g;exact⟨u,v,rfl,(iha u).2 ⟨d,f,j⟩,k⟩
 |thn a b iha ihb=>
  simp only[Ex.behind,mp_,mem_map];constructor
  . rintro⟨u,v,e,i,hv⟩;cases u with
    |nil=>
     simp only[nil_append]at e;subst e;obtain⟨d,f,g⟩:=(ihb x).1 hv;exact⟨d,.inr (by rw[if_pos ((r3_ a).2 i)];exact f),g⟩
    |cons d u=>
     simp only[cons_append,List.cons.injEq]at e;obtain⟨rfl,rfl⟩:=e;obtain⟨d,f,g⟩:=(iha u).1 i;exact⟨_,.inl ⟨d,f,rfl⟩,(lb_ d b _).2 ⟨u,v,rfl,g,hv⟩⟩
  . rintro⟨d,⟨m,f,rfl⟩|f,g⟩
    . obtain⟨u,v,rfl,j,k⟩:=(lb_ m b _).1 g;exact⟨c::u,v,rfl,(iha u).2 ⟨m,f,j⟩,k⟩
    . by_cases l:a.empty=true
      . rw[if_pos l]at f;exact⟨[],c::x,rfl,(r3_ a).1 l,(ihb x).2 ⟨d,f,g⟩⟩
      . rw[if_neg l]at f;simp at f
def Ex.pds:Ex->List Ex
 | .nil=> []
 | .one _=> [.nil]
 | .alt a b=>a.pds++b.pds
 | .thn a b=>(a.pds.map fun x=>x.cF b)++b.pds
 | .star a=>a.pds.map fun x=>x.cF (.star a)
def Ex.b9:Ex->Nat
 | .nil=>0
 | .one _=>1
 | .alt a b=>a.b9+b.b9
 | .thn a b=>a.b9+b.b9
 | .star a=>a.b9
theorem agx_ (e:Ex):e.pds.length=e.b9:=by
 induction e with
 |nil=>rfl
 |one S=>rfl
 |alt a b iha ihb=>simp[Ex.pds,Ex.b9,iha,ihb]
 |thn a b iha ihb=>simp[Ex.pds,Ex.b9,iha,ihb]
 |star a iha=>simp[Ex.pds,Ex.b9,iha]
theorem xp_ (x b d:Ex)(c:Nat)(h:d∈(x.cF b).behind c):(∃y∈x.behind c,d=y.cF b)\/d∈b.behind c:=by
 unfold Ex.cF at h;by_cases f:x.isNil=true
 . rw[if_pos f]at h;exact .inr h
 . rw[if_neg f]at h;by_cases e:b.isNil=true
   . rw[if_pos e]at h;rw[Ex.cW e];refine .inl ⟨d,h, ?_⟩;unfold Ex.cF;by_cases a:d.isNil=true
     . rw[if_pos a];exact Ex.cW a
     . rw[if_neg a,if_pos (show Ex.nil.isNil=true from rfl)]
   . rw[if_neg e]at h;simp only[Ex.behind,mp_,mem_map]at h;rcases h with ⟨y,a,rfl⟩|a
     . exact .inl ⟨y,a,rfl⟩
     . by_cases g:x.empty=true
       . rw[if_pos g]at a;exact .inr a
       . rw[if_neg g]at a;simp at a
theorem pu_ (e:Ex)(c:Nat):∀d∈e.behind c,d∈e.pds:=by
 induction e with
 |nil=>intro d h;simp[Ex.behind]at h
 |one S=>
  intro d h;simp only[Ex.behind]at h;by_cases i:S c=true
  . rw[if_pos i]at h;exact h
  . rw[if_neg i]at h;simp at h
 |alt a b iha ihb=>
  intro d h;simp only[Ex.behind,Ex.pds,mp_]at h ⊢;exact h.imp (iha d) (ihb d)
 |star a iha=>
  intro d h;simp only[Ex.behind,Ex.pds,mem_map]at h ⊢;obtain⟨y,f,rfl⟩:=h;exact⟨y,iha y f,rfl⟩
 |thn a b iha ihb=>
  intro d h;simp only[Ex.behind,Ex.pds,mp_,mem_map]at h ⊢;rcases h with ⟨y,f,rfl⟩|f
  . exact .inl ⟨y,iha y f,rfl⟩
  . by_cases g:a.empty=true
    . rw[if_pos g]at f;exact .inr (ihb d f)
    . rw[if_neg g]at f;simp at f
theorem agy_ (e:Ex)(c:Nat):∀d∈e.pds,∀d'∈d.behind c,d'∈e.pds:=by
 induction e with
 |nil=>intro d h;simp[Ex.pds]at h
 |one S=>
  intro d h d' f;simp only[Ex.pds,mem_singleton]at h;subst h;simp[Ex.behind]at f
 |alt a b iha ihb=>
  intro d h d' f;simp only[Ex.pds,mp_]at h ⊢;exact h.imp (fun h=>iha d h d' f) (fun h=>ihb d h d' f)
 |star a iha=>
  intro d h d' f;simp only[Ex.pds,mem_map]at h ⊢;obtain⟨y,i,rfl⟩:=h;rcases xp_ y (.star a) d' c f with ⟨z,g,rfl⟩|g
  . exact⟨z,iha y i z g,rfl⟩
  . simp only[Ex.behind,mem_map]at g;obtain⟨z,j,rfl⟩:=g;exact⟨z,pu_ a c z j,rfl⟩
 |thn a b iha ihb=>
  intro d h d' f;simp only[Ex.pds,mp_,mem_map]at h ⊢;rcases h with ⟨y,i,rfl⟩|i
  . rcases xp_ y b d' c f with ⟨z,g,rfl⟩|g
    . exact .inl ⟨z,iha y i z g,rfl⟩
    . exact .inr (pu_ b c d' g)
  . exact .inr (ihb d i d' f)
theorem pv_ {m n:List Nat->Prop}(x:List Nat):Cat (Cat l m) n x↔Cat l (Cat m n) x:=by
 constructor
 . rintro⟨_,w,rfl,⟨u,v,rfl,a,hv⟩,b⟩;exact⟨u,v++w,i_,a,v,w,rfl,hv,b⟩
 . rintro⟨u,_,rfl,a,v,w,rfl,hv,b⟩;exact⟨u++v,w,i_,⟨u,v,rfl,a,hv⟩,b⟩
def Pow (l:List Nat->Prop):Nat->List Nat->Prop
 |0=>fun x=>x=[]
 |n+1=>Cat l (Pow l n)
theorem r4_ (n:Nat)(x:List Nat):Cat (Pow l n) l x↔Pow l (n+1) x:=by
 induction n generalizing x with
 |zero=>exact(l5_ x).trans (pt_ x).symm
 |succ n ih=>
  show Cat (Cat l (Pow l n)) l x↔Cat l (Pow l (n+1)) x
  rw[pv_];exact Cat.congr (fun _=>Iff.rfl) ih x
theorem pow_add (m n:Nat)(x:List Nat):Cat (Pow l m) (Pow l n) x↔Pow l (m+n) x:=by
 induction m generalizing x with
 |zero=>rw[Nat.zero_add];exact l5_ x
 |succ m ih=>
  rw[show m+1+n=(m+n)+1 by omega];show Cat (Cat l (Pow l m)) (Pow l n) x↔Cat l (Pow l (m+n)) x
  rw[pv_];exact Cat.congr (fun _=>Iff.rfl) ih x
theorem xq_ (x:List Nat):e3_ l x↔∃n,Pow l n x:=by
 constructor
 . intro h;induction h with
   |nil=>exact⟨0,rfl⟩
   |cons a _ ih=>obtain⟨n,b⟩:=ih;exact⟨n+1,_,_,rfl,a,b⟩
 . rintro⟨n,h⟩;induction n generalizing x with
   |zero=>rw[show x=[]from h];exact .nil
   |succ n ih=>obtain⟨u,v,rfl,a,hv⟩:=h;exact .cons a (ih v hv)
theorem r5_ {en:Bool}(k:Nat)(hk:k<=least)(x:List Nat):fs_ l least en k x↔Pow l k x:=by
 induction k generalizing x with
 |zero=>exact Iff.rfl
 |succ k ih=>
  rw[<-r4_];refine Cat.congr (ih o_) (fun y=> ?_) x;unfold fi_;rw[if_pos o_]
theorem agz_ (n:Nat)(x:List Nat):fs_ l least false (least+n) x↔∃j,least<=j/\j<=least+n/\Pow l j x:=by
 induction n generalizing x with
 |zero=>
  rw[Nat.add_zero,r5_ least ι];constructor
  . intro h;exact⟨least,ι,ι,h⟩
  . rintro⟨j,b,c,h⟩;rw[show least=j by omega];exact h
 |succ n ih=>
  show Cat (fs_ l least false (least+n)) (fi_ l least (least+n) false) x↔_
  have d:∀y,fi_ l least (least+n) false y↔y=[]\/l y:=by
   intro y;unfold fi_;rw[if_neg o_,if_neg i_]
  rw[Cat.congr ih d x];constructor
  . rintro⟨u,v,rfl,⟨j,b,c,a⟩,rfl|hv⟩
    . exact⟨j,b,o_,by rw[append_nil];exact a⟩
    . exact⟨j+1,o_,o_,(r4_ j _).1 ⟨u,v,rfl,a,hv⟩⟩
  . rintro⟨j,b,c,a⟩;by_cases e:j<=least+n
    . exact⟨x,[],i_,⟨j,b,e,a⟩,.inl rfl⟩
    . obtain⟨i,rfl⟩:∃i,j=i+1:=⟨j - 1,o_⟩;obtain⟨u,v,rfl,f,hv⟩:=(r4_ i x).2 a;exact⟨u,v,rfl,⟨i,o_,o_,f⟩,.inr hv⟩
theorem ag0_ (x:List Nat):fs_ l least true (least+1) x↔∃j,least<=j/\Pow l j x:=by
 show Cat (fs_ l least true least) (fi_ l least least true) x↔_
 have c:∀y,fi_ l least least true y↔∃n,Pow l n y:=by
  intro y;unfold fi_;rw[if_neg o_,if_pos rfl,xq_]
 rw[Cat.congr (r5_ least ι) c x];constructor
 . rintro⟨u,v,rfl,a,n,hv⟩;exact⟨least+n,o_,(pow_add least n _).1 ⟨u,v,rfl,a,hv⟩⟩
 . rintro⟨j,d,b⟩;obtain⟨n,rfl⟩:∃n,j=least+n:=⟨j - least,o_⟩;obtain⟨u,v,rfl,a,hv⟩:=(pow_add least n x).2 b;exact⟨u,v,rfl,a,n,hv⟩
def Ex.opts (x:Ex):Nat->Ex
 |0=> .nil
 |n+1=>Ex.di .nil (x.cF (x.opts n))
def Ex.cO (x e:Ex):Nat->Ex
 |0=>e
 |n+1=>x.cF (x.cO e n)
theorem ag1_ (x:Ex)(n:Nat)(y:List Nat):(x.opts n).lang y↔∃j,j<=n/\Pow x.lang j y:=by
 induction n generalizing y with
 |zero=>
  constructor
  . intro h;exact⟨0,ι,h⟩
  . rintro⟨j,b,h⟩;rw[show j=0 by omega]at h;exact h
 |succ n ih=>
  simp only[Ex.opts];rw[xn_,lb_,Cat.congr (fun _=>Iff.rfl) ih y];constructor
  . rintro(h|⟨u,v,rfl,a,j,b,hv⟩)
    . exact⟨0,o_,h⟩
    . exact⟨j+1,o_,u,v,rfl,a,hv⟩
  . rintro⟨j,b,h⟩;cases j with
    |zero=>exact .inl h
    |succ j=>obtain⟨u,v,rfl,a,hv⟩:=h;exact .inr ⟨u,v,rfl,a,j,o_,hv⟩
theorem xr_ (x e:Ex)(n:Nat)(y:List Nat):(x.cO e n).lang y↔Cat (Pow x.lang n) e.lang y:=by
 induction n generalizing y with
 |zero=>exact(l5_ y).symm
 |succ n ih=>
  simp only[Ex.cO];rw[lb_,Cat.congr (fun _=>Iff.rfl) ih y];exact(pv_ y).symm
theorem ag2_ (x:Ex)(l:List Nat->Prop)(h:∀y,x.lang y↔l y)(lo n:Nat)(y:List Nat):(x.cO (x.opts n) lo).lang y↔fs_ l lo false (lo+n) y:=by
 have a:∀j y,Pow x.lang j y↔Pow l j y:=by
  intro j;induction j with
  |zero=>intro y;exact Iff.rfl
  |succ j ih=>intro y;exact Cat.congr h ih y
 rw[xr_,agz_,Cat.congr (a lo) (ag1_ x n) y];constructor
 . rintro⟨u,v,rfl,b,j,f,hv⟩;exact⟨lo+j,o_,o_,(pow_add lo j _).1 ⟨u,v,rfl,b,(a j v).1 hv⟩⟩
 . rintro⟨j,d,e,c⟩;obtain⟨i,rfl⟩:∃i,j=lo+i:=⟨j - lo,o_⟩;obtain⟨u,v,rfl,b,hv⟩:=(pow_add lo i y).2 c;exact⟨u,v,rfl,b,i,o_,(a i v).2 hv⟩
theorem ag3_ (x:Ex)(l:List Nat->Prop)(h:∀y,x.lang y↔l y)(lo:Nat)(y:List Nat):(x.cO x.cK lo).lang y↔fs_ l lo true (lo+1) y:=by
 have a:∀j y,Pow x.lang j y↔Pow l j y:=by
  intro j;induction j with
  |zero=>intro y;exact Iff.rfl
  |succ j ih=>intro y;exact Cat.congr h ih y
 rw[xr_,ag0_];have d:∀y,x.cK.lang y↔∃n,Pow l n y:=by
  intro y;rw[agv_,xq_];exact⟨fun⟨n,h⟩=>⟨n,(a n y).1 h⟩,fun⟨n,h⟩=>⟨n,(a n y).2 h⟩⟩
 rw[Cat.congr (a lo) d y];constructor
 . rintro⟨u,v,rfl,b,n,hv⟩;exact⟨lo+n,o_,(pow_add lo n _).1 ⟨u,v,rfl,b,hv⟩⟩
 . rintro⟨j,e,c⟩;obtain⟨n,rfl⟩:∃n,j=lo+n:=⟨j - lo,o_⟩;obtain⟨u,v,rfl,b,hv⟩:=(pow_add lo n y).2 c;exact⟨u,v,rfl,b,n,hv⟩
end Go.Proofs.YtpngikmcjkjdaaaGreatDoor
