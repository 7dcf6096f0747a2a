import Derived.Test.YtpngikmcjkjdaaaGreatDoorA0
set_option linter.unusedVariables false
set_option linter.unusedSimpArgs false
set_option maxRecDepth 20000
set_option maxHeartbeats 80000000
namespace Go.Proofs.YtpngikmcjkjdaaaGreatDoor
open Go.RowKit Tryz List Nat
variable {p:Addr} {s:ByteArray} {xs ys:List Value} {b base cap e g m n size:Nat} {o:Obj} {P:Program} {t:TypeId} {u v x y:Value} {w:World}
theorem b6_ {a b:Bool}(h:a=b):Ending.returned (.bool a)= .returned (.bool b):=by rw[h]
theorem hu_ {k:IntKind}{a b:Int}(h:a=b):Ending.returned (.int k a)= .returned (.int k b):=by rw[h]
theorem bc_ {W w1:World}(hb:Bl W w1):(∀b o,b<W.heap.size->w1.cell? ⟨b,o,none⟩=W.cell? ⟨b,o,none⟩)/\(∀b o,b<W.heap.size->w1.frozen? ⟨b,o,none⟩=W.frozen? ⟨b,o,none⟩):=
 ⟨fun b o h=>hb.cell (p:=⟨b,o,none⟩) h,fun b o h=>hb.frozen (p:=⟨b,o,none⟩) h⟩
theorem Ψ {o:Nat}(h:w.cell? ⟨b,o,none⟩=some v):b<w.heap.size:=by
 rcases Nat.lt_or_ge b w.heap.size with hlt|hge
 . exact hlt
 . exfalso;have a:w.heap[b]? =none:=s_;simp[World.cell?,a]at h
theorem xh_ (b:Int)(w:World)(h1:97<=b)(h2:b<=104):
 Calls prog 134 #[.int .u8 b] w fun e w'=>e= .returned (.bool true)/\w'=w:=by
 go_enter func134,ntmps134;go_wp2
 go_ret;exact⟨b6_ s_,rfl⟩
theorem xi_ (b:Int)(w:World)(h1:b<97\/104<b):
 Calls prog 134 #[.int .u8 b] w fun e w'=>e= .returned (.bool false)/\w'=w:=by
 rcases h1 with h|h
 . have a:¬97<=b:=o_;go_enter func134,ntmps134;go_wp2
   go_ret;exact⟨b6_ i_,rfl⟩
 . have a:97<=b:=o_;go_enter func134,ntmps134;go_wp2
   go_ret;exact⟨b6_ s_,rfl⟩
theorem pk_ (b:Int)(w:World)(h1:97<=b)(h2:b<=104):
 Calls prog 121 #[.int .u8 b] w fun e w'=>e= .returned (.tuple #[.int .i64 (b - 97),.bool true])/\w'=w:=by
 go_enter func121,ntmps121;go_wp2_with fail;refine(xh_ b w h1 h2).mono ?_;rintro e w' ⟨rfl,rfl⟩;go_wp2
 go_ret2;exact⟨rfl,rfl⟩
theorem xj_ (b:Int)(w:World)(h1:b<97\/104<b):
 Calls prog 121 #[.int .u8 b] w fun e w'=>e= .returned (.tuple #[.int .i64 0,.bool false])/\w'=w:=by
 go_enter func121,ntmps121;go_wp2_with fail;refine(xi_ b w h1).mono ?_;rintro e w' ⟨rfl,rfl⟩;go_wp2
 go_ret2;exact⟨rfl,rfl⟩
theorem aft_ (ao:Option Addr)(l c:Nat)(n:Int)(w:World)(hl:l≠8)(hl2:l<=9223372036854775807):
 Calls prog 157 #[.slice ao l c,.int .i64 n] w fun e w'=>e= .returned (.bool false)/\w'=w:=by
 have a:(((l:Nat):Int) !=8)=true:=by rw[bne_iff_ne];omega
 go_enter func157,ntmps157;go_wp2
 go_ret;exact⟨rfl,rfl⟩
def dn_ (f:Nat->Int)(n:Int):Nat->Bool
 |0=>true
 |k+1=>dn_ f n k&&(decide (0<=f k)&&decide (f k<n))
theorem rx_ (f:Nat->Int)(n:Int)(k:Nat):dn_ f n k=true↔∀c,c<k->0<=f c/\f c<n:=by
 induction k with
 |zero=>simp[dn_]
 |succ k ih=>
  simp only[dn_,Bool.and_eq_true,ih,decide_eq_true_eq];constructor
  . rintro⟨h,a,b⟩ c hc;by_cases e:c=k
    . subst e;exact⟨a,b⟩
    . exact h c o_
  . intro h;exact⟨fun c hc=>h c o_,h k o_⟩
theorem pl_ (f:Nat->Int)(n:Int)(k m:Nat)(hk:k<=m)(h:dn_ f n k=false):dn_ f n m=false:=by
 rw[Bool.eq_false_iff]at h ⊢;intro a;apply h;rw[rx_]at a ⊢;exact fun c hc=>a c o_
theorem xk_ (b o c:Nat)(f:Nat->Int)(n:Int)(w:World)(hc:∀k,k<8->w.cell? ⟨b,o+k,none⟩=some (.int .i64 (f k))):
 Calls prog 157 #[.slice (some ⟨b,o,none⟩) 8 c,.int .i64 n] w fun e w'=>e= .returned (.bool (dn_ f n 8))/\w'=w:=by
 go_enter func157,ntmps157;go_wp2
 go_loop [6,12] (fun _ i=>∃k:Nat,k<=8/\i= .int .i64 k/\dn_ f n k=true) (fun _ i=>8 - (intOf i).toNat)
 case atStart=>exact⟨0,o_,rfl,rfl⟩
 case round=>
  obtain⟨k,p,rfl,a⟩:=hrel;by_cases h:k<8
  . have m:=hc k h;by_cases j:f k<0
    . have d:Hid (dn_ f n 8=false):=by
       apply pl_ f n (k+1) 8 o_;simp only[dn_,a,Bool.true_and,Bool.and_eq_false_iff,decide_eq_false_iff_not];left;omega
      clear a hc;go_wp2
      go_ret;exact⟨b6_ d.out.symm,rfl⟩
    . by_cases l:f k<n
      . have g:Hid (dn_ f n (k+1)=true):=by
         simp only[Hid,dn_,a,Bool.true_and,Bool.and_eq_true,decide_eq_true_eq];omega
        clear a hc;go_wp2
        go_round
        case rel=>exact⟨k+1,o_,by go_num,g.out⟩
        case measure=>exact c_
      . have d:Hid (dn_ f n 8=false):=by
         apply pl_ f n (k+1) 8 o_;simp only[dn_,a,Bool.true_and,Bool.and_eq_false_iff,decide_eq_false_iff_not];right;omega
        clear a hc;go_wp2
        go_ret;exact⟨b6_ d.out.symm,rfl⟩
  . have e:k=8:=o_;subst e;have g:=α a;clear a hc;go_wp2
    go_ret;exact⟨b6_ g.out.symm,rfl⟩
structure γ where
 n:Nat
 acc:Nat->Bool
 nxt:Nat->Nat->Nat
structure γ.Ok (M:γ):Prop where
 lo:1<=M.n
 hi:M.n<=40
 nx:∀i c,i<M.n->c<8->M.nxt i c<M.n
def γ.read (M:γ)(s:Nat)(x:List Nat):Nat:=x.foldl M.nxt s
def γ.accepts (M:γ)(x:List Nat):Bool:=M.acc (M.read 0 x)
def Γ (x:List Nat):Prop:=∀c∈x,c<8
theorem γ.read_lt {M:γ}(h:M.Ok)(s:Nat)(hs:s<M.n)(x:List Nat)(hx:Γ x):M.read s x<M.n:=by
 induction x generalizing s with
 |nil=>exact hs
 |cons c x ih=>
  simp only[γ.read,foldl_cons];exact ih (M.nxt s c) (h.nx s c hs (hx c i_)) (fun d hd=>hx d (by simp[hd]))
theorem γ.read_append (M:γ)(s:Nat)(x y:List Nat):M.read s (x++y)=M.read (M.read s x) y:=by simp[γ.read]
theorem γ.read_snoc (M:γ)(s:Nat)(x:List Nat)(c:Nat):M.read s (x++ [c])=M.nxt (M.read s x) c:=by simp[γ.read]
structure ρ where
 (ba oa ca bn on cn:Nat)
 (rb ro rc:Nat->Nat)
structure π (w:World)(V:ρ)(M:γ):Prop where
 acc:∀i,i<M.n->w.cell? ⟨V.ba,V.oa+i,none⟩=some (.bool (M.acc i))
 row:∀i,i<M.n->w.cell? ⟨V.bn,V.on+i,none⟩=some (.slice (some ⟨V.rb i,V.ro i,none⟩) 8 (V.rc i))
 cel:∀i c,i<M.n->c<8->w.cell? ⟨V.rb i,V.ro i+c,none⟩=some (.int .i64 (M.nxt i c))
theorem π.below {w':World}{V:ρ}{M:γ}(h:π w V M)(hb:Bl w w'):π w' V M where
 acc i hi:=by rw[(bc_ hb).1 _ _ (Ψ (h.acc i hi))];exact h.acc i hi
 row i hi:=by rw[(bc_ hb).1 _ _ (Ψ (h.row i hi))];exact h.row i hi
 cel i c hi hc:=by rw[(bc_ hb).1 _ _ (Ψ (h.cel i c hi hc))];exact h.cel i c hi hc
structure ρ.From (V:ρ)(N n:Nat):Prop where
 a:N<=V.ba
 b:N<=V.bn
 r:∀i,i<n->N<=V.rb i
theorem is_ {q:Addr}(h:q.block≠p.block):(w.setCell p u).cell? q=w.cell? q:=World.cell?_of_block (Below.heap_setCell w p u q.block h)
theorem π.set {V:ρ}{M:γ}(h:π w V M){N:Nat}(hV:V.From N M.n)(hp:p.block<N)(u:Value):π (w.setCell p u) V M where
 acc i hi:=by rw[is_ (by have:=hV.a;simp;omega)];exact h.acc i hi
 row i hi:=by rw[is_ (by have:=hV.b;simp;omega)];exact h.row i hi
 cel i c hi hc:=by rw[is_ (by have:=hV.r i hi;simp;omega)];exact h.cel i c hi hc
theorem jj_ (V:ρ)(M:γ)(w:World)(hM:M.Ok)(h:π w V M):
 Calls prog 120 #[.agg #[.slice (some ⟨V.ba,V.oa,none⟩) M.n V.ca,.slice (some ⟨V.bn,V.on,none⟩) M.n V.cn]] w
  fun e w'=>e= .returned (.bool true)/\Bl w w':=by
 obtain⟨q,r,m⟩:=hM;generalize hn:M.n=n at*;have a:Bl w (w.alloc (.cells #[.slice (some ⟨V.ba,V.oa,none⟩) n V.ca,.slice (some ⟨V.bn,V.on,none⟩) n V.cn] 41)):=μ.alloc ι _;have l:∀i,i<n->(w.alloc (.cells #[.slice (some ⟨V.ba,V.oa,none⟩) n V.ca,.slice (some ⟨V.bn,V.on,none⟩) n V.cn] 41)).cell? ⟨V.bn,V.on+i,none⟩=some (.slice (some ⟨V.rb i,V.ro i,none⟩) 8 (V.rc i)):=
  fun i f=>(h.below a).row i o_
 have d:∀i,i<n->∀c,c<8->(w.alloc (.cells #[.slice (some ⟨V.ba,V.oa,none⟩) n V.ca,.slice (some ⟨V.bn,V.on,none⟩) n V.cn] 41)).cell? ⟨V.rb i,V.ro i+c,none⟩=some (.int .i64 (M.nxt i c)):=
  fun i f c b=>(h.below a).cel i c o_ b
 have j:∀i,i<n->dn_ (fun c=>(M.nxt i c:Int)) n 8=true:=by
  intro i f;rw[rx_];intro c b;have:=m i c f b;omega
 clear h m;go_enter func120,ntmps120;go_wp2
 go_loop [5,25] (fun _ i=>∃k:Nat,k<=n/\i= .int .i64 k) (fun _ i=>n - (intOf i).toNat)
 case atStart=>exact⟨0,o_,rfl⟩
 case round=>
  obtain⟨k,s,rfl⟩:=hrel;by_cases g:k<n
  . have t:=l k g;have o:=d k g;have p:=j k g;clear l d j;go_wp2_with (go_at_call 157;refine(xk_ _ _ _ (fun c=>(M.nxt k c:Int)) _ _ o).mono ?_;rw[p];rintro e w' ⟨rfl,rfl⟩);go_round
    case rel=>exact⟨k+1,o_,by go_num⟩
    case measure=>exact c_
  . clear l d j;go_wp2
    go_ret;exact⟨rfl,a⟩
def ar_ (s:ByteArray):List Nat:=s.data.toList.map fun c=>c.toNat - 97
def dh_ (s:ByteArray):Prop:=∀c∈s.data.toList,97<=c.toNat/\c.toNat<=104
theorem k5_ (h:dh_ s):Γ (ar_ s):=by
 intro c a;simp only[ar_,mem_map]at a;obtain⟨b,d,rfl⟩:=a;have:=h b d;omega
theorem l0_ (s:ByteArray):(ar_ s).length=s.size:=by simp[ar_]
theorem pm_ (h:dh_ s)(k:Nat)(hk:k<s.size):97<=(s[k].toNat:Int)/\(s[k].toNat:Int)<=104:=by
 have:s[k]∈s.data.toList:=by
  rw[Array.mem_toList_iff];exact Array.getElem_mem (xs:=s.data) hk
 have:=h _ this;omega
theorem xl_ (s:ByteArray)(k:Nat)(h:k<s.size):(ar_ s).take (k+1)=(ar_ s).take k++ [s[k].toNat - 97]:=by
 rw[take_succ_eq_append_getElem (by rw[l0_];exact h)];congr 2
 simp[ar_];rfl
theorem xm_ (s t:ByteArray)(hs:dh_ s)(ht:dh_ t):dh_ (s++t):=by
 intro c a;have:(s++t).data=s.data++t.data:=by simp[ByteArray.data_append]
 rw[this,Array.toList_append,mp_]at a;rcases a with h|h
 . exact hs c h
 . exact ht c h
def g3_ (pv:Nat):UInt8:=UInt8.ofNat (97+pv)
theorem ry_ (pv:Nat)(h:pv<8):(g3_ pv).toNat=97+pv:=by
 unfold g3_;rw[UInt8.toNat_ofNat'];omega
theorem xn_ (pv:Nat)(h:pv<8):dh_ ⟨#[g3_ pv]⟩:=by
 intro c a;simp at a;subst a;have:=ry_ pv h;omega
theorem xo_ {x:List Nat}(h:Γ x)(k:Nat):Γ (x.take k):=fun c hc=>h c (mem_of_mem_take hc)
theorem xp_ (V:ρ)(M:γ)(s:ByteArray)(w:World)(hM:M.Ok)(h:π w V M)(hs:dh_ s)(hl:s.size<=1000):
 Calls prog 74 #[.agg #[.slice (some ⟨V.ba,V.oa,none⟩) M.n V.ca,.slice (some ⟨V.bn,V.on,none⟩) M.n V.cn],.string s] w
  fun e w'=>e= .returned (.tuple #[.bool (M.accepts (ar_ s)),.int .i64 0])/\Bl w w':=by
 have B:=hM.lo;have z:=hM.hi;have g:Bl w (w.alloc (.cells #[.slice (some ⟨V.ba,V.oa,none⟩) M.n V.ca,.slice (some ⟨V.bn,V.on,none⟩) M.n V.cn] 41)):=μ.alloc ι _;have f:=h.below g;go_enter func74,ntmps74;go_wp2_with fail;refine(jj_ V M _ hM f).mono ?_;rintro e u ⟨rfl,a⟩;have p:=(bc_ a).1 w.heap.size 0 i_;have r:=(bc_ a).1 w.heap.size 1 i_;have b:=f.below a;have o:Bl w u:=g.trans (a.mono i_);simp at p r;clear h f a;go_wp2_with fail;go_loop [6,7,8,9] (fun st i _ _=>∃k:Nat,k<=s.size/\i= .int .i64 k/\st= .int .i64 (M.read 0 ((ar_ s).take k))) (fun _ i _ _=>s.size - (intOf i).toNat)
 case atStart=>exact⟨0,zero_le _,rfl,rfl⟩
 case round=>
  obtain⟨k,A,rfl,rfl⟩:=hrel;have c:=γ.read_lt hM 0 o_ _ (xo_ (k5_ hs) k);by_cases m:k<s.size
  . have l:=pm_ hs k m;have j:=xl_ s k m;have t:(s[k].toNat - 97:Nat)<8:=o_;have d:Hid (((M.read 0 ((ar_ s).take (k+1)):Nat):Int)=(M.nxt (M.read 0 ((ar_ s).take k)) (s[k].toNat - 97):Nat)):=by
     unfold Hid;rw[j,γ.read_snoc]
    generalize M.read 0 ((ar_ s).take k)=q at*;have C:=b.row q c;have y:=b.cel q _ c t;have v:((s[k].toNat:Int)- 97).toNat=s[k].toNat - 97:=o_;clear j b;go_wp2_with (go_at_call 121;refine(pk_ _ _ l.1 l.2).mono ?_;rintro e w' ⟨rfl,rfl⟩);go_round
    case rel=>exact⟨k+1,o_,by go_num,by rw[d.out]⟩
    case measure=>exact c_
  . have e:k=s.size:=o_;subst e;rw[tk_ (by rw[l0_];omega)]at c ⊢;have d:Hid (M.accepts (ar_ s)=M.acc (M.read 0 (ar_ s))):=rfl;generalize M.read 0 (ar_ s)=q at*;have x:=b.acc q c;go_wp2
    go_ret2;exact⟨by rw[d.out];rfl,o⟩
def as_ (s:ByteArray):Nat->Bool
 |0=>true
 |k+1=>as_ s k&&(decide (97<=(s.data.toList.getD k 0).toNat)&&decide ((s.data.toList.getD k 0).toNat<=104))
theorem xq_ (s:ByteArray)(k:Nat):as_ s k=true↔∀j,j<k->97<=(s.data.toList.getD j 0).toNat/\(s.data.toList.getD j 0).toNat<=104:=by
 induction k with
 |zero=>simp[as_]
 |succ k ih=>
  simp only[as_,Bool.and_eq_true,ih,decide_eq_true_eq];constructor
  . rintro⟨h,a⟩ c hc;by_cases e:c=k
    . subst e;exact a
    . exact h c o_
  . intro h;exact⟨fun c hc=>h c o_,h k o_⟩
theorem rz_ (s:ByteArray)(k m:Nat)(hk:k<=m)(h:as_ s k=false):as_ s m=false:=by
 rw[Bool.eq_false_iff]at h ⊢;intro a;apply h;rw[xq_]at a ⊢;exact fun c hc=>a c o_
theorem l1_ (s:ByteArray)(k:Nat)(hk:k<s.size):s.data.toList.getD k 0=s[k]:=by
 rw[gd_,ge_ (by rw[Array.length_toList];exact hk)];rfl
theorem jk_ (s:ByteArray):as_ s s.size=true↔dh_ s:=by
 rw[xq_];constructor
 . intro h c d;obtain⟨j,a,rfl⟩:=getElem_of_mem d;have:=h j (by rw[Array.length_toList]at a;exact a);rw[gd_,ge_ a]at this;exact this
 . intro h j a;have b:j<s.data.toList.length:=by rw[Array.length_toList];exact a
   rw[gd_,ge_ b];exact h _ (getElem_mem b)
theorem afu_ (w:World)(base:Nat)(t ty e:TypeId)(i:TypeInfo)(z:Value)(size bytes:Nat)(ht:P.underlying t=some (.slice e))(hi:P.info? e=some i)(hz:i.zero=some z)
 (hsize:i.size=size) (hby:i.bytes=bytes) (hzs:z.cells.size=size) (hsz:0<size)
 (v:Value) (n:Nat) (xs:List Value) (hown:w.ownsRow base e size v n xs)
 (a:Addr) (m c:Nat) (news:List Value) (hl:news.length=m*size) (hnews:∀j u,news[j]? =some u->w.cell? (a.add j)=some u) (h1:∀u∈news,u.oneCell'=true) (hm:0<m)
 (h63:n+m<=maxLen) (hbytes:(n+m)*bytes<=140737488355328) (hbase:base<=w.heap.size):
 ∃g cap w',(Builtin.append_ #[t,t] ty #[v,.slice (some a) m c]).run P w= .ok (.slice (some ⟨g,0,none⟩) (n+m) cap) w'/\w'.ownsRow base e size (.slice (some ⟨g,0,none⟩) (n+m) cap) (n+m) (xs++news)/\
  w.grownBy w' v.ownBlock/\(v.ownBlock=some g\/g=w.heap.size):=by
 obtain⟨E,w',d,f,h,x⟩:=run_append_own (P:=P) w base t ty e i z size bytes ht hi hz hsize hby hzs hsz v n xs hown a m c news hl hnews h1 h63 hbytes hbase;subst hsize;subst hby;have C:n+m<=9223372036854775807:=by simp only[maxLen]at h63;omega
 rcases hown.2 with ⟨rfl,rfl⟩|⟨g,cap,k,rfl,y,r,B,A,p,D⟩
 . have b:=run_append_nil (P:=P) w t ty e i z ht hi hz a m c news hl hnews hm o_ (by have o:=hbytes;simp only[Nat.zero_add]at o;omega);rw[d]at b;injection b with e1 e2;rw[show m=0+m by omega]at e1;subst e1;exact⟨_,_,w',d,f,h,.inr rfl⟩
 . by_cases l:n+m<=cap
   . have q:n*i.size+news.length<=k.size:=by rw[hl,p,<-Nat.add_mul];exact mul_le_mul_right _ l
     have b:=run_append_room (P:=P) w t ty e i ht hi g n cap k r a m c news hl hnews h1 l q;rw[d]at b;injection b with e1 e2;subst e1;exact⟨_,_,w',d,f,h,.inl rfl⟩
   . have s:∀j u,xs[j]? =some u->w.cell? ((⟨g,0,none⟩:Addr).add j)=some u:=hown.cells (g:=g) rfl;have b:=run_append_grow (P:=P) w t ty e i z ht hi hz ⟨g,0,none⟩ n cap xs hown.1 s a m c news hl hnews o_ o_ (growslice_fits o_ hbytes);rw[d]at b;injection b with e1 e2;subst e1;exact⟨_,_,w',d,f,h,.inr rfl⟩
theorem jl_ (w:World){ops:Array Oper}{rest:List Oper}{o:Oper}{a:Act}{Q:Exit->Act->World->Prop}(hgd:o.guard=none)(s x:Operand)(t:TypeId)
 (ho:o.op= .call {callee:= .builtin .append,args:= #[s,x],argTypes:= #[t,t]})
 (base:Nat) (e:TypeId) (i:TypeInfo) (z:Value) (size bytes:Nat) (ht:P.underlying t=some (.slice e)) (hi:P.info? e=some i) (hz:i.zero=some z)
 (hsize:i.size=size) (hby:i.bytes=bytes) (hzs:z.cells.size=size) (hsz:0<size)
 (v:Value) (n:Nat) (xs:List Value) (hs:a.eval s=v) (hown:w.ownsRow base e size v n xs)
 (ad:Addr) (m c:Nat) (news:List Value) (hx:a.eval x= .slice (some ad) m c) (hl:news.length=m*size) (hnews:∀j u,news[j]? =some u->w.cell? (ad.add j)=some u) (h1:∀u∈news,u.oneCell'=true) (hm:0<m)
 (h63:n+m<=maxLen) (hbytes:(n+m)*bytes<=140737488355328) (hbase:base<=w.heap.size)
 (h:∀g cap w',w'.ownsRow base e size (.slice (some ⟨g,0,none⟩) (n+m) cap) (n+m) (xs++news)->w.grownBy w' v.ownBlock->(v.ownBlock=some g\/g=w.heap.size)->
  wpList P ops Q rest (a.put o.dst (.slice (some ⟨g,0,none⟩) (n+m) cap)) w'):wpList P ops Q (o::rest) a w:=by
 refine wpList_plain hgd fun K hK=> ?_
 obtain⟨g,cap,w',k,b,d,f⟩:=afu_ (P:=P) w base t o.type e i z size bytes ht hi hz hsize hby hzs hsz v n xs hown ad m c news hl hnews h1 hm h63 hbytes hbase;unfold Oper.wp execOp;simp only[ho,resolve,invoke,builtin,Sem.run_bind,Sem.run_pure,Result.andThen_ok,map_toArray,map_cons,map_nil,hs,hx,k];exact hK _ _ (h g cap w' b d f)
theorem Υ {P:Program} {w:World} {ops:Array Oper} {rest:List Oper} {o:Oper} {a:Act} {Q:Exit->Act->World->Prop} {s x:Operand} {t:TypeId} {base:Nat} {e:TypeId} {i:TypeInfo} {z:Value} {bytes:Nat}(ht:P.underlying t=some (.slice e))(hi:P.info? e=some i)(hz:i.zero=some z)(hsize:i.size=1)(hby:i.bytes=bytes) {v:Value} {n:Nat} {xs:List Value}(hown:w.ownsRow base e 1 v n xs) {ad:Addr} {c:Nat} {y:Value}(h:∀g cap w',w'.ownsRow base e 1 (.slice (some ⟨g,0,none⟩) (n+1) cap) (n+1) (xs++ [y])->w.grownBy w' v.ownBlock->(v.ownBlock=some g\/g=w.heap.size)->wpList P ops Q rest (a.put o.dst (.slice (some ⟨g,0,none⟩) (n+1) cap)) w')(hgd:o.guard=none:=by exact rfl)(ho:o.op= .call {callee:= .builtin .append,args:= #[s,x],argTypes:= #[t,t]}:=by exact rfl)(hzs:z.cells.size=1:=by exact rfl)(hs:a.eval s=v:=by exact rfl)(hx:a.eval x= .slice (some ad) 1 c:=by exact rfl)(hn:∀j u,[y][j]? =some u->w.cell? (ad.add j)=some u:=by exact cell_one_new _ _ _)(h1:∀u∈[y],u.oneCell'=true:=by exact gt_ rfl)(h6:n+1<=maxLen:=by unfold maxLen;omega)(hb:(n+1)*bytes<=140737488355328:=by omega)(hB:base<=w.heap.size:=by first|assumption|(simp;omega)|omega):wpList P ops Q (o::rest) a w:=jl_ w hgd s x t ho base e i z 1 bytes ht hi hz hsize hby hzs (by decide) v n xs hs hown ad 1 c [y] hx rfl hn h1 (by decide) h6 hb hB h
theorem β (h:w.heap[b]? =some (.cells #[x,y] t (0,0))):w.cell? ⟨b,0,none⟩=some x/\w.cell? ⟨b,1,none⟩=some y/\w.frozen? ⟨b,0,none⟩=false/\w.frozen? ⟨b,1,none⟩=false:=by
 simp[World.cell?,World.frozen?,h]
theorem cd_ (h:w.heap[b]? =some (.cells #[x,y] t (0,0))):(w.setCell ⟨b,0,none⟩ u).heap[b]? =some (.cells #[u,y] t (0,0)):=by
 simp[World.setCell,Array.getElem?_modify,h]
theorem fr_ (h:w.heap[b]? =some (.cells #[x,y] t (0,0))):(w.setCell ⟨b,1,none⟩ u).heap[b]? =some (.cells #[x,u] t (0,0)):=by
 simp[World.setCell,Array.getElem?_modify,h]
theorem Φ (h:w.heap[b]? =some (.cells #[x,y] t (0,0))):
 (w.setCell ⟨b,0,none⟩ u).cell? ⟨b,0,none⟩=some u/\((w.setCell ⟨b,0,none⟩ u).setCell ⟨b,1,none⟩ v).cell? ⟨b,1,none⟩=some v/\((w.setCell ⟨b,0,none⟩ u).setCell ⟨b,1,none⟩ v).cell? ⟨b,0,none⟩=some u:=
 ⟨(β (cd_ h)).1,(β (fr_ (cd_ h))).2.1,(β (fr_ (cd_ h))).1⟩
theorem a3_ {a:Addr}{k:Nat}(h:w.heap[k]? =some o)(hne:k≠a.block):(w.setCell a u).heap[k]? =some o:=by
 rw[Below.heap_setCell w a u k hne];exact h
theorem κ (h:w.heap[b]? =some o):b<w.heap.size:=(Array.getElem?_eq_some_iff.1 h).1
structure ce_ (W:World)(b:Nat)(t e0 s0 e1 s1:Nat)(w:World)(v0 v1:Value)(n0 n1:Nat)(x0 x1:List Value):Prop where
 blw:Below b W w
 blk:w.heap[b]? =some (.cells #[v0,v1] t (0,0))
 own0:w.ownsRow (b+1) e0 s0 v0 n0 x0
 own1:w.ownsRow (b+1) e1 s1 v1 n1 x1
 dis:∀g,v0.ownBlock=some g->v1.ownBlock=some g->False
variable {W:World} {b t e0 s0 e1 s1:Nat} {w w1 w2:World} {v0 v1:Value} {n0 n1:Nat} {x0 x1:List Value}
theorem ao_ (h:w.ownsRow base e size v n xs)(hb:Bl w w1):w1.ownsRow base e size v n xs:=
 h.kept (row:=none) ⟨hb.os,hb.tape,hb.output,hb.size,fun k hk _=>hb.block k hk⟩ (by cases hv:v.ownBlock<;>simp)
theorem ce_.below (h:ce_ W b t e0 s0 e1 s1 w v0 v1 n0 n1 x0 x1)(hb:Bl w w1):ce_ W b t e0 s0 e1 s1 w1 v0 v1 n0 n1 x0 x1 where
 blw:=h.blw.trans (hb.mono (by have:=κ h.blk;omega))
 blk:=by rw[hb.block b (κ h.blk)];exact h.blk
 own0:=ao_ h.own0 hb
 own1:=ao_ h.own1 hb
 dis:=h.dis
theorem ce_.grown0 (h:ce_ W b t e0 s0 e1 s1 w v0 v1 n0 n1 x0 x1)(hg:w.grownBy w2 v0.ownBlock):w2.heap[b]? =some (.cells #[v0,v1] t (0,0)):=by
 rw[hg.block b (κ h.blk) (fun e=>by have:=(h.own0.lt b e.symm).1;omega)];exact h.blk
theorem ce_.grown1 (h:ce_ W b t e0 s0 e1 s1 w v0 v1 n0 n1 x0 x1)(hg:w.grownBy w2 v1.ownBlock):w2.heap[b]? =some (.cells #[v0,v1] t (0,0)):=by
 rw[hg.block b (κ h.blk) (fun e=>by have:=(h.own1.lt b e.symm).1;omega)];exact h.blk
theorem ce_.put0 (h:ce_ W b t e0 s0 e1 s1 w v0 v1 n0 n1 x0 x1)(hown:w2.ownsRow (b+1) e0 s0 (.slice (some ⟨g,0,none⟩) m cap) m ys)(hg:w.grownBy w2 v0.ownBlock)
 (hf:v0.ownBlock=some g\/g=w.heap.size):ce_ W b t e0 s0 e1 s1 (w2.setCell ⟨b,0,none⟩ (.slice (some ⟨g,0,none⟩) m cap)) (.slice (some ⟨g,0,none⟩) m cap) v1 m n1 ys x1 where
 blw:=by
  have d:=κ h.blk;exact(h.blw.grown hg o_ (fun k e=>by have:=(h.own0.lt k e).1;omega)).setCell ι _
 blk:=cd_ (h.grown0 hg)
 own0:=ownsRow_setCell_below hown i_ _
 own1:=ownsRow_setCell_below (h.own1.kept hg (by
  cases hv:v1.ownBlock with
  |none=>exact .inl rfl
  |some k=>exact .inr (fun e=>h.dis k e.symm hv))) i_ _
 dis:=by
  intro k a c;simp only[Value.ownBlock,Δ]at a;subst a;rcases hf with hf|rfl
  . exact h.dis _ hf c
  . have:=(h.own1.lt _ c).2;omega
theorem ce_.put1 (h:ce_ W b t e0 s0 e1 s1 w v0 v1 n0 n1 x0 x1)(hown:w2.ownsRow (b+1) e1 s1 (.slice (some ⟨g,0,none⟩) m cap) m ys)(hg:w.grownBy w2 v1.ownBlock)
 (hf:v1.ownBlock=some g\/g=w.heap.size):ce_ W b t e0 s0 e1 s1 (w2.setCell ⟨b,1,none⟩ (.slice (some ⟨g,0,none⟩) m cap)) v0 (.slice (some ⟨g,0,none⟩) m cap) n0 m x0 ys where
 blw:=by
  have d:=κ h.blk;exact(h.blw.grown hg o_ (fun k e=>by have:=(h.own1.lt k e).1;omega)).setCell ι _
 blk:=fr_ (h.grown1 hg)
 own1:=ownsRow_setCell_below hown i_ _
 own0:=ownsRow_setCell_below (h.own0.kept hg (by
  cases hv:v0.ownBlock with
  |none=>exact .inl rfl
  |some k=>exact .inr (fun e=>h.dis k hv e.symm))) i_ _
 dis:=by
  intro k c a;simp only[Value.ownBlock,Δ]at a;subst a;rcases hf with hf|rfl
  . exact h.dis _ c hf
  . have:=(h.own0.lt _ c).2;omega
theorem Β (h:w.ownsRow base e size v n xs):∃ao cap,v= .slice ao n cap/\(0<n->∃g,ao=some ⟨g,0,none⟩/\∀j,j<n*size->w.cell? ⟨g,j,none⟩=xs[j]?):=by
 rcases h.2 with ⟨rfl,rfl⟩|⟨g,cap,a,rfl,r⟩
 . exact⟨none,0,rfl,fun h=>absurd h o_⟩
 . exact⟨some ⟨g,0,none⟩,cap,rfl,fun _=>⟨g,rfl,fun j hj=>h.cellAt j hj⟩⟩
end Go.Proofs.YtpngikmcjkjdaaaGreatDoor
