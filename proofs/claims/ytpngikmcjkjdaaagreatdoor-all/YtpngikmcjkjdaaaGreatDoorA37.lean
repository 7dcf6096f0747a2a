import Derived.Deep.Upon
import Derived.Test.YtpngikmcjkjdaaaGreatDoorA20
import Derived.Test.YtpngikmcjkjdaaaGreatDoorA35
set_option linter.unusedVariables false
set_option linter.unusedSimpArgs false
set_option maxRecDepth 20000
set_option maxHeartbeats 80000000
namespace Go.Proofs.YtpngikmcjkjdaaaGreatDoor
open Go.RowKit Tryz List Nat
variable {base ec g i n nc:Nat} {eo no:Option Addr} {v:Value} {w w':World}
theorem ns_:(prog.info? 104).map (fun i=>(i.zero,i.size,i.bytes))=some (some (.pointer none),1,8):=k_
def ba_ (gs:List Nat):List Value:=gs.map ptr
theorem ait_ (gs:List Nat):(ba_ gs).length=gs.length:=by simp[ba_]
theorem nt_ (a b:List Nat):ba_ (a++b)=ba_ a++ba_ b:=by simp[ba_]
def ae_ (w:World):List Nat->List Ex->Prop
 | [],[]=>True
 |g::gs,x::xs=>Τ w g x/\ae_ w gs xs
 |_,_=>False
section
variable {w w':World} {gs hs:List Nat} {L M:List Ex}
theorem ae_.len (h:ae_ w gs L):gs.length=L.length:=by
 induction gs generalizing L with
 |nil=>cases L<;>simp[ae_]at h ⊢
 |cons g gs ih=>
  cases L with
  |nil=>simp[ae_]at h
  |cons x L=>simp[ih h.2]
theorem ae_.imp (h:ae_ w gs L)(H:∀g e,Τ w g e->Τ w' g e):ae_ w' gs L:=by
 induction gs generalizing L with
 |nil=>cases L<;>simp[ae_]at h ⊢
 |cons g gs ih=>
  cases L with
  |nil=>simp[ae_]at h
  |cons x L=>exact⟨H _ _ h.1,ih h.2⟩
theorem ae_.below (h:ae_ w gs L)(hb:Bl w w'):ae_ w' gs L:=h.imp fun _ _ h=>h.below hb
theorem ae_.app (h:ae_ w gs L)(h':ae_ w hs M):ae_ w (gs++hs) (L++M):=by
 induction gs generalizing L with
 |nil=>
  cases L with
  |nil=>exact h'
  |cons x L=>simp[ae_]at h
 |cons g gs ih=>
  cases L with
  |nil=>simp[ae_]at h
  |cons x L=>exact⟨h.1,ih h.2⟩
theorem ae_.snoc {e:Ex}(h:ae_ w gs L)(h':Τ w g e):ae_ w (gs++ [g]) (L++ [e]):=h.app ⟨h',trivial⟩
theorem ae_.get (h:ae_ w gs L){x:Ex}(hx:L[i]? =some x):∃g,gs[i]? =some g/\Τ w g x:=by
 induction gs generalizing L i with
 |nil=>cases L<;>simp[ae_]at h hx
 |cons g gs ih=>
  cases L with
  |nil=>simp[ae_]at h
  |cons y L=>
   cases i with
   |zero=>simp at hx;subst hx;exact⟨g,rfl,h.1⟩
   |succ i=>simp at hx;obtain⟨a,b,c⟩:=ih h.2 hx;exact⟨a,by simpa using b,c⟩
end
theorem p2_ {xs:List Value}(ho:w.ownsRow base 104 1 v n xs)(hg:w.grownBy w' v.ownBlock){e:Ex}(h:Τ w g e):Τ w' g e:=by
 have i:∀(b:Nat) (j:Array Value),w.heap[b]? =some (.cells j 199 (0,0))->w'.heap[b]? =some (.cells j 199 (0,0)):=by
  intro b j m;rw[hg.block b (κ m) ?_,m];intro e;rcases ho.2 with ⟨rfl,_⟩|⟨a,o,p,rfl,_,c,_⟩
  . simp[Value.ownBlock]at e
  . simp only[Value.ownBlock,Δ]at e;subst e;rw[m]at c;simp at c
 induction e generalizing g with
 |nil=>exact i _ _ h
 |one S=>exact i _ _ h
 |thn a b iha ihb=>obtain⟨d,k,c,f,l⟩:=h;exact⟨d,k,i _ _ c,iha f,ihb l⟩
 |alt a b iha ihb=>obtain⟨d,k,c,f,l⟩:=h;exact⟨d,k,i _ _ c,iha f,ihb l⟩
 |star a iha=>obtain⟨d,c,f⟩:=h;exact⟨d,i _ _ c,iha f⟩
theorem p3_ {b1 b2 e s:Nat}{x:List Value}(h:w.ownsRow b1 e s v n x)(hb:b2<=b1):w.ownsRow b2 e s v n x:=by
 refine⟨h.1, ?_⟩;rcases h.2 with a|⟨g,b,c,a,d,r⟩
 . exact .inl a
 . exact .inr ⟨g,b,c,a,Nat.le_trans hb d,r⟩
theorem yz_ {P:Program}(w:World){ops:Array Oper}{rest:List Oper}{o:Oper}{a:Act}{Q:Exit->Act->World->Prop}(hgd:o.guard=none)(s x:Operand)(t:TypeId)
 (ho:o.op= .call {callee:= .builtin .append,args:= #[s,x],argTypes:= #[t,t]})
 (base base2:Nat) (e:TypeId) (i:TypeInfo) (z:Value) (bytes:Nat) (ht:P.underlying t=some (.slice e)) (hi:P.info? e=some i) (hz:i.zero=some z)
 (hsize:i.size=1) (hby:i.bytes=bytes) (hzs:z.cells.size=1)
 (v:Value) (n:Nat) (xs:List Value) (hs:a.eval s=v) (hown:w.ownsRow base e 1 v n xs)
 (v2:Value) (m:Nat) (ys:List Value) (hx:a.eval x=v2) (hown2:w.ownsRow base2 e 1 v2 m ys) (h1:∀u∈ys,u.oneCell'=true)
 (h63:n+m<=maxLen) (hbytes:(n+m)*bytes<=140737488355328) (hbase:base<=w.heap.size)
 (h:∀v' w',w'.ownsRow base e 1 v' (n+m) (xs++ys)->w.grownBy w' v.ownBlock->
  wpList P ops Q rest (a.put o.dst v') w'):wpList P ops Q (o::rest) a w:=by
 obtain⟨d,b,rfl,q⟩:=Β hown2;have l:ys.length=m:=by have:=hown2.1;omega
 by_cases A:m=0
 . subst A;obtain rfl:ys=[]:=eq_nil_of_length_eq_zero l;obtain⟨so,p,rfl,_⟩:=Β hown;refine wpList_plain hgd fun K hK=> ?_
   have C:Src P i.size t (.slice d 0 b) 0 [] w:=by
    cases d with
    |none=>exact Src.ofNil w ht b
    |some ad=>exact Src.ofSlice w ht ad 0 b [] i_ i_ i_
   have y:n<=p:=by
    rcases hown.2 with ⟨h1,f⟩|⟨g,c,D,h1,_,_,f,_⟩
    . omega
    . simp only[Value.slice.injEq]at h1;omega
   have B:=run_append_nothing (P:=P) w t t o.type e i ht hi so n p y (.slice d 0 b) C;unfold Oper.wp execOp;simp only[ho,resolve,invoke,builtin,Sem.run_bind,Sem.run_pure,Result.andThen_ok,map_toArray,map_cons,map_nil,hs,hx,B];refine hK _ _ (h _ _ ?_ ⟨rfl,rfl,rfl,ι,fun _ _ _=>rfl⟩);rw[append_nil];exact hown
 . obtain⟨g,rfl,r⟩:=q o_;refine jl_ w hgd s x t ho base e i z 1 bytes ht hi hz hsize hby hzs d_ v n xs hs hown ⟨g,0,none⟩ m b ys hx o_ ?_ h1 o_ h63 hbytes hbase (fun g b w' f h3 _=>h _ _ f h3);intro j u k;have E:j<m:=by rw[<-l];exact(gs_.1 k).1
   have:=r j o_;rw[show(⟨g,0,none⟩:Addr).add j=⟨g,j,none⟩by simp[Addr.add];omega,this,k]
def y0_ (L:List Ex)(w:World)(r:Ending)(w':World):Prop:=∃v gs,r= .returned v/\w'.ownsRow w.heap.size 104 1 v gs.length (ba_ gs)/\ae_ w' gs L/\Bl w w'
def BhC (e:Ex):Prop:=∀(g c:Nat) (w:World),c<8->Τ w g e->e.letters<=2^40->Calls prog 152 #[.pointer (some ⟨g,0,none⟩),.int .i64 (c:Int)] w (y0_ (e.behind c) w)
theorem aiu_:BhC .nil:=by
 intro g c w d h a;have b:=h.kind;simp only[Ex.kind,show((0:Nat):Int)=0 from rfl]at b;clear a;go_enter func152,ntmps152;go_wp2_with fail;go_ret;exact⟨_,[],rfl,a8_,trivial,μ⟩
theorem aiv_ (S:Nat->Bool):BhC (.one S):=by
 intro g c w t h l;have C:=h.kind;simp only[Ex.kind,show((1:Nat):Int)=1 from rfl]at C;have i:=(lo_ h t).1;obtain⟨G,v,z,A,B⟩:=info_parts ns_;cases hs:S c
 . rw[hs]at i;rw[show(Ex.one S).behind c=[]by simp[Ex.behind,hs]];clear l h hs;go_enter func152,ntmps152;go_wp2_with fail;go_ret;exact⟨_,[],rfl,a8_,trivial,μ⟩
 . rw[hs]at i;rw[show(Ex.one S).behind c=[.nil]by simp[Ex.behind,hs]];have f:=o1_ w;have q:∀a:World,∀o,(a.alloc o).ownsRow w.heap.size 104 1 (.slice none 0 0) 0 []:=fun a o=>a8_
   clear l h hs;go_enter func152,ntmps152;go_wp2_with (first
    |(go_at_call 153;refine f.mono ?_;rintro e a ⟨s,rfl,j,b⟩;have y:=b.size;have p:=α j;have n:=α b;clear j b f)
    |(at_builtin;refine Υ underlying144 v z A B (q a _) ?_;intro F E D m k u;have r:=α m;have d:Hid (Bl a D):=ξ.grown k i_ (fun x e=>by simp[Value.ownBlock]at e);clear m k u))
   go_ret;exact⟨_,[s],rfl,r.out,⟨p.out.below d.out,trivial⟩,n.out.trans (d.out.mono y)⟩
theorem y1_ (gs:List Nat):∀u∈ba_ gs,u.oneCell'=true:=by
 intro u a;simp only[ba_,mem_map]at a;obtain⟨g,_,rfl⟩:=a;rfl
theorem p4_ {gs:List Nat}(h:w.ownsRow base 104 1 v n (ba_ gs))(hg:gs[i]? =some g):∃a cap,v= .slice (some ⟨a,0,none⟩) n cap/\base<=a/\a<w.heap.size/\w.cell? ⟨a,i,none⟩=some (.pointer (some ⟨g,0,none⟩)):=by
 have p:gs.length=n:=by have:=h.1;rw[ait_]at this;omega
 have o:i<gs.length:=(gs_.1 hg).1;rcases h.2 with ⟨_,j⟩|⟨a,cap,d,rfl,e,c,k,l,m,f⟩
 . omega
 . refine⟨a,cap,rfl,e,κ c, ?_⟩;rw[cell_of_row w a i _ _ (0,0) c];have b:(d.toList.take (n*1))[i]? =some (ptr g):=by rw[f];simp[ba_,hg]
   rw[getElem?_take_of_lt o_]at b;rw[<-Array.getElem?_toList];exact b
theorem aiw_ (a b:Ex)(iha:BhC a)(ihb:BhC b):BhC (.alt a b):=by
 intro g c w I h Z;have k0:=h.kind;simp only[Ex.kind,show((3:Nat):Int)=3 from rfl]at k0;obtain⟨V,W,q,G,H⟩:=h;obtain⟨F,o⟩:=j4_ q;have X:=κ q;unfold ptr at F o;obtain⟨i0,Y,ad,ae,af⟩:=info_parts ns_;simp only[Ex.letters]at Z;have u:=lr_ a c;have v:=lr_ b c;have m:=iha V c w I G o_;have n:=fun k (hb:Bl w k)=>ihb W c k I (H.below hb) o_
 simp only[Ex.behind];obtain⟨D,z⟩:=δ (a.behind c);obtain⟨E,A⟩:=δ (b.behind c);rw[z.out]at m u ⊢;rw[A.out]at n v ⊢;clear iha ihb q G H z A;go_enter func152,ntmps152;go_wp2_with fail;refine m.mono ?_;clear m;rintro e k ⟨M,f,rfl,J,r,i⟩;have ac:=i.size;have y:=n k i;have d10:=(i.cell (p:=⟨g,10,none⟩) X).trans o;have aa:f.length<=a.letters:=by rw[r.len];exact u
 clear n F o;go_wp2_with fail;refine y.mono ?_;clear y;rintro e N ⟨v2,d,rfl,K,s,j⟩;have ag:=j.size;have ab:d.length<=b.letters:=by rw[s.len];exact v
 have l:=ao_ J j;have S:Hid (ae_ N (f++d) (D++E)):=(r.below j).app s;have U:Hid (∀x,M.ownBlock=some x->w.heap.size<=x):=fun x e=>(l.lt x e).1
 have P:Hid (Bl w N):=i.trans (j.mono ac);obtain⟨n1,B⟩:=δ (f.length);obtain⟨n2,C⟩:=δ (d.length);rw[B.out]at l aa;rw[C.out]at K ab;clear r s i j J u v d10;go_wp2_with (at_builtin;refine yz_ _ rfl _ _ 144 rfl w.heap.size k.heap.size 104 i0 (.pointer none) 8 underlying144 Y ad ae af rfl M n1 (ba_ f) rfl l v2 n2 (ba_ d) rfl K (y1_ d) u_ o_ o_ ?_;intro v' O L t;have T:=α L;have R:Hid (ae_ O (f++d) (D++E)):=S.out.imp (fun _ _ h=>p2_ l t h);have Q:Hid (Bl w O):=P.out.grown t o_ (fun x e=>U.out x e);clear L t);go_ret;refine⟨v',f++d,rfl, ?_,R.out,Q.out⟩;have:=T.out;rw[<-nt_,<-B.out,<-C.out,<-Μ]at this;exact this
theorem aix_ (a:Ex)(iha:BhC a):BhC (.star a):=by
 intro g c w hc h hl;have W:=h.kind;simp only[Ex.kind,show((4:Nat):Int)=4 from rfl]at W;have M:=h;obtain⟨ga,K,L⟩:=h;obtain⟨J,am⟩:=j4_ K;unfold ptr at J;obtain⟨i0,av,ay,az,aA⟩:=info_parts ns_;simp only[Ex.letters]at hl;have R:=lr_ a c;have A:=iha ga c w hc L o_;simp only[Ex.behind];obtain⟨d,H⟩:=δ (a.behind c);rw[H.out]at A R ⊢;clear iha K L H am;go_enter func152,ntmps152;go_wp2_with fail;refine A.mono ?_;clear A;rintro e k ⟨X,ap,rfl,T,D,v⟩;have V:=v.size;have aq:=M.below v;have ah:=α D.len;obtain⟨j,r⟩:=δ (d.length);rw[r.out]at R;have ae:=α D;have I:Hid (k.ownsRow w.heap.size 104 1 X j (ba_ ap)):=by unfold Hid;rw[<-r.out,<-ah.out];exact T
 have aa:=α v;have ak:∃t u,X= .slice t j u:=by
  obtain⟨t,u,e,_⟩:=Β I.out;exact⟨t,u,e⟩
 obtain⟨t,u,rfl⟩:=ak;clear T D v J W M;go_wp2_with fail;go_loopw [5,7,8] (fun l' i' _ wr=>∃(i:Nat) (b:List Nat) (q:Option Addr) (o:Nat),i<=j/\b.length=i/\l'= .slice q i o/\i'= .int .i64 (i:Int)/\wr.ownsRow k.heap.size 104 1 (.slice q i o) i (ba_ b)/\ae_ wr b ((d.take i).map fun x=>x.thn' (.star a))/\Bl k wr) (fun _ i' _ _=>j - (intOf i').toNat)
 case atStart=>exact⟨0,[],none,0,o_,rfl,rfl,rfl,a8_,trivial,μ⟩
 case round=>
  obtain⟨i,b,q,o,hi,y,rfl,rfl,z,n,f⟩:=hrel;have ax:=f.size;by_cases aD:i<j
  . have aw:(i:Int)<(j:Int):=o_;have HX:∃x,d[i]? =some x:=⟨d[i]'(by rw[r.out];omega),ge_ _⟩;obtain⟨x,F⟩:=HX;obtain⟨gx,Q,O⟩:=ae.out.get F;obtain⟨ba,aB,hv,aC,ar,P⟩:=p4_ I.out Q;simp only[Value.slice.injEq]at hv;obtain⟨rfl,_,rfl⟩:=hv;have e1:=(f.cell (p:=⟨ba,i,none⟩) ar).trans P;have G:=kz_ gx g x (.star a) wr (O.below f) (aq.below f);have al:Hid ((d.take (i+1)).map (fun x=>x.thn' (.star a))=(d.take i).map (fun x=>x.thn' (.star a))++ [x.thn' (.star a)]):=by
     unfold Hid;rw[take_add_one,F,map_append];rfl
    have s:=α z;have C:=α n;have B:=α f;have ad:=α y;clear z n f y F Q P O;go_wp2_with fail;refine G.mono ?_;clear G;rintro e Y ⟨l,rfl,N,m⟩;have aE:=m.size;have S:=(ao_ s.out m).alloc (.cells #[.pointer (some ⟨l,0,none⟩)] 104);have ag:Hid (ae_ (Y.alloc (.cells #[.pointer (some ⟨l,0,none⟩)] 104)) (b++ [l]) ((d.take (i+1)).map fun x=>x.thn' (.star a))):=by
     unfold Hid;rw[al.out];exact((C.out.below m).snoc N).below ξ
    have aj:Hid (∀x,(Value.slice q i o).ownBlock=some x->k.heap.size<=x):=fun x e=>(s.out.lt x e).1
    have ab:Hid (Bl k Y):=B.out.trans (m.mono ax);clear N m e1;go_wp2_with (at_builtin;refine Υ underlying144 av ay az aA S ?_;intro g3 an Z U E au;have ai:=α U;have af:Hid (ae_ Z (b++ [l]) ((d.take (i+1)).map fun x=>x.thn' (.star a))):=ag.out.imp (fun _ _ h=>p2_ S E h);have ac:Hid (Bl k Z):=(ab.out.alloc o_ _).grown E s_ (fun x e=>aj.out x e);clear U E au);go_roundw
    case rel=>
     refine⟨i+1,b++ [l],some ⟨g3,0,none⟩,an,o_,by rw[Μ,ad.out];rfl,rfl,by go_num, ?_,af.out,ac.out⟩;rw[nt_];exact ai.out
    case measure=>exact c_
  . have aw:¬(i:Int)<(j:Int):=o_;obtain rfl:i=j:=o_;have s:Hid (wr.ownsRow k.heap.size 104 1 (.slice q i o) b.length (ba_ b)):=by unfold Hid;rw[y];exact z
    have C:Hid (ae_ wr b (d.map fun x=>x.thn' (.star a))):=by
     unfold Hid;rw[tk_ (by rw[r.out];omega)]at n;exact n
    have B:Hid (Bl w wr):=aa.out.trans (f.mono V);clear z n f y;go_wp2_with fail;go_ret;exact⟨_,b,rfl,p3_ s.out V,C.out,B.out⟩
theorem aiy_ (a b:Ex)(iha:BhC a)(ihb:BhC b):BhC (.thn a b):=by
 intro g c w hc h hl;have k0:=h.kind;simp only[Ex.kind,show((2:Nat):Int)=2 from rfl]at k0;obtain⟨ga,N,h1,h2,h3⟩:=h;obtain⟨Z,Y⟩:=j4_ h1;have hg:=κ h1;unfold ptr at Z Y;obtain⟨i0,aq,ay,az,aA⟩:=info_parts ns_;simp only[Ex.letters]at hl;have ar:=lr_ a c;have au:=lr_ b c;have Q:=iha ga c w hc h2 o_;have G:∀d,Bl w d->Calls prog 151 #[.pointer (some ⟨ga,0,none⟩)] d fun r w'=>r= .returned (.bool a.empty)/\d=w':=fun d hb=>yu_ a ga d (h2.below hb)
 have F:∀d,Bl w d->Calls prog 152 #[.pointer (some ⟨N,0,none⟩),.int .i64 (c:Int)] d (y0_ (b.behind c) d):=fun d hb=>ihb N c d hc (h3.below hb) o_
 simp only[Ex.behind];obtain⟨ea,ae⟩:=δ (a.empty);obtain⟨LB,ag⟩:=δ (b.behind c);rw[ae.out]at G ⊢;rw[ag.out]at F au ⊢;obtain⟨k,af⟩:=δ (a.behind c);rw[af.out]at Q ar ⊢;clear iha ihb h1 h2 af ag ae;go_enter func152,ntmps152;go_wp2_with fail;refine Q.mono ?_;clear Q;rintro e d ⟨v1,aI,rfl,av,aa,v⟩;have ax:=v.size;have aJ:=h3.below v;have d9:=(v.cell (p:=⟨g,9,none⟩) hg).trans Z;have d10:=(v.cell (p:=⟨g,10,none⟩) hg).trans Y;have ac:g<d.heap.size:=o_;have aD:=α aa.len;obtain⟨m,J⟩:=δ (k.length);rw[J.out]at ar;have aC:=α aa;have ai:Hid (d.ownsRow w.heap.size 104 1 v1 m (ba_ aI)):=by unfold Hid;rw[<-J.out,<-aD.out];exact av
 have aB:=α v;have aE:∃K M,v1= .slice K m M:=by
  obtain⟨K,M,e,_⟩:=Β ai.out;exact⟨K,M,e⟩
 obtain⟨K,M,rfl⟩:=aE;clear av aa v Z Y k0 h3;go_wp2_with fail;go_loopw [5,10,11] (fun l' i' _ wr=>∃(i:Nat) (f:List Nat) (s:Option Addr) (q:Nat),i<=m/\f.length=i/\l'= .slice s i q/\i'= .int .i64 (i:Int)/\wr.ownsRow d.heap.size 104 1 (.slice s i q) i (ba_ f)/\ae_ wr f ((k.take i).map fun x=>x.thn' b)/\Bl d wr) (fun _ i' _ _=>m - (intOf i').toNat)
 case atStart=>exact⟨0,[],none,0,o_,rfl,rfl,rfl,a8_,trivial,μ⟩
 case round=>
  obtain⟨i,f,s,q,hi,O,rfl,rfl,P,B,l⟩:=hrel;have aP:=l.size;by_cases aW:i<m
  . have aM:(i:Int)<(m:Int):=o_;have HX:∃x,k[i]? =some x:=⟨k[i]'(by rw[J.out];omega),ge_ _⟩;obtain⟨x,hx⟩:=HX;obtain⟨gx,ap,al⟩:=aC.out.get hx;obtain⟨L,aR,hv,aU,aK,an⟩:=p4_ ai.out ap;simp only[Value.slice.injEq]at hv;obtain⟨rfl,_,rfl⟩:=hv;have e1:=(l.cell (p:=⟨L,i,none⟩) aK).trans an;have y:=kz_ gx N x b wr.drew (al.below l.drew) (aJ.below l.drew);have aF:Hid ((k.take (i+1)).map (fun x=>x.thn' b)=(k.take i).map (fun x=>x.thn' b)++ [x.thn' b]):=by
     unfold Hid;rw[take_add_one,hx,map_append];rfl
    have u:=α P;have HL:=α B;have HB:=α l;have H:=α O;have e2:=(l.cell (p:=⟨g,10,none⟩) ac).trans d10;have aV:(0:Int)<=(i:Int):=o_;clear P B l O hx ap an al d9 d10 F G;go_wp2_with fail;go_region_held3 (fun w'=>w'.cell? ⟨L,i,none⟩=some (.pointer (some ⟨gx,0,none⟩))/\w'.cell? ⟨g,10,none⟩=some (.pointer (some ⟨N,0,none⟩))) (go_keep)
     ((go_at_call 156;refine y.mono ?_;rintro e t ⟨z,rfl,ak,aj⟩;have j:Bl wr t:=(Below.refl wr.heap.size wr).drew.trans aj;have aS:=(j.cell (p:=⟨L,i,none⟩) (by show L<_;omega)).trans e1;have aT:=(j.cell (p:=⟨g,10,none⟩) (by show g<_;omega)).trans e2;clear aj y))
    have aQ:=j.size;have C:=(ao_ u.out j).alloc (.cells #[.pointer (some ⟨z,0,none⟩)] 104);have U:Hid (ae_ (t.alloc (.cells #[.pointer (some ⟨z,0,none⟩)] 104)) (f++ [z]) ((k.take (i+1)).map fun x=>x.thn' b)):=by
     unfold Hid;rw[aF.out];exact((HL.out.below j).snoc ak).below ξ
    have X:Hid (∀x,(Value.slice s i q).ownBlock=some x->d.heap.size<=x):=fun x e=>(u.out.lt x e).1
    have R:Hid (Bl d t):=HB.out.trans (j.mono aP);clear ak j e1;go_wp2_with (at_builtin;refine Υ underlying144 aq ay az aA C ?_;intro g3 aG E D o aL;have W:=α D;have I:Hid (ae_ E (f++ [z]) ((k.take (i+1)).map fun x=>x.thn' b)):=U.out.imp (fun _ _ h=>p2_ C o h);have S:Hid (Bl d E):=(R.out.alloc o_ _).grown o s_ (fun x e=>X.out x e);clear D o aL);go_roundw
    case rel=>
     refine⟨i+1,f++ [z],some ⟨g3,0,none⟩,aG,o_,by rw[Μ,H.out];rfl,rfl,by go_num, ?_,I.out,S.out⟩;rw[nt_];exact W.out
    case measure=>exact c_
  . have aM:¬(i:Int)<(m:Int):=o_;obtain rfl:i=m:=o_;have am:ae_ wr f (k.map fun x=>x.thn' b):=by
     rw[tk_ (by rw[J.out];omega)]at B;exact B
    have A:Bl w wr:=aB.out.trans (l.mono ax);have e9:=(l.cell (p:=⟨g,9,none⟩) ac).trans d9;have aH:=(l.cell (p:=⟨g,10,none⟩) ac).trans d10;have y:=G wr A;have T:=F wr A;have u:Hid (wr.ownsRow w.heap.size 104 1 (.slice s i q) i (ba_ f)):=p3_ P ax;have H:=α O;have V:=α am;have ad:=α A;have aO:=A.size;clear P B l O am A G F d9 d10;go_wp2_with fail;refine y.mono ?_;clear y;rintro e t ⟨rfl,rfl⟩;cases ea
    . clear T;go_wp2_with fail;go_ret;refine⟨_,f,rfl,by rw[H.out];exact u.out, ?_,ad.out⟩;first|exact V.out|simpa using V.out
    . go_wp2_with fail;refine T.mono ?_;clear T;rintro e t ⟨v2,n,rfl,aw,ab,j⟩;have aQ:=j.size;have aN:n.length<=b.letters:=by rw[ab.len];exact au
      have C:=ao_ u.out j;have U:Hid (ae_ t (f++n) ((k.map fun x=>x.thn' b)++LB)):=(V.out.below j).app ab;have X:Hid (∀x,(Value.slice s i q).ownBlock=some x->w.heap.size<=x):=fun x e=>(u.out.lt x e).1
      have R:Hid (Bl w t):=ad.out.trans (j.mono aO);obtain⟨n2,ah⟩:=δ (n.length);rw[ah.out]at aw aN;clear ab j e9 aH;go_wp2_with (at_builtin;refine yz_ _ rfl _ _ 144 rfl w.heap.size wr.heap.size 104 i0 (.pointer none) 8 underlying144 aq ay az aA rfl (.slice s i q) i (ba_ f) rfl C v2 n2 (ba_ n) rfl aw (y1_ n) u_ o_ o_ ?_;intro v' E D o;have W:=α D;have I:Hid (ae_ E (f++n) ((k.map fun x=>x.thn' b)++LB)):=U.out.imp (fun _ _ h=>p2_ C o h);have S:Hid (Bl w E):=R.out.grown o o_ (fun x e=>X.out x e);clear D o);go_ret;refine⟨v',f++n,rfl, ?_, ?_,S.out⟩
      . have:=W.out;rw[<-nt_,<-H.out,<-ah.out,<-Μ]at this;exact this
      . first|exact I.out|simpa using I.out
theorem aiz_ (e:Ex):BhC e:=by
 induction e with
 |nil=>exact aiu_
 |one S=>exact aiv_ S
 |star a iha=>exact aix_ a iha
 |thn a b iha ihb=>exact aiy_ a b iha ihb
 |alt a b iha ihb=>exact aiw_ a b iha ihb
structure cn_ (w:World)(eo:Option Addr)(ec:Nat)(no:Option Addr)(nc:Nat)(L:List Ex):Prop where
 es:∃gs,w.ownsRow 0 104 1 (.slice eo L.length ec) L.length (ba_ gs)/\ae_ w gs L
 ns:w.ownsRow 0 9 1 (.slice no L.length nc) L.length (Ζ (L.map Ex.nb))
theorem cn_.below {L:List Ex}(h:cn_ w eo ec no nc L)(hb:Bl w w'):cn_ w' eo ec no nc L:=by
 obtain⟨⟨a,b,c⟩,h3⟩:=h;exact⟨⟨a,ao_ b hb,c.below hb⟩,ao_ h3 hb⟩
theorem cn_.nil (w:World):cn_ w none 0 none 0 []:=⟨⟨[],a8_,trivial⟩,a8_⟩
theorem cn_.exp {L:List Ex}(h:cn_ w eo ec no nc L){x:Ex}(hx:L[i]? =some x):∃a g,eo=some ⟨a,0,none⟩/\a<w.heap.size/\w.cell? ⟨a,i,none⟩=some (.pointer (some ⟨g,0,none⟩))/\Τ w g x:=by
 obtain⟨⟨l,b,c⟩,_⟩:=h;obtain⟨g,f,d⟩:=c.get hx;obtain⟨a,k,hv,_,j,e⟩:=p4_ b f;simp only[Value.slice.injEq]at hv;exact⟨a,g,hv.1,j,e,d⟩
theorem cn_.name {L:List Ex}(h:cn_ w eo ec no nc L){x:Ex}(hx:L[i]? =some x):∃a,no=some ⟨a,0,none⟩/\a<w.heap.size/\w.cell? ⟨a,i,none⟩=some (.string x.nb):=by
 have b:=h.ns;have j:L.length=(L.map Ex.nb).length:=i_;have c:w.ownsRow 0 9 1 (.slice no L.length nc) (L.map Ex.nb).length (Ζ (L.map Ex.nb)):=by rw[<-j];exact b
 obtain⟨g,d,_,_,e,f⟩:=rl_ c (i:=i) (y:=x.nb) (by simp[hx]);exact⟨g,d,e,f⟩
theorem ai0_ {a b:Ex}(ha:a.can)(hb:b.can)(h:a.nb=b.nb):a=b:=vd_ ha hb (by rw[<-h0_,<-h0_,h])
theorem ai1_ (w:World)(eo no:Option Addr)(ec nc:Nat)(L:List Ex)(h:cn_ w eo ec no nc L)(hl:L.length<=2^20):Calls prog 115 #[.agg #[.slice eo L.length ec,.slice no L.length nc]] w fun r w'=>r= .returned (.bool (L.any Ex.empty))/\Bl w w':=by
 obtain⟨c,p⟩:=δ (L.any Ex.empty);rw[p.out];obtain⟨n,l⟩:=δ (L.length);rw[l.out]at hl ⊢;obtain⟨W,t,d,-,q⟩:=ν w #[.slice eo n ec,.slice no n nc] 146;obtain⟨F,G,_,_⟩:=β q;have v:=α h;clear h q;go_enter func115,ntmps115;go_upto_region 1 with fail;rw[<-t];clear t;go_wp2_with fail;go_loop [3,4] (fun i' _=>∃i:Nat,i<=n/\i'= .int .i64 (i:Int)/\Hid ((L.drop i).any Ex.empty=c)) (fun i' _=>n - (intOf i').toNat)
 case atStart=>exact⟨0,o_,rfl,p⟩
 case round=>
  obtain⟨i,D,rfl,j⟩:=hrel;by_cases z:i<n
  . have A:(i:Int)<(n:Int):=o_;have m:i<L.length:=by rw[l.out];exact z
    obtain⟨x,b⟩:∃x,L[i]? =some x:=⟨L[i],ge_ m⟩;obtain⟨a,g,rfl,B,C,s⟩:=(v.out.below d).exp b;have f:=yu_ x g W s;have k:Hid ((x.empty||(L.drop (i+1)).any Ex.empty)=c):=by
     unfold Hid;rw[<-j.out,drop_eq_getElem_cons m,any_cons];rw[ge_ m]at b;simp only[Δ]at b;rw[b]
    obtain⟨y,u⟩:=δ (x.empty);rw[u.out]at f k;clear j s b;go_wp2_with fail;refine f.mono ?_;clear f;rintro e E ⟨rfl,rfl⟩;cases y
    . go_wp2_with fail;go_round
      case rel=>exact⟨i+1,o_,by go_num,by unfold Hid;rw[<-k.out];rfl⟩
      case measure=>exact c_
    . have o:c=true:=by rw[<-k.out];rfl
      subst o;go_wp2_with fail;go_ret;exact⟨rfl,d⟩
  . have A:¬(i:Int)<(n:Int):=o_;have o:c=false:=by rw[<-j.out,drop_of_length_le (by rw[l.out];omega)];rfl
    subst o;go_wp2_with fail;go_ret;exact⟨rfl,d⟩
theorem ai2_ {L M:List Ex}(hL:∀x∈L,x.can)(hM:∀x∈M,x.can)(h:L.map Ex.nb=M.map Ex.nb):L=M:=by
 induction L generalizing M with
 |nil=>cases M with
  |nil=>rfl
  |cons y M=>simp at h
 |cons x L ih=>
  cases M with
  |nil=>simp at h
  |cons y M=>
   simp only[map_cons,List.cons.injEq]at h;rw[ai0_ (hL x i_) (hM y i_) h.1,ih (fun z hz=>hL z (by simp[hz])) (fun z hz=>hM z (by simp[hz])) h.2]
noncomputable def iw_ (L M:List Ex):Bool:=decide (L.map Ex.nb=M.map Ex.nb)
theorem ai3_ {L M:List Ex}(h:L.map Ex.nb=M.map Ex.nb):iw_ L M=true:=decide_eq_true h
theorem ai4_ {L M:List Ex}(h:L.map Ex.nb≠M.map Ex.nb):iw_ L M=false:=decide_eq_false h
theorem ai5_ {L M:List Ex}(hL:∀x∈L,x.can)(hM:∀x∈M,x.can):iw_ L M=true↔L=M:=by
 unfold iw_;rw[decide_eq_true_eq];exact⟨ai2_ hL hM,fun h=>by rw[h]⟩
theorem ai6_ (w:World)(eo no fo po:Option Addr)(ec nc fc pc:Nat)(L M:List Ex)(h:cn_ w eo ec no nc L)(h':cn_ w fo fc po pc M)(hl:L.length<=2^20)(hm:M.length<=2^20):
 Calls prog 117 #[.agg #[.slice eo L.length ec,.slice no L.length nc],.agg #[.slice fo M.length fc,.slice po M.length pc]] w fun r w'=>r= .returned (.bool (iw_ L M))/\Bl w w':=by
 have F:Hid (L.map Ex.nb=M.map Ex.nb->iw_ L M=true):=ai3_;have k:Hid (∀i:Nat,(L.map Ex.nb)[i]? ≠(M.map Ex.nb)[i]? ->iw_ L M=false):=fun i I=>ai4_ (fun e=>I (by rw[e]))
 obtain⟨B,O⟩:=δ (iw_ L M);rw[O.out]at F k ⊢;obtain⟨n,c⟩:=δ (L.length);obtain⟨m,b⟩:=δ (M.length);rw[c.out,b.out];rw[c.out]at hl;rw[b.out]at hm;obtain⟨W,s,z,H,A⟩:=bl_ w #[.slice eo n ec,.slice no n nc] 146 #[.slice fo m fc,.slice po m pc] 146;obtain⟨x0,x1,_,_⟩:=β H;obtain⟨y0,y1,_,_⟩:=β A;have Y:=κ A;have P:=α h;have Q:Hid (cn_ w fo fc po pc M):=h';clear h h' H A;by_cases J:n=m
 . have K:((n:Int)==(m:Int))=true:=s_;subst J;clear K;go_enter func117,ntmps117;go_upto_region 1 with fail;rw[<-s];clear s;go_wp2_with fail;go_loopw [5] (fun i' wr=>∃(i:Nat),i<=n/\i'= .int .i64 (i:Int)/\Hid ((L.map Ex.nb).take i=(M.map Ex.nb).take i)/\Bl W wr) (fun i' _=>n - (intOf i').toNat)
   case atStart=>exact⟨0,o_,rfl,rfl,μ⟩
   case round=>
    obtain⟨i,I,rfl,o,q⟩:=hrel;have ab:=(q.cell (p:=⟨w.heap.size,1,none⟩) (by show w.heap.size<_;omega)).trans x1;have ac:=(q.cell (p:=⟨w.heap.size+1,1,none⟩) Y).trans y1;have j:Bl w wr:=z.trans (q.mono z.size);by_cases t:i<n
    . have X:(i:Int)<(n:Int):=o_;have S:i<L.length:=by rw[c.out];exact t
      have T:i<M.length:=by rw[b.out];exact t
      obtain⟨x,C⟩:∃x,L[i]? =some x:=⟨L[i],getElem?_eq_getElem S⟩;obtain⟨y,D⟩:∃x,M[i]? =some x:=⟨M[i],getElem?_eq_getElem T⟩;obtain⟨a,rfl,ha,U⟩:=(P.out.below j).name C;obtain⟨a',rfl,aa,V⟩:=(Q.out.below j).name D;have f:=g4_ x.nb y.nb;have d:Hid ((L.map Ex.nb)[i]? =some x.nb/\(M.map Ex.nb)[i]? =some y.nb):=⟨by simp[C],by simp[D]⟩;obtain⟨v,E⟩:=δ (x.nb);obtain⟨N,G⟩:=δ (y.nb);rw[E.out]at U f d;rw[G.out]at V f d;clear C D E G;by_cases u:v=N
      . subst u;have Z:(v.toList==v.toList)=true:=by rw[f];simp
        have R:Hid ((L.map Ex.nb).take (i+1)=(M.map Ex.nb).take (i+1)):=by
         unfold Hid;rw[take_add_one,take_add_one,o.out,d.out.1,d.out.2]
        clear f o;go_wp2_with fail;go_quiet (fail);go_wp2_with fail;go_roundw
        case rel=>exact⟨i+1,o_,by go_num,R,below_drewN q nq⟩
        case measure=>exact c_
      . have Z:(v.toList==N.toList)=false:=by rw[f];simp[u]
        have g:B=false:=k.out i (by rw[d.out.1,d.out.2];simp[u]);subst g;clear f o u;go_wp2_with fail;go_quiet (fail);go_wp2_with fail;go_ret;exact⟨rfl,below_drewN j nq⟩
    . have X:¬(i:Int)<(n:Int):=o_;have g:B=true:=by
       apply F.out;have:=o.out;rw[take_of_length_le (by rw[length_map,c.out];omega),take_of_length_le (by rw[length_map,b.out];omega)]at this;exact this
      subst g;go_wp2_with fail;go_ret;exact⟨rfl,j⟩
 . have K:((n:Int)==(m:Int))=false:=s_;have g:B=false:=by
    rcases Nat.lt_or_gt_of_ne J with t|t
    . apply k.out n;rw[getElem?_eq_none (by simp[c.out]),getElem?_eq_getElem (by simp[b.out];omega)];simp
    . apply k.out m;rw[getElem?_eq_none (l:=M.map Ex.nb) (by simp[b.out]),getElem?_eq_getElem (by simp[c.out];omega)];simp
   subst g;go_enter func117,ntmps117;go_upto_region 1 with fail;rw[<-s];clear s;go_wp2_with fail;go_ret;exact⟨rfl,z⟩
end Go.Proofs.YtpngikmcjkjdaaaGreatDoor
