import Derived.Deep.Upon
import Derived.Test.YtpngikmcjkjdaaaGreatDoorC26
set_option linter.unusedVariables false
set_option linter.unusedSimpArgs false
set_option maxRecDepth 20000
set_option maxHeartbeats 80000000
namespace Go.Proofs.YtpngikmcjkjdaaaGreatDoor
open Go.RowKit Tryz List Nat
variable {xs:List Value} {b base c cap ec g i n nc s:Nat} {eo no:Option Addr} {u v x y:Value} {W w w':World}
theorem nu_:(prog.info? 104).map (fun i=>(i.zero,i.size,i.bytes))=some (some (.pointer none),1,8):=k_
def ba_ (gs:List Nat):List Value:=gs.map ptr
theorem ajq_ (gs:List Nat):(ba_ gs).length=gs.length:=by simp[ba_]
theorem nv_ (a b:List Nat):ba_ (a++b)=ba_ a++ba_ b:=by simp[ba_]
def ae_ (w:World):List Nat->List Ex->Prop
 | [],[]=>True
 |g::gs,x::xs=>Τ w g x/\ae_ w gs xs
 |_,_=>False
section
variable {w w':World} {gs hs:List Nat} {L M:List Ex}
theorem ae_.len (h:ae_ w gs L):gs.length=L.length:=by
 induction gs generalizing L with
 |nil=>cases L<;>simp[ae_]at h ⊢
 |cons g gs ih=>
  cases L with
  |nil=>simp[ae_]at h
  |cons x L=>simp[ih h.2]
theorem ae_.imp (h:ae_ w gs L)(H:∀g e,Τ w g e->Τ w' g e):ae_ w' gs L:=by
 induction gs generalizing L with
 |nil=>cases L<;>simp[ae_]at h ⊢
 |cons g gs ih=>
  cases L with
  |nil=>simp[ae_]at h
  |cons x L=>exact⟨H _ _ h.1,ih h.2⟩
theorem ae_.below (h:ae_ w gs L)(hb:Bl w w'):ae_ w' gs L:=h.imp fun _ _ h=>h.below hb
theorem ae_.app (h:ae_ w gs L)(h':ae_ w hs M):ae_ w (gs++hs) (L++M):=by
 induction gs generalizing L with
 |nil=>
  cases L with
  |nil=>exact h'
  |cons x L=>simp[ae_]at h
 |cons g gs ih=>
  cases L with
  |nil=>simp[ae_]at h
  |cons x L=>exact⟨h.1,ih h.2⟩
theorem ae_.snoc {e:Ex}(h:ae_ w gs L)(h':Τ w g e):ae_ w (gs++ [g]) (L++ [e]):=h.app ⟨h',trivial⟩
theorem ae_.get (h:ae_ w gs L){x:Ex}(hx:L[i]? =some x):∃g,gs[i]? =some g/\Τ w g x:=by
 induction gs generalizing L i with
 |nil=>cases L<;>simp[ae_]at h hx
 |cons g gs ih=>
  cases L with
  |nil=>simp[ae_]at h
  |cons y L=>
   cases i with
   |zero=>simp at hx;subst hx;exact⟨g,rfl,h.1⟩
   |succ i=>simp at hx;obtain⟨a,b,c⟩:=ih h.2 hx;exact⟨a,by simpa using b,c⟩
end
theorem p7_ (ho:w.ownsRow base 104 1 v n xs)(hg:w.grownBy w' v.ownBlock){e:Ex}(h:Τ w g e):Τ w' g e:=by
 have i:∀(b:Nat) (j:Array Value),w.heap[b]? =some (.cells j 199 (0,0))->w'.heap[b]? =some (.cells j 199 (0,0)):=by
  intro b j m;rw[hg.block b (κ m) ?_,m];intro e;rcases ho.2 with ⟨rfl,_⟩|⟨a,o,p,rfl,_,c,_⟩
  . simp[Value.ownBlock]at e
  . simp only[Value.ownBlock,Δ]at e;subst e;rw[m]at c;simp at c
 induction e generalizing g with
 |nil=>exact i _ _ h
 |one S=>exact i _ _ h
 |thn a b iha ihb=>obtain⟨d,k,c,f,l⟩:=h;exact⟨d,k,i _ _ c,iha f,ihb l⟩
 |alt a b iha ihb=>obtain⟨d,k,c,f,l⟩:=h;exact⟨d,k,i _ _ c,iha f,ihb l⟩
 |star a iha=>obtain⟨d,c,f⟩:=h;exact⟨d,i _ _ c,iha f⟩
theorem p8_ {b1 b2 e:Nat}{x:List Value}(h:w.ownsRow b1 e s v n x)(hb:b2<=b1):w.ownsRow b2 e s v n x:=by
 refine⟨h.1, ?_⟩;rcases h.2 with a|⟨g,b,c,a,d,r⟩
 . exact .inl a
 . exact .inr ⟨g,b,c,a,Nat.le_trans hb d,r⟩
theorem y2_ {P:Program}(w:World){ops:Array Oper}{rest:List Oper}{o:Oper}{a:Act}{Q:Exit->Act->World->Prop}(hgd:o.guard=none)(s x:Operand)(t:TypeId)
 (ho:o.op= .call {callee:= .builtin .append,args:= #[s,x],argTypes:= #[t,t]})
 (base base2:Nat) (e:TypeId) (i:TypeInfo) (z:Value) (bytes:Nat) (ht:P.underlying t=some (.slice e)) (hi:P.info? e=some i) (hz:i.zero=some z)
 (hsize:i.size=1) (hby:i.bytes=bytes) (hzs:z.cells.size=1)
 (v:Value) (n:Nat) (xs:List Value) (hs:a.eval s=v) (hown:w.ownsRow base e 1 v n xs)
 (v2:Value) (m:Nat) (ys:List Value) (hx:a.eval x=v2) (hown2:w.ownsRow base2 e 1 v2 m ys) (h1:∀u∈ys,u.oneCell'=true)
 (h63:n+m<=maxLen) (hbytes:(n+m)*bytes<=140737488355328) (hbase:base<=w.heap.size)
 (h:∀v' w',w'.ownsRow base e 1 v' (n+m) (xs++ys)->w.grownBy w' v.ownBlock->
  wpList P ops Q rest (a.put o.dst v') w'):wpList P ops Q (o::rest) a w:=by
 obtain⟨d,b,rfl,q⟩:=Β hown2;have l:ys.length=m:=by have:=hown2.1;omega
 by_cases A:m=0
 . subst A;obtain rfl:ys=[]:=eq_nil_of_length_eq_zero l;obtain⟨so,p,rfl,_⟩:=Β hown;refine wpList_plain hgd fun K hK=> ?_
   have C:Src P i.size t (.slice d 0 b) 0 [] w:=by
    cases d with
    |none=>exact Src.ofNil w ht b
    |some ad=>exact Src.ofSlice w ht ad 0 b [] i_ i_ i_
   have y:n<=p:=by
    rcases hown.2 with ⟨h1,f⟩|⟨g,c,D,h1,_,_,f,_⟩
    . omega
    . simp only[Value.slice.injEq]at h1;omega
   have B:=run_append_nothing (P:=P) w t t o.type e i ht hi so n p y (.slice d 0 b) C;unfold Oper.wp execOp;simp only[ho,resolve,invoke,builtin,Sem.run_bind,Sem.run_pure,Result.andThen_ok,map_toArray,map_cons,map_nil,hs,hx,B];refine hK _ _ (h _ _ ?_ ⟨rfl,rfl,rfl,ι,fun _ _ _=>rfl⟩);rw[append_nil];exact hown
 . obtain⟨g,rfl,r⟩:=q o_;refine jh_ w hgd s x t ho base e i z 1 bytes ht hi hz hsize hby hzs d_ v n xs hs hown ⟨g,0,none⟩ m b ys hx o_ ?_ h1 o_ h63 hbytes hbase (fun g b w' f h3 _=>h _ _ f h3);intro j u k;have E:j<m:=by rw[<-l];exact(gs_.1 k).1
   have:=r j o_;rw[show(⟨g,0,none⟩:Addr).add j=⟨g,j,none⟩by simp[Addr.add];omega,this,k]
def y3_ (L:List Ex)(w:World)(r:Ending)(w':World):Prop:=∃v gs,r= .returned v/\w'.ownsRow w.heap.size 104 1 v gs.length (ba_ gs)/\ae_ w' gs L/\Bl w w'
def BhC (e:Ex):Prop:=∀(g c:Nat) (w:World),c<8->Τ w g e->e.b9<=2^40->Calls prog 152 #[.pointer (some ⟨g,0,none⟩),.int .i64 (c:Int)] w (y3_ (e.behind c) w)
theorem ajr_:BhC .nil:=by
 intro g c w d h a;have b:=h.kind;simp only[Ex.kind,show((0:Nat):Int)=0 from rfl]at b;clear a;go_enter func152,ntmps152;go_wp2_with fail;go_ret;exact⟨_,[],rfl,a8_,trivial,μ⟩
theorem ajs_ (S:Nat->Bool):BhC (.one S):=by
 intro g c w t h l;have C:=h.kind;simp only[Ex.kind,show((1:Nat):Int)=1 from rfl]at C;have i:=(lp_ h t).1;obtain⟨G,v,z,A,B⟩:=info_parts nu_;cases hs:S c
 . rw[hs]at i;rw[show(Ex.one S).behind c=[]by simp[Ex.behind,hs]];clear l h hs;go_enter func152,ntmps152;go_wp2_with fail;go_ret;exact⟨_,[],rfl,a8_,trivial,μ⟩
 . rw[hs]at i;rw[show(Ex.one S).behind c=[.nil]by simp[Ex.behind,hs]];have f:=o6_ w;have q:∀a:World,∀o,(a.alloc o).ownsRow w.heap.size 104 1 (.slice none 0 0) 0 []:=fun a o=>a8_
   clear l h hs;go_enter func152,ntmps152;go_wp2_with (first
    |(go_at_call 153;refine f.mono ?_;rintro e a ⟨s,rfl,j,b⟩;have y:=b.size;have p:=α j;have n:=α b;clear j b f)
    |(at_builtin;refine Υ underlying144 v z A B (q a _) ?_;intro F E D m k u;have r:=α m;have d:Hid (Bl a D):=ξ.grown k i_ (fun x e=>by simp[Value.ownBlock]at e);clear m k u))
   go_ret;exact⟨_,[s],rfl,r.out,⟨p.out.below d.out,trivial⟩,n.out.trans (d.out.mono y)⟩
theorem y4_ (gs:List Nat):∀u∈ba_ gs,u.oneCell'=true:=by
 intro u a;simp only[ba_,mem_map]at a;obtain⟨g,_,rfl⟩:=a;rfl
theorem p9_ {gs:List Nat}(h:w.ownsRow base 104 1 v n (ba_ gs))(hg:gs[i]? =some g):∃a cap,v= .slice (some ⟨a,0,none⟩) n cap/\base<=a/\a<w.heap.size/\w.cell? ⟨a,i,none⟩=some (.pointer (some ⟨g,0,none⟩)):=by
 have p:gs.length=n:=by have:=h.1;rw[ajq_]at this;omega
 have o:i<gs.length:=(gs_.1 hg).1;rcases h.2 with ⟨_,j⟩|⟨a,cap,d,rfl,e,c,k,l,m,f⟩
 . omega
 . refine⟨a,cap,rfl,e,κ c, ?_⟩;rw[cell_of_row w a i _ _ (0,0) c];have b:(d.toList.take (n*1))[i]? =some (ptr g):=by rw[f];simp[ba_,hg]
   rw[getElem?_take_of_lt o_]at b;rw[<-Array.getElem?_toList];exact b
theorem ajt_ (a b:Ex)(iha:BhC a)(ihb:BhC b):BhC (.alt a b):=by
 intro g c w I h Z;have k0:=h.kind;simp only[Ex.kind,show((3:Nat):Int)=3 from rfl]at k0;obtain⟨V,W,q,G,H⟩:=h;obtain⟨F,o⟩:=j4_ q;have X:=κ q;unfold ptr at F o;obtain⟨i0,Y,ad,ae,af⟩:=info_parts nu_;simp only[Ex.b9]at Z;have u:=lt_ a c;have v:=lt_ b c;have m:=iha V c w I G o_;have n:=fun k (hb:Bl w k)=>ihb W c k I (H.below hb) o_
 simp only[Ex.behind];obtain⟨D,z⟩:=δ (a.behind c);obtain⟨E,A⟩:=δ (b.behind c);rw[z.out]at m u ⊢;rw[A.out]at n v ⊢;clear iha ihb q G H z A;go_enter func152,ntmps152;go_wp2_with fail;refine m.mono ?_;clear m;rintro e k ⟨M,f,rfl,J,r,i⟩;have ac:=i.size;have y:=n k i;have d10:=(i.cell (p:=⟨g,10,none⟩) X).trans o;have aa:f.length<=a.b9:=by rw[r.len];exact u
 clear n F o;go_wp2_with fail;refine y.mono ?_;clear y;rintro e N ⟨v2,d,rfl,K,s,j⟩;have ag:=j.size;have ab:d.length<=b.b9:=by rw[s.len];exact v
 have l:=ao_ J j;have S:Hid (ae_ N (f++d) (D++E)):=(r.below j).app s;have U:Hid (∀x,M.ownBlock=some x->w.heap.size<=x):=fun x e=>(l.lt x e).1
 have P:Hid (Bl w N):=i.trans (j.mono ac);obtain⟨n1,B⟩:=δ (f.length);obtain⟨n2,C⟩:=δ (d.length);rw[B.out]at l aa;rw[C.out]at K ab;clear r s i j J u v d10;go_wp2_with (at_builtin;refine y2_ _ rfl _ _ 144 rfl w.heap.size k.heap.size 104 i0 (.pointer none) 8 underlying144 Y ad ae af rfl M n1 (ba_ f) rfl l v2 n2 (ba_ d) rfl K (y4_ d) u_ o_ o_ ?_;intro v' O L t;have T:=α L;have R:Hid (ae_ O (f++d) (D++E)):=S.out.imp (fun _ _ h=>p7_ l t h);have Q:Hid (Bl w O):=P.out.grown t o_ (fun x e=>U.out x e);clear L t);go_ret;refine⟨v',f++d,rfl, ?_,R.out,Q.out⟩;have:=T.out;rw[<-nv_,<-B.out,<-C.out,<-Μ]at this;exact this
theorem aju_ (a:Ex)(iha:BhC a):BhC (.star a):=by
 intro g c w hc h hl;have W:=h.kind;simp only[Ex.kind,show((4:Nat):Int)=4 from rfl]at W;have M:=h;obtain⟨ga,K,L⟩:=h;obtain⟨J,am⟩:=j4_ K;unfold ptr at J;obtain⟨i0,av,ay,az,aA⟩:=info_parts nu_;simp only[Ex.b9]at hl;have R:=lt_ a c;have A:=iha ga c w hc L o_;simp only[Ex.behind];obtain⟨d,H⟩:=δ (a.behind c);rw[H.out]at A R ⊢;clear iha K L H am;go_enter func152,ntmps152;go_wp2_with fail;refine A.mono ?_;clear A;rintro e k ⟨X,ap,rfl,T,D,v⟩;have V:=v.size;have aq:=M.below v;have ah:=α D.len;obtain⟨j,r⟩:=δ (d.length);rw[r.out]at R;have ae:=α D;have I:Hid (k.ownsRow w.heap.size 104 1 X j (ba_ ap)):=by unfold Hid;rw[<-r.out,<-ah.out];exact T
 have aa:=α v;have ak:∃t u,X= .slice t j u:=by
  obtain⟨t,u,e,_⟩:=Β I.out;exact⟨t,u,e⟩
 obtain⟨t,u,rfl⟩:=ak;clear T D v J W M;go_wp2_with fail;go_loopw [5,7,8] (fun l' i' _ wr=>∃(i:Nat) (b:List Nat) (q:Option Addr) (o:Nat),i<=j/\b.length=i/\l'= .slice q i o/\i'= .int .i64 (i:Int)/\wr.ownsRow k.heap.size 104 1 (.slice q i o) i (ba_ b)/\ae_ wr b ((d.take i).map fun x=>x.cF (.star a))/\Bl k wr) (fun _ i' _ _=>j - (intOf i').toNat)
 case atStart=>exact⟨0,[],none,0,o_,rfl,rfl,rfl,a8_,trivial,μ⟩
 case round=>
  obtain⟨i,b,q,o,hi,y,rfl,rfl,z,n,f⟩:=hrel;have ax:=f.size;by_cases aD:i<j
  . have aw:(i:Int)<(j:Int):=o_;have HX:∃x,d[i]? =some x:=⟨d[i]'(by rw[r.out];omega),ge_ _⟩;obtain⟨x,F⟩:=HX;obtain⟨gx,Q,O⟩:=ae.out.get F;obtain⟨ba,aB,hv,aC,ar,P⟩:=p9_ I.out Q;simp only[Value.slice.injEq]at hv;obtain⟨rfl,_,rfl⟩:=hv;have e1:=(f.cell (p:=⟨ba,i,none⟩) ar).trans P;have G:=k1_ gx g x (.star a) wr (O.below f) (aq.below f);have al:Hid ((d.take (i+1)).map (fun x=>x.cF (.star a))=(d.take i).map (fun x=>x.cF (.star a))++ [x.cF (.star a)]):=by
     unfold Hid;rw[take_add_one,F,map_append];rfl
    have s:=α z;have C:=α n;have B:=α f;have ad:=α y;clear z n f y F Q P O;go_wp2_with fail;refine G.mono ?_;clear G;rintro e Y ⟨l,rfl,N,m⟩;have aE:=m.size;have S:=(ao_ s.out m).alloc (.cells #[.pointer (some ⟨l,0,none⟩)] 104);have ag:Hid (ae_ (Y.alloc (.cells #[.pointer (some ⟨l,0,none⟩)] 104)) (b++ [l]) ((d.take (i+1)).map fun x=>x.cF (.star a))):=by
     unfold Hid;rw[al.out];exact((C.out.below m).snoc N).below ξ
    have aj:Hid (∀x,(Value.slice q i o).ownBlock=some x->k.heap.size<=x):=fun x e=>(s.out.lt x e).1
    have ab:Hid (Bl k Y):=B.out.trans (m.mono ax);clear N m e1;go_wp2_with (at_builtin;refine Υ underlying144 av ay az aA S ?_;intro g3 an Z U E au;have ai:=α U;have af:Hid (ae_ Z (b++ [l]) ((d.take (i+1)).map fun x=>x.cF (.star a))):=ag.out.imp (fun _ _ h=>p7_ S E h);have ac:Hid (Bl k Z):=(ab.out.alloc o_ _).grown E s_ (fun x e=>aj.out x e);clear U E au);go_roundw
    case rel=>
     refine⟨i+1,b++ [l],some ⟨g3,0,none⟩,an,o_,by rw[Μ,ad.out];rfl,rfl,by go_num, ?_,af.out,ac.out⟩;rw[nv_];exact ai.out
    case measure=>exact c_
  . have aw:¬(i:Int)<(j:Int):=o_;obtain rfl:i=j:=o_;have s:Hid (wr.ownsRow k.heap.size 104 1 (.slice q i o) b.length (ba_ b)):=by unfold Hid;rw[y];exact z
    have C:Hid (ae_ wr b (d.map fun x=>x.cF (.star a))):=by
     unfold Hid;rw[tk_ (by rw[r.out];omega)]at n;exact n
    have B:Hid (Bl w wr):=aa.out.trans (f.mono V);clear z n f y;go_wp2_with fail;go_ret;exact⟨_,b,rfl,p8_ s.out V,C.out,B.out⟩
theorem ajv_ (a b:Ex)(iha:BhC a)(ihb:BhC b):BhC (.thn a b):=by
 intro g c w hc h hl;have k0:=h.kind;simp only[Ex.kind,show((2:Nat):Int)=2 from rfl]at k0;obtain⟨ga,N,h1,h2,h3⟩:=h;obtain⟨Z,Y⟩:=j4_ h1;have hg:=κ h1;unfold ptr at Z Y;obtain⟨i0,aq,ay,az,aA⟩:=info_parts nu_;simp only[Ex.b9]at hl;have ar:=lt_ a c;have au:=lt_ b c;have Q:=iha ga c w hc h2 o_;have G:∀d,Bl w d->Calls prog 151 #[.pointer (some ⟨ga,0,none⟩)] d fun r w'=>r= .returned (.bool a.empty)/\d=w':=fun d hb=>yx_ a ga d (h2.below hb)
 have F:∀d,Bl w d->Calls prog 152 #[.pointer (some ⟨N,0,none⟩),.int .i64 (c:Int)] d (y3_ (b.behind c) d):=fun d hb=>ihb N c d hc (h3.below hb) o_
 simp only[Ex.behind];obtain⟨ea,ae⟩:=δ (a.empty);obtain⟨LB,ag⟩:=δ (b.behind c);rw[ae.out]at G ⊢;rw[ag.out]at F au ⊢;obtain⟨k,af⟩:=δ (a.behind c);rw[af.out]at Q ar ⊢;clear iha ihb h1 h2 af ag ae;go_enter func152,ntmps152;go_wp2_with fail;refine Q.mono ?_;clear Q;rintro e d ⟨v1,aI,rfl,av,aa,v⟩;have ax:=v.size;have aJ:=h3.below v;have d9:=(v.cell (p:=⟨g,9,none⟩) hg).trans Z;have d10:=(v.cell (p:=⟨g,10,none⟩) hg).trans Y;have ac:g<d.heap.size:=o_;have aD:=α aa.len;obtain⟨m,J⟩:=δ (k.length);rw[J.out]at ar;have aC:=α aa;have ai:Hid (d.ownsRow w.heap.size 104 1 v1 m (ba_ aI)):=by unfold Hid;rw[<-J.out,<-aD.out];exact av
 have aB:=α v;have aE:∃K M,v1= .slice K m M:=by
  obtain⟨K,M,e,_⟩:=Β ai.out;exact⟨K,M,e⟩
 obtain⟨K,M,rfl⟩:=aE;clear av aa v Z Y k0 h3;go_wp2_with fail;go_loopw [5,10,11] (fun l' i' _ wr=>∃(i:Nat) (f:List Nat) (s:Option Addr) (q:Nat),i<=m/\f.length=i/\l'= .slice s i q/\i'= .int .i64 (i:Int)/\wr.ownsRow d.heap.size 104 1 (.slice s i q) i (ba_ f)/\ae_ wr f ((k.take i).map fun x=>x.cF b)/\Bl d wr) (fun _ i' _ _=>m - (intOf i').toNat)
 case atStart=>exact⟨0,[],none,0,o_,rfl,rfl,rfl,a8_,trivial,μ⟩
 case round=>
  obtain⟨i,f,s,q,hi,O,rfl,rfl,P,B,l⟩:=hrel;have aP:=l.size;by_cases aW:i<m
  . have aM:(i:Int)<(m:Int):=o_;have HX:∃x,k[i]? =some x:=⟨k[i]'(by rw[J.out];omega),ge_ _⟩;obtain⟨x,hx⟩:=HX;obtain⟨gx,ap,al⟩:=aC.out.get hx;obtain⟨L,aR,hv,aU,aK,an⟩:=p9_ ai.out ap;simp only[Value.slice.injEq]at hv;obtain⟨rfl,_,rfl⟩:=hv;have e1:=(l.cell (p:=⟨L,i,none⟩) aK).trans an;have y:=k1_ gx N x b wr.drew (al.below l.drew) (aJ.below l.drew);have aF:Hid ((k.take (i+1)).map (fun x=>x.cF b)=(k.take i).map (fun x=>x.cF b)++ [x.cF b]):=by
     unfold Hid;rw[take_add_one,hx,map_append];rfl
    have u:=α P;have HL:=α B;have HB:=α l;have H:=α O;have e2:=(l.cell (p:=⟨g,10,none⟩) ac).trans d10;have aV:(0:Int)<=(i:Int):=o_;clear P B l O hx ap an al d9 d10 F G;go_wp2_with fail;go_region_held3 (fun w'=>w'.cell? ⟨L,i,none⟩=some (.pointer (some ⟨gx,0,none⟩))/\w'.cell? ⟨g,10,none⟩=some (.pointer (some ⟨N,0,none⟩))) (go_keep)
     ((go_at_call 156;refine y.mono ?_;rintro e t ⟨z,rfl,ak,aj⟩;have j:Bl wr t:=(Below.refl wr.heap.size wr).drew.trans aj;have aS:=(j.cell (p:=⟨L,i,none⟩) (by show L<_;omega)).trans e1;have aT:=(j.cell (p:=⟨g,10,none⟩) (by show g<_;omega)).trans e2;clear aj y))
    have aQ:=j.size;have C:=(ao_ u.out j).alloc (.cells #[.pointer (some ⟨z,0,none⟩)] 104);have U:Hid (ae_ (t.alloc (.cells #[.pointer (some ⟨z,0,none⟩)] 104)) (f++ [z]) ((k.take (i+1)).map fun x=>x.cF b)):=by
     unfold Hid;rw[aF.out];exact((HL.out.below j).snoc ak).below ξ
    have X:Hid (∀x,(Value.slice s i q).ownBlock=some x->d.heap.size<=x):=fun x e=>(u.out.lt x e).1
    have R:Hid (Bl d t):=HB.out.trans (j.mono aP);clear ak j e1;go_wp2_with (at_builtin;refine Υ underlying144 aq ay az aA C ?_;intro g3 aG E D o aL;have W:=α D;have I:Hid (ae_ E (f++ [z]) ((k.take (i+1)).map fun x=>x.cF b)):=U.out.imp (fun _ _ h=>p7_ C o h);have S:Hid (Bl d E):=(R.out.alloc o_ _).grown o s_ (fun x e=>X.out x e);clear D o aL);go_roundw
    case rel=>
     refine⟨i+1,f++ [z],some ⟨g3,0,none⟩,aG,o_,by rw[Μ,H.out];rfl,rfl,by go_num, ?_,I.out,S.out⟩;rw[nv_];exact W.out
    case measure=>exact c_
  . have aM:¬(i:Int)<(m:Int):=o_;obtain rfl:i=m:=o_;have am:ae_ wr f (k.map fun x=>x.cF b):=by
     rw[tk_ (by rw[J.out];omega)]at B;exact B
    have A:Bl w wr:=aB.out.trans (l.mono ax);have e9:=(l.cell (p:=⟨g,9,none⟩) ac).trans d9;have aH:=(l.cell (p:=⟨g,10,none⟩) ac).trans d10;have y:=G wr A;have T:=F wr A;have u:Hid (wr.ownsRow w.heap.size 104 1 (.slice s i q) i (ba_ f)):=p8_ P ax;have H:=α O;have V:=α am;have ad:=α A;have aO:=A.size;clear P B l O am A G F d9 d10;go_wp2_with fail;refine y.mono ?_;clear y;rintro e t ⟨rfl,rfl⟩;cases ea
    . clear T;go_wp2_with fail;go_ret;refine⟨_,f,rfl,by rw[H.out];exact u.out, ?_,ad.out⟩;first|exact V.out|simpa using V.out
    . go_wp2_with fail;refine T.mono ?_;clear T;rintro e t ⟨v2,n,rfl,aw,ab,j⟩;have aQ:=j.size;have aN:n.length<=b.b9:=by rw[ab.len];exact au
      have C:=ao_ u.out j;have U:Hid (ae_ t (f++n) ((k.map fun x=>x.cF b)++LB)):=(V.out.below j).app ab;have X:Hid (∀x,(Value.slice s i q).ownBlock=some x->w.heap.size<=x):=fun x e=>(u.out.lt x e).1
      have R:Hid (Bl w t):=ad.out.trans (j.mono aO);obtain⟨n2,ah⟩:=δ (n.length);rw[ah.out]at aw aN;clear ab j e9 aH;go_wp2_with (at_builtin;refine y2_ _ rfl _ _ 144 rfl w.heap.size wr.heap.size 104 i0 (.pointer none) 8 underlying144 aq ay az aA rfl (.slice s i q) i (ba_ f) rfl C v2 n2 (ba_ n) rfl aw (y4_ n) u_ o_ o_ ?_;intro v' E D o;have W:=α D;have I:Hid (ae_ E (f++n) ((k.map fun x=>x.cF b)++LB)):=U.out.imp (fun _ _ h=>p7_ C o h);have S:Hid (Bl w E):=R.out.grown o o_ (fun x e=>X.out x e);clear D o);go_ret;refine⟨v',f++n,rfl, ?_, ?_,S.out⟩
      . have:=W.out;rw[<-nv_,<-H.out,<-ah.out,<-Μ]at this;exact this
      . first|exact I.out|simpa using I.out
theorem ajw_ (e:Ex):BhC e:=by
 induction e with
 |nil=>exact ajr_
 |one S=>exact ajs_ S
 |star a iha=>exact aju_ a iha
 |thn a b iha ihb=>exact ajv_ a b iha ihb
 |alt a b iha ihb=>exact ajt_ a b iha ihb
structure cn_ (w:World)(eo:Option Addr)(ec:Nat)(no:Option Addr)(nc:Nat)(L:List Ex):Prop where
 es:∃gs,w.ownsRow 0 104 1 (.slice eo L.length ec) L.length (ba_ gs)/\ae_ w gs L
 ns:w.ownsRow 0 9 1 (.slice no L.length nc) L.length (Ζ (L.map Ex.nb))
theorem cn_.below {L:List Ex}(h:cn_ w eo ec no nc L)(hb:Bl w w'):cn_ w' eo ec no nc L:=by
 obtain⟨⟨a,b,c⟩,h3⟩:=h;exact⟨⟨a,ao_ b hb,c.below hb⟩,ao_ h3 hb⟩
theorem cn_.nil (w:World):cn_ w none 0 none 0 []:=⟨⟨[],a8_,trivial⟩,a8_⟩
theorem cn_.exp {L:List Ex}(h:cn_ w eo ec no nc L){x:Ex}(hx:L[i]? =some x):∃a g,eo=some ⟨a,0,none⟩/\a<w.heap.size/\w.cell? ⟨a,i,none⟩=some (.pointer (some ⟨g,0,none⟩))/\Τ w g x:=by
 obtain⟨⟨l,b,c⟩,_⟩:=h;obtain⟨g,f,d⟩:=c.get hx;obtain⟨a,k,hv,_,j,e⟩:=p9_ b f;simp only[Value.slice.injEq]at hv;exact⟨a,g,hv.1,j,e,d⟩
theorem cn_.name {L:List Ex}(h:cn_ w eo ec no nc L){x:Ex}(hx:L[i]? =some x):∃a,no=some ⟨a,0,none⟩/\a<w.heap.size/\w.cell? ⟨a,i,none⟩=some (.string x.nb):=by
 have b:=h.ns;have j:L.length=(L.map Ex.nb).length:=i_;have c:w.ownsRow 0 9 1 (.slice no L.length nc) (L.map Ex.nb).length (Ζ (L.map Ex.nb)):=by rw[<-j];exact b
 obtain⟨g,d,_,_,e,f⟩:=rp_ c (i:=i) (y:=x.nb) (by simp[hx]);exact⟨g,d,e,f⟩
theorem ajx_ {a b:Ex}(ha:a.can)(hb:b.can)(h:a.nb=b.nb):a=b:=vg_ ha hb (by rw[<-h0_,<-h0_,h])
theorem ajy_ (w:World)(eo no:Option Addr)(ec nc:Nat)(L:List Ex)(h:cn_ w eo ec no nc L)(hl:L.length<=2^20):Calls prog 115 #[.agg #[.slice eo L.length ec,.slice no L.length nc]] w fun r w'=>r= .returned (.bool (L.any Ex.empty))/\Bl w w':=by
 obtain⟨c,p⟩:=δ (L.any Ex.empty);rw[p.out];obtain⟨n,l⟩:=δ (L.length);rw[l.out]at hl ⊢;obtain⟨W,t,d,-,q⟩:=ν w #[.slice eo n ec,.slice no n nc] 146;obtain⟨F,G,_,_⟩:=β q;have v:=α h;clear h q;go_enter func115,ntmps115;go_upto_region 1 with fail;rw[<-t];clear t;go_wp2_with fail;go_loop [3,4] (fun i' _=>∃i:Nat,i<=n/\i'= .int .i64 (i:Int)/\Hid ((L.drop i).any Ex.empty=c)) (fun i' _=>n - (intOf i').toNat)
 case atStart=>exact⟨0,o_,rfl,p⟩
 case round=>
  obtain⟨i,D,rfl,j⟩:=hrel;by_cases z:i<n
  . have A:(i:Int)<(n:Int):=o_;have m:i<L.length:=by rw[l.out];exact z
    obtain⟨x,b⟩:∃x,L[i]? =some x:=⟨L[i],ge_ m⟩;obtain⟨a,g,rfl,B,C,s⟩:=(v.out.below d).exp b;have f:=yx_ x g W s;have k:Hid ((x.empty||(L.drop (i+1)).any Ex.empty)=c):=by
     unfold Hid;rw[<-j.out,drop_eq_getElem_cons m,any_cons];rw[ge_ m]at b;simp only[Δ]at b;rw[b]
    obtain⟨y,u⟩:=δ (x.empty);rw[u.out]at f k;clear j s b;go_wp2_with fail;refine f.mono ?_;clear f;rintro e E ⟨rfl,rfl⟩;cases y
    . go_wp2_with fail;go_round
      case rel=>exact⟨i+1,o_,by go_num,by unfold Hid;rw[<-k.out];rfl⟩
      case measure=>exact c_
    . have o:c=true:=by rw[<-k.out];rfl
      subst o;go_wp2_with fail;go_ret;exact⟨rfl,d⟩
  . have A:¬(i:Int)<(n:Int):=o_;have o:c=false:=by rw[<-j.out,drop_of_length_le (by rw[l.out];omega)];rfl
    subst o;go_wp2_with fail;go_ret;exact⟨rfl,d⟩
theorem ajz_ {L M:List Ex}(hL:∀x∈L,x.can)(hM:∀x∈M,x.can)(h:L.map Ex.nb=M.map Ex.nb):L=M:=by
 induction L generalizing M with
 |nil=>cases M with
  |nil=>rfl
  |cons y M=>simp at h
 |cons x L ih=>
  cases M with
  |nil=>simp at h
  |cons y M=>
   simp only[map_cons,List.cons.injEq]at h;rw[ajx_ (hL x i_) (hM y i_) h.1,ih (fun z hz=>hL z (by simp[hz])) (fun z hz=>hM z (by simp[hz])) h.2]
noncomputable def iw_ (L M:List Ex):Bool:=decide (L.map Ex.nb=M.map Ex.nb)
theorem aj0_ {L M:List Ex}(h:L.map Ex.nb=M.map Ex.nb):iw_ L M=true:=decide_eq_true h
theorem aj1_ {L M:List Ex}(h:L.map Ex.nb≠M.map Ex.nb):iw_ L M=false:=decide_eq_false h
theorem aj2_ {L M:List Ex}(hL:∀x∈L,x.can)(hM:∀x∈M,x.can):iw_ L M=true↔L=M:=by
 unfold iw_;rw[decide_eq_true_eq];exact⟨ajz_ hL hM,fun h=>by rw[h]⟩
theorem aj3_ (w:World)(eo no fo po:Option Addr)(ec nc fc pc:Nat)(L M:List Ex)(h:cn_ w eo ec no nc L)(h':cn_ w fo fc po pc M)(hl:L.length<=2^20)(hm:M.length<=2^20):
 Calls prog 117 #[.agg #[.slice eo L.length ec,.slice no L.length nc],.agg #[.slice fo M.length fc,.slice po M.length pc]] w fun r w'=>r= .returned (.bool (iw_ L M))/\Bl w w':=by
 have F:Hid (L.map Ex.nb=M.map Ex.nb->iw_ L M=true):=aj0_;have k:Hid (∀i:Nat,(L.map Ex.nb)[i]? ≠(M.map Ex.nb)[i]? ->iw_ L M=false):=fun i I=>aj1_ (fun e=>I (by rw[e]))
 obtain⟨B,O⟩:=δ (iw_ L M);rw[O.out]at F k ⊢;obtain⟨n,c⟩:=δ (L.length);obtain⟨m,b⟩:=δ (M.length);rw[c.out,b.out];rw[c.out]at hl;rw[b.out]at hm;obtain⟨W,s,z,H,A⟩:=bl_ w #[.slice eo n ec,.slice no n nc] 146 #[.slice fo m fc,.slice po m pc] 146;obtain⟨x0,x1,_,_⟩:=β H;obtain⟨y0,y1,_,_⟩:=β A;have Y:=κ A;have P:=α h;have Q:Hid (cn_ w fo fc po pc M):=h';clear h h' H A;by_cases J:n=m
 . have K:((n:Int)==(m:Int))=true:=s_;subst J;clear K;go_enter func117,ntmps117;go_upto_region 1 with fail;rw[<-s];clear s;go_wp2_with fail;go_loopw [5] (fun i' wr=>∃(i:Nat),i<=n/\i'= .int .i64 (i:Int)/\Hid ((L.map Ex.nb).take i=(M.map Ex.nb).take i)/\Bl W wr) (fun i' _=>n - (intOf i').toNat)
   case atStart=>exact⟨0,o_,rfl,rfl,μ⟩
   case round=>
    obtain⟨i,I,rfl,o,q⟩:=hrel;have ab:=(q.cell (p:=⟨w.heap.size,1,none⟩) (by show w.heap.size<_;omega)).trans x1;have ac:=(q.cell (p:=⟨w.heap.size+1,1,none⟩) Y).trans y1;have j:Bl w wr:=z.trans (q.mono z.size);by_cases t:i<n
    . have X:(i:Int)<(n:Int):=o_;have S:i<L.length:=by rw[c.out];exact t
      have T:i<M.length:=by rw[b.out];exact t
      obtain⟨x,C⟩:∃x,L[i]? =some x:=⟨L[i],getElem?_eq_getElem S⟩;obtain⟨y,D⟩:∃x,M[i]? =some x:=⟨M[i],getElem?_eq_getElem T⟩;obtain⟨a,rfl,ha,U⟩:=(P.out.below j).name C;obtain⟨a',rfl,aa,V⟩:=(Q.out.below j).name D;have f:=g3_ x.nb y.nb;have d:Hid ((L.map Ex.nb)[i]? =some x.nb/\(M.map Ex.nb)[i]? =some y.nb):=⟨by simp[C],by simp[D]⟩;obtain⟨v,E⟩:=δ (x.nb);obtain⟨N,G⟩:=δ (y.nb);rw[E.out]at U f d;rw[G.out]at V f d;clear C D E G;by_cases u:v=N
      . subst u;have Z:(v.toList==v.toList)=true:=by rw[f];simp
        have R:Hid ((L.map Ex.nb).take (i+1)=(M.map Ex.nb).take (i+1)):=by
         unfold Hid;rw[take_add_one,take_add_one,o.out,d.out.1,d.out.2]
        clear f o;go_wp2_with fail;go_quiet (fail);go_wp2_with fail;go_roundw
        case rel=>exact⟨i+1,o_,by go_num,R,below_drewN q nq⟩
        case measure=>exact c_
      . have Z:(v.toList==N.toList)=false:=by rw[f];simp[u]
        have g:B=false:=k.out i (by rw[d.out.1,d.out.2];simp[u]);subst g;clear f o u;go_wp2_with fail;go_quiet (fail);go_wp2_with fail;go_ret;exact⟨rfl,below_drewN j nq⟩
    . have X:¬(i:Int)<(n:Int):=o_;have g:B=true:=by
       apply F.out;have:=o.out;rw[take_of_length_le (by rw[length_map,c.out];omega),take_of_length_le (by rw[length_map,b.out];omega)]at this;exact this
      subst g;go_wp2_with fail;go_ret;exact⟨rfl,j⟩
 . have K:((n:Int)==(m:Int))=false:=s_;have g:B=false:=by
    rcases Nat.lt_or_gt_of_ne J with t|t
    . apply k.out n;rw[getElem?_eq_none (by simp[c.out]),getElem?_eq_getElem (by simp[b.out];omega)];simp
    . apply k.out m;rw[getElem?_eq_none (l:=M.map Ex.nb) (by simp[b.out]),getElem?_eq_getElem (by simp[c.out];omega)];simp
   subst g;go_enter func117,ntmps117;go_upto_region 1 with fail;rw[<-s];clear s;go_wp2_with fail;go_ret;exact⟨rfl,z⟩
def gh_ (W:World)(b:Nat)(w:World)(O:List Ex):Prop:=∃v0 v1 gs,cd_ W b 146 104 1 9 1 w v0 v1 O.length O.length (ba_ gs) (Ζ (O.map Ex.nb))/\ae_ w gs O
def e8_ (W:World)(b:Nat)(w:World)(O:List Ex)(e:Ex):Prop:=∃v0 v1 gs,cd_ W b 146 104 1 9 1 w v0 v1 (O.length+1) O.length (ba_ gs) (Ζ (O.map Ex.nb))/\ae_ w gs (O++ [e])
theorem ss_ (hb:w.heap[b]? =some (.cells #[x,y] 146 (0,0))){e:Ex}(h:Τ w g e):Τ (w.setCell ⟨b,i,none⟩ u) g e:=by
 have j:∀(k:Nat) (l:Array Value),w.heap[k]? =some (.cells l 199 (0,0))->(w.setCell ⟨b,i,none⟩ u).heap[k]? =some (.cells l 199 (0,0)):=by
  intro k l o;refine a3_ o ?_;intro e;simp only at e;subst e;rw[hb]at o;simp at o
 induction e generalizing g with
 |nil=>exact j _ _ h
 |one S=>exact j _ _ h
 |thn a b iha ihb=>obtain⟨c,m,d,f,n⟩:=h;exact⟨c,m,j _ _ d,iha f,ihb n⟩
 |alt a b iha ihb=>obtain⟨c,m,d,f,n⟩:=h;exact⟨c,m,j _ _ d,iha f,ihb n⟩
 |star a iha=>obtain⟨c,d,f⟩:=h;exact⟨c,j _ _ d,iha f⟩
theorem y5_ {t:Nat}(ho:w.ownsRow base t s v n xs)(ht:t≠199)(hg:w.grownBy w' v.ownBlock){e:Ex}(h:Τ w g e):Τ w' g e:=by
 have i:∀(b:Nat) (j:Array Value),w.heap[b]? =some (.cells j 199 (0,0))->w'.heap[b]? =some (.cells j 199 (0,0)):=by
  intro b j m;rw[hg.block b (κ m) ?_,m];intro e;rcases ho.2 with ⟨rfl,_⟩|⟨a,o,p,rfl,_,c,_⟩
  . simp[Value.ownBlock]at e
  . simp only[Value.ownBlock,Δ]at e;subst e;rw[m]at c;simp at c;exact ht c.2.symm
 induction e generalizing g with
 |nil=>exact i _ _ h
 |one S=>exact i _ _ h
 |thn a b iha ihb=>obtain⟨d,k,c,f,l⟩:=h;exact⟨d,k,i _ _ c,iha f,ihb l⟩
 |alt a b iha ihb=>obtain⟨d,k,c,f,l⟩:=h;exact⟨d,k,i _ _ c,iha f,ihb l⟩
 |star a iha=>obtain⟨d,c,f⟩:=h;exact⟨d,i _ _ c,iha f⟩
section
variable {W w w2:World} {b:Nat} {v0 v1:Value} {gs:List Nat} {O:List Ex} {e:Ex}
theorem l9_ (h:cd_ W b 146 104 1 9 1 w v0 v1 O.length O.length (ba_ gs) (Ζ (O.map Ex.nb)))(hE:ae_ w gs O){k:Nat}(he:Τ w k e)
 (hown:w2.ownsRow (b+1) 104 1 (.slice (some ⟨g,0,none⟩) (O.length+1) cap) (O.length+1) (ba_ gs++ [.pointer (some ⟨k,0,none⟩)])) (hg:w.grownBy w2 v0.ownBlock) (hf:v0.ownBlock=some g\/g=w.heap.size):
 e8_ W b (w2.setCell ⟨b,0,none⟩ (.slice (some ⟨g,0,none⟩) (O.length+1) cap)) O e:=by
 refine⟨_,_,gs++ [k],h.eE (by rw[nv_];exact hown) hg hf, ?_⟩;exact(hE.snoc he).imp (fun _ _ hx=>ss_ (h.cM hg) (y5_ h.cB d_ hg hx))
theorem ma_ (h:cd_ W b 146 104 1 9 1 w v0 v1 (O.length+1) O.length (ba_ gs) (Ζ (O.map Ex.nb)))(hE:ae_ w gs (O++ [e]))
 (hown:w2.ownsRow (b+1) 9 1 (.slice (some ⟨g,0,none⟩) (O.length+1) cap) (O.length+1) (Ζ (O.map Ex.nb)++ [.string e.nb])) (hg:w.grownBy w2 v1.ownBlock) (hf:v1.ownBlock=some g\/g=w.heap.size):
 gh_ W b (w2.setCell ⟨b,1,none⟩ (.slice (some ⟨g,0,none⟩) (O.length+1) cap)) (O++ [e]):=by
 have a:(O++ [e]).length=O.length+1:=i_;refine⟨v0,.slice (some ⟨g,0,none⟩) (O.length+1) cap,gs, ?_, ?_⟩
 . rw[a,map_append,show [e].map Ex.nb=[e.nb]from rfl,<-it_];exact h.eD hown hg hf
 . exact hE.imp (fun _ _ hx=>ss_ (h.cN hg) (y5_ h.cA d_ hg hx))
end
structure fv_ (L:List Ex)(e:Ex)(i:Nat)(b:Bool)(O:List Ex):Prop where
 all:cm_ L e=O++(if b then L.drop i else cm_ (L.drop i) e)
 pre:b=false->O=L.take i
 ne:b=true->∀x∈L.drop i,x.nm≠e.nm
 len:O.length<=i+1
theorem fv_.start (L:List Ex)(e:Ex):fv_ L e 0 false []:=⟨i_,fun _=>rfl,fun h=>by simp at h,i_⟩
section
variable {L:List Ex} {e x:Ex} {i:Nat} {b:Bool} {O:List Ex}
theorem st_ (hx:L[i]? =some x):L.drop i=x::L.drop (i+1):=by
 have a:=(gs_.1 hx).1;rw[drop_eq_getElem_cons a];rw[ge_ a]at hx;simp at hx;rw[hx]
theorem fv_.eq (h:fv_ L e i b O)(hx:L[i]? =some x)(hn:x.nm=e.nm):cm_ L e=L:=by
 have a:=st_ hx;cases b with
 |true=>exact absurd hn (h.ne rfl x (by rw[a];simp))
 |false=>
  have:=h.all;rw[a]at this;simp only[ft_,if_false,cm_,if_pos hn]at this;rw[this,h.pre rfl,<-a,take_append_drop]
theorem fv_.ins (h:fv_ L e i false O)(hs:ds_ L)(hx:L[i]? =some x)(hn:x.nm≠e.nm)(hl:Op.bytesLess e.nm x.nm=true):fv_ L e (i+1) true ((O++ [e])++ [x]):=by
 have b:=st_ hx;refine⟨?_,fun h=>by simp at h,fun _ y hy=> ?_, ?_⟩
 . have:=h.all;rw[b]at this;simp only[ft_,if_false,cm_,if_neg hn,if_pos hl]at this;rw[this];simp
 . have c:ds_ (L.drop i):=List.Pairwise.sublist (drop_sublist i L) hs;rw[b]at c;have f:=(pairwise_cons.1 c).1 y hy;intro d;have a:=nk_ _ _ _ hl f;rw[d,l1_]at a;simp at a
 . have:=h.pre rfl;have g:=(gs_.1 hx).1;have:O.length<=i:=by rw[this,length_take];omega
   simp;omega
theorem fv_.step (h:fv_ L e i b O)(hx:L[i]? =some x)(hn:x.nm≠e.nm)(hl:b=true\/Op.bytesLess e.nm x.nm=false):fv_ L e (i+1) b (O++ [x]):=by
 have a:=st_ hx;refine⟨?_,fun hb=> ?_,fun hb y hy=>h.ne hb y (by rw[a];simp[hy]), ?_⟩
 . have:=h.all;rw[a]at this;cases b with
   |true=>simp only[if_true]at this ⊢;rw[this];simp
   |false=>
    have hl:Op.bytesLess e.nm x.nm=false:=by rcases hl with hl|hl<;>simp_all
    simp only[ft_,if_false,cm_,if_neg hn,hl]at this ⊢;rw[this];simp
 . rw[h.pre hb,take_add_one,hx];rfl
 . have:=h.len;simp;omega
theorem fv_.fin (h:fv_ L e i b O)(hi:L.length<=i):cm_ L e=if b then O else O++ [e]:=by
 have:=h.all;rw[drop_of_length_le hi]at this;cases b<;>simpa [cm_] using this
end
def mb_ (L:List Ex)(w:World)(r:Ending)(w':World):Prop:=∃eo ec no nc,r= .returned (.agg #[.slice eo L.length ec,.slice no L.length nc])/\cn_ w' eo ec no nc L/\Bl w w'
theorem su_ (a b:Ex):Op.bytesLess a.nb.toList b.nb.toList=Op.bytesLess a.nm b.nm:=by
 rw[ByteArray.toList_eq,ByteArray.toList_eq];simp[Ex.nb]
theorem aj4_ (a b:Ex):(a.nb.toList==b.nb.toList)=decide (a.nm=b.nm):=by
 rw[ByteArray.toList_eq,ByteArray.toList_eq];simp only[Ex.nb];rw[Bool.eq_iff_iff];simp
theorem gh_.rs {O:List Ex}(h:gh_ W b w O):∃eo ec no nc,w.heap[b]? =some (.cells #[.slice eo O.length ec,.slice no O.length nc] 146 (0,0))/\cn_ w eo ec no nc O/\Below b W w:=by
 obtain⟨d,e,a,h,c⟩:=h;obtain⟨eo,ec,rfl,_⟩:=Β h.cB;obtain⟨no,nc,rfl,_⟩:=Β h.cA;exact⟨eo,ec,no,nc,h.cg,⟨⟨a,p8_ h.cB o_,c⟩,p8_ h.cA o_⟩,h.cz⟩
theorem cn_.set {L:List Ex}(h:cn_ w eo ec no nc L)(hb:w.heap[b]? =some (.cells #[x,y] 146 (0,0))):cn_ (w.setCell ⟨b,i,none⟩ u) eo ec no nc L:=by
 obtain⟨⟨o,p,q⟩,h3⟩:=h;have j:∀ {t n:Nat} {v:Value} {d:List Value},t≠146->w.ownsRow 0 t 1 v n d->(w.setCell ⟨b,i,none⟩ u).ownsRow 0 t 1 v n d:=by
  intro t n v d s f;refine⟨f.1, ?_⟩;rcases f.2 with c|⟨g,k,l,c,m,a,r⟩
  . exact .inl c
  . refine .inr ⟨g,k,l,c,m,a3_ a ?_,r⟩;intro e;simp only at e;subst e;rw[hb]at a;simp at a;exact s a.2.symm
 exact⟨⟨o,j d_ p,q.imp (fun _ _ hx=>ss_ hb hx)⟩,j d_ h3⟩
theorem y6_ (w:World)(eo no:Option Addr)(ec nc:Nat)(L:List Ex)(g:Nat)(e:Ex)(h:cn_ w eo ec no nc L)(he:Τ w g e)(hs:ds_ L)(hl:L.length<=2^20)(hz:e.nm.length<=2^60):
 Calls prog 114 #[.agg #[.slice eo L.length ec,.slice no L.length nc],.pointer (some ⟨g,0,none⟩)] w (mb_ (cm_ L e) w):=by
 obtain⟨iE,aj,al,am,an⟩:=info_parts nu_;obtain⟨iS,ak,ao,ap,aq⟩:=info_parts vv_;obtain⟨n,HN⟩:=δ (L.length);rw[HN.out]at hl ⊢;obtain⟨W,hW,BW,b0,b1⟩:=bl_ w #[.slice eo n ec,.slice no n nc] 146 #[.slice none 0 0,.slice none 0 0] 146;have aN:=κ b1;have HC:=ajn_ e g W (he.below BW) hz;have HR:=α h;have HE:=α he;have HS:=α hs;clear h he hs hz;go_enter func114,ntmps114;go_upto_region 1 with fail;rw[<-hW];clear hW;go_wp2_with fail;refine HC.mono ?_;clear HC;rintro r w3 ⟨rfl,az⟩;have aP:=az.size;obtain⟨j,av,-,-,-⟩:=ν w3 #[.slice none 0 0,.slice none 0 0] 146;have B4:Bl w j:=by rw[av];exact(BW.trans (az.mono o_)).alloc o_ _
 have aF:Bl W j:=by rw[av];exact az.alloc o_ _
 have d0:=(aF.block _ o_).trans b0;have d1:=(aF.block _ aN).trans b1;have d2:=aw_ av;have aO:=κ d2;obtain⟨c,aB⟩:=δ (w3.heap.size);have hO:gh_ j c j []:=by
  rw[<-aB.out];exact⟨.slice none 0 0,.slice none 0 0,[],⟨μ,d2,a8_,a8_,fun g h=>by simp[Value.ownBlock]at h⟩,trivial⟩
 have aH:=α hO;rw[aB.out]at aO aP;clear hO d2 b0 b1 az;go_upto_region 3 with fail;rw[<-av];rw[aB.out];clear av;go_wp2_with fail;go_loopw [7,8] (fun b' i' wr=>∃(i:Nat) (b:Bool) (O:List Ex),i<=n/\b'= .bool b/\i'= .int .i64 (i:Int)/\Hid (gh_ j c wr O)/\Hid (fv_ L e i b O)) (fun _ i' _=>n - (intOf i').toNat)
 case atStart=>exact⟨0,false,[],o_,rfl,rfl,aH,fv_.start L e⟩
 case round=>
  clear aH;obtain⟨i,b,O,hi,rfl,rfl,HO,X⟩:=hrel;have aQ:O.length<=i+1:=X.out.len;have aD:Below c j wr:=by obtain⟨_,_,_,h,_⟩:=HO.out;exact h.cz
  have aR:c<wr.heap.size:=by obtain⟨_,_,_,h,_⟩:=HO.out;exact κ h.cg
  have BV:=η B4 aD;obtain⟨P,Q,_,_⟩:=β ((aD.block _ o_).trans d0);by_cases aL:i<n
  . have aM:(i:Int)<(n:Int):=o_;have hL:i<L.length:=by rw[HN.out];exact aL
    obtain⟨x,hx⟩:∃x,L[i]? =some x:=⟨L[i],ge_ hL⟩;obtain⟨Z,rfl,ax,ai⟩:=HR.out.name hx;obtain⟨ea,G,rfl,aI,aE,ar⟩:=HR.out.exp hx;have cn:=(BV.cell (p:=⟨Z,i,none⟩) ax).trans ai;have cx:=(BV.cell (p:=⟨ea,i,none⟩) aI).trans aE;have ss:=aj4_ x e;have sl:=su_ e x;by_cases Y:x.nm=e.nm
    . have q1:(x.nb.toList==e.nb.toList)=true:=by rw[ss];simp[Y]
      have ac:Hid (cm_ L e=L):=X.out.eq hx Y;have H:=(aD.block _ o_).trans d1;obtain⟨r0,r1,r2,r3⟩:=β H;obtain⟨s0,s1,s2,s3⟩:=β (cb_ (u:= .slice (some ⟨ea,0,none⟩) n ec) H);obtain⟨t0,t1,t2,t3⟩:=β (fr_ (u:= .slice (some ⟨Z,0,none⟩) n nc) (cb_ (u:= .slice (some ⟨ea,0,none⟩) n ec) H));have HP:Hid (mb_ L w (.returned (.agg #[.slice (some ⟨ea,0,none⟩) n ec,.slice (some ⟨Z,0,none⟩) n nc])) ((wr.setCell ⟨w.heap.size+1,0,none⟩ (.slice (some ⟨ea,0,none⟩) n ec)).setCell ⟨w.heap.size+1,1,none⟩ (.slice (some ⟨Z,0,none⟩) n nc))):=by
       refine⟨some ⟨ea,0,none⟩,ec,some ⟨Z,0,none⟩,nc,by rw[HN.out], ?_, ?_⟩
       . exact((HR.out.below BV).set H).set (cb_ H)
       . exact(BV.setCell (p:=⟨w.heap.size+1,0,none⟩) (le_succ _) _).setCell (p:=⟨w.heap.size+1,1,none⟩) (le_succ _) _
      clear ss sl hx Y X H ai aE ar cx;go_wp2_with fail;refine bodyPost_ret (v:= .agg #[.slice (some ⟨ea,0,none⟩) n ec,.slice (some ⟨Z,0,none⟩) n nc]) (by simp[results,results114,go_sem,t0,t1]) rfl ?_;unfold Hid at ac;rw[ac];exact HP.out
    . have q1:(x.nb.toList==e.nb.toList)=false:=by rw[ss];simp[Y]
      cases hlb:Op.bytesLess e.nm x.nm
      . rw[hlb]at sl;have sg:Op.bytesLess x.nb.toList e.nb.toList=true:=by rw[su_];exact pp_ _ _ hlb (fun e=>Y e.symm)
        have ae:Hid (fv_ L e (i+1) b (O++ [x])):=X.out.step hx Y (.inr hlb);clear ss hx Y X hlb;cases b
        . obtain⟨s,t,k,a,l⟩:=HO.out;obtain⟨C,D,E,F⟩:=β a.cg;have I:=κ a.cg;have d:Hid (cd_ j c 146 104 1 9 1 (wr.alloc (.cells #[.pointer (some ⟨G,0,none⟩)] 104)).drew s t O.length O.length (ba_ k) (Ζ (O.map Ex.nb))):=a.below ξ.drew;have q:Hid (ae_ (wr.alloc (.cells #[.pointer (some ⟨G,0,none⟩)] 104)).drew k O):=l.below ξ.drew;have M:Hid (Τ (wr.alloc (.cells #[.pointer (some ⟨G,0,none⟩)] 104)).drew G x):=(ar.below BV).below ξ.drew;have N:=d.out.cB;clear a l;go_upto_region 13 with fail;go_cut [] (fun wc=>e8_ j c wc O x)
          case first=>
           go_region_law
            ((refine step_append_lies _ (by rfl) _ _ _ (by rfl) (c+1) 104 iE (.pointer none) 1 8 underlying144 aj al am an rfl d_ s O.length (ba_ k) (by rfl) N ⟨wr.heap.size,0,none⟩ 1 1 [.pointer (some ⟨G,0,none⟩)] (by rfl) (by rfl) (cell_one_new _ _ _) (gt_ rfl) d_ u_ o_ s_ (wr.heap.size+1) i_ ?_;intro A z B o f m ag;obtain⟨f0,f1,f2,f3⟩:=β (d.out.cM f);have y:Hid (e8_ j c (B.setCell ⟨c,0,none⟩ (.slice (some ⟨A,0,none⟩) (O.length+1) z)) O x):=l9_ d.out q.out M.out o f (m.imp id (fun e=>by rw[e];simp));clear o f m))
           all_goals go_wp2_with fail
           all_goals go_meet
           all_goals exact y.out
          case rest=>
           have R:Hid (e8_ j c wc O x):=hcut;clear hcut d q M N C D E F I P Q;obtain⟨s,t,k,a,l⟩:=R.out;obtain⟨C,D,E,F⟩:=β a.cg;obtain⟨P,Q,_,_⟩:=β ((a.cz.block _ o_).trans d0);have I:=κ a.cg;have V:=η B4 a.cz;have aC:=(V.cell (p:=⟨Z,i,none⟩) ax).trans ai;have d:Hid (cd_ j c 146 104 1 9 1 (wc.alloc (.cells #[.string x.nb] 9)).drew s t (O.length+1) O.length (ba_ k) (Ζ (O.map Ex.nb))):=a.below ξ.drew;have q:Hid (ae_ (wc.alloc (.cells #[.string x.nb] 9)).drew k (O++ [x])):=l.below ξ.drew;have U:=d.out.cA;clear a l;go_upto_region 14 with fail;go_region_law
            ((refine step_append_lies _ (by rfl) _ _ _ (by rfl) (c+1) 9 iS (.string ByteArray.empty) 1 16 underlying56 ak ao ap aq rfl d_ t O.length (Ζ (O.map Ex.nb)) (by rfl) U ⟨wc.heap.size,0,none⟩ 1 1 [.string x.nb] (by rfl) (by rfl) (cell_one_new _ _ _) (gt_ rfl) d_ u_ o_ s_ (wc.heap.size+1) i_ ?_;intro A z B o f m ag;obtain⟨f0,f1,f2,f3⟩:=β (d.out.cN f);have y:Hid (gh_ j c (B.setCell ⟨c,1,none⟩ (.slice (some ⟨A,0,none⟩) (O.length+1) z)) (O++ [x])):=ma_ d.out q.out o f (m.imp id (fun e=>by rw[e];simp));clear o f m))
           all_goals go_wp2_with fail
           all_goals
            go_roundw
            case rel=>exact⟨i+1,false,(O++ [x]),o_,rfl,by go_num,y,ae⟩
            case measure=>exact c_
        . skip;obtain⟨s,t,k,a,l⟩:=HO.out;obtain⟨C,D,E,F⟩:=β a.cg;have I:=κ a.cg;have d:Hid (cd_ j c 146 104 1 9 1 (wr.alloc (.cells #[.pointer (some ⟨G,0,none⟩)] 104)).drew s t O.length O.length (ba_ k) (Ζ (O.map Ex.nb))):=a.below ξ.drew;have q:Hid (ae_ (wr.alloc (.cells #[.pointer (some ⟨G,0,none⟩)] 104)).drew k O):=l.below ξ.drew;have M:Hid (Τ (wr.alloc (.cells #[.pointer (some ⟨G,0,none⟩)] 104)).drew G x):=(ar.below BV).below ξ.drew;have N:=d.out.cB;clear a l;go_upto_region 13 with fail;go_cut [] (fun wc=>e8_ j c wc O x)
          case first=>
           go_region_law
            ((refine step_append_lies _ (by rfl) _ _ _ (by rfl) (c+1) 104 iE (.pointer none) 1 8 underlying144 aj al am an rfl d_ s O.length (ba_ k) (by rfl) N ⟨wr.heap.size,0,none⟩ 1 1 [.pointer (some ⟨G,0,none⟩)] (by rfl) (by rfl) (cell_one_new _ _ _) (gt_ rfl) d_ u_ o_ s_ (wr.heap.size+1) i_ ?_;intro A z B o f m ag;obtain⟨f0,f1,f2,f3⟩:=β (d.out.cM f);have y:Hid (e8_ j c (B.setCell ⟨c,0,none⟩ (.slice (some ⟨A,0,none⟩) (O.length+1) z)) O x):=l9_ d.out q.out M.out o f (m.imp id (fun e=>by rw[e];simp));clear o f m))
           all_goals go_wp2_with fail
           all_goals go_meet
           all_goals exact y.out
          case rest=>
           have R:Hid (e8_ j c wc O x):=hcut;clear hcut d q M N C D E F I P Q;obtain⟨s,t,k,a,l⟩:=R.out;obtain⟨C,D,E,F⟩:=β a.cg;obtain⟨P,Q,_,_⟩:=β ((a.cz.block _ o_).trans d0);have I:=κ a.cg;have V:=η B4 a.cz;have aC:=(V.cell (p:=⟨Z,i,none⟩) ax).trans ai;have d:Hid (cd_ j c 146 104 1 9 1 (wc.alloc (.cells #[.string x.nb] 9)).drew s t (O.length+1) O.length (ba_ k) (Ζ (O.map Ex.nb))):=a.below ξ.drew;have q:Hid (ae_ (wc.alloc (.cells #[.string x.nb] 9)).drew k (O++ [x])):=l.below ξ.drew;have U:=d.out.cA;clear a l;go_upto_region 14 with fail;go_region_law
            ((refine step_append_lies _ (by rfl) _ _ _ (by rfl) (c+1) 9 iS (.string ByteArray.empty) 1 16 underlying56 ak ao ap aq rfl d_ t O.length (Ζ (O.map Ex.nb)) (by rfl) U ⟨wc.heap.size,0,none⟩ 1 1 [.string x.nb] (by rfl) (by rfl) (cell_one_new _ _ _) (gt_ rfl) d_ u_ o_ s_ (wc.heap.size+1) i_ ?_;intro A z B o f m ag;obtain⟨f0,f1,f2,f3⟩:=β (d.out.cN f);have y:Hid (gh_ j c (B.setCell ⟨c,1,none⟩ (.slice (some ⟨A,0,none⟩) (O.length+1) z)) (O++ [x])):=ma_ d.out q.out o f (m.imp id (fun e=>by rw[e];simp));clear o f m))
           all_goals go_wp2_with fail
           all_goals
            go_roundw
            case rel=>exact⟨i+1,true,(O++ [x]),o_,rfl,by go_num,y,ae⟩
            case measure=>exact c_
      . rw[hlb]at sl;have sg:Op.bytesLess x.nb.toList e.nb.toList=false:=by rw[su_];exact l2_ hlb
        cases b
        . have ae:Hid (fv_ L e (i+1) true ((O++ [e])++ [x])):=X.out.ins HS.out hx Y hlb;clear ss hx Y X hlb;obtain⟨s,t,k,a,l⟩:=HO.out;obtain⟨C,D,E,F⟩:=β a.cg;have I:=κ a.cg;have d:Hid (cd_ j c 146 104 1 9 1 (wr.alloc (.cells #[.pointer (some ⟨g,0,none⟩)] 104)) s t O.length O.length (ba_ k) (Ζ (O.map Ex.nb))):=a.below ξ;have q:Hid (ae_ (wr.alloc (.cells #[.pointer (some ⟨g,0,none⟩)] 104)) k O):=l.below ξ;have M:Hid (Τ (wr.alloc (.cells #[.pointer (some ⟨g,0,none⟩)] 104)) g e):=(HE.out.below BV).below ξ;have N:=d.out.cB;clear a l;go_upto_region 10 with fail;go_cut [] (fun wc=>e8_ j c wc O e)
          case first=>
           go_wp2_with (at_builtin;refine Υ underlying144 aj al am an N ?_;intro A z B o f m;obtain⟨f0,f1,f2,f3⟩:=β (d.out.cM f);have y:Hid (e8_ j c (B.setCell ⟨c,0,none⟩ (.slice (some ⟨A,0,none⟩) (O.length+1) z)) O e):=l9_ d.out q.out M.out o f (m.imp id (fun e=>by rw[e]));clear o f m)
           all_goals go_meet
           all_goals exact y.out
          case rest=>
           have R:Hid (e8_ j c wc O e):=hcut;clear hcut d q M N C D E F I P Q;obtain⟨s,t,k,a,l⟩:=R.out;obtain⟨C,D,E,F⟩:=β a.cg;obtain⟨P,Q,_,_⟩:=β ((a.cz.block _ o_).trans d0);have I:=κ a.cg;have V:=η B4 a.cz;have d:Hid (cd_ j c 146 104 1 9 1 (wc.alloc (.cells #[.string e.nb] 9)) s t (O.length+1) O.length (ba_ k) (Ζ (O.map Ex.nb))):=a.below ξ;have q:Hid (ae_ (wc.alloc (.cells #[.string e.nb] 9)) k (O++ [e])):=l.below ξ;have U:=d.out.cA;clear a l;go_upto_region 11 with fail;go_cut [] (fun wc=>gh_ j c wc (O++ [e]))
           case first=>
            go_wp2_with (at_builtin;refine Υ underlying56 ak ao ap aq U ?_;intro A z B o f m;obtain⟨f0,f1,f2,f3⟩:=β (d.out.cN f);have y:Hid (gh_ j c (B.setCell ⟨c,1,none⟩ (.slice (some ⟨A,0,none⟩) (O.length+1) z)) (O++ [e])):=ma_ d.out q.out o f (m.imp id (fun e=>by rw[e]));clear o f m)
            all_goals go_meet
            all_goals exact y.out
           case rest=>
            have ah:Hid (gh_ j c wc (O++ [e])):=hcut;clear hcut d q U C D E F I P Q R V;have aK:(O++ [e]).length<=i+2:=s_;obtain⟨K,aJ⟩:=δ (O++ [e]);rw[aJ.out]at ah ae aK;obtain⟨P,Q,_,_⟩:wc.cell? ⟨w.heap.size,0,none⟩=some (.slice (some ⟨ea,0,none⟩) n ec)/\wc.cell? ⟨w.heap.size,1,none⟩=some (.slice (some ⟨Z,0,none⟩) n nc)/\True/\True:=by
             obtain⟨_,_,_,h,_⟩:=ah.out;obtain⟨P,Q,_,_⟩:=β ((h.cz.block _ o_).trans d0);exact⟨P,Q,trivial,trivial⟩
            have aG:Bl w wc:=by
             obtain⟨_,_,_,h,_⟩:=ah.out;exact B4.trans (h.cz.mono o_)
            have cx:=(aG.cell (p:=⟨ea,i,none⟩) aI).trans aE;obtain⟨s,t,k,a,l⟩:=ah.out;obtain⟨C,D,E,F⟩:=β a.cg;have I:=κ a.cg;have d:Hid (cd_ j c 146 104 1 9 1 (wc.alloc (.cells #[.pointer (some ⟨G,0,none⟩)] 104)).drew s t K.length K.length (ba_ k) (Ζ (K.map Ex.nb))):=a.below ξ.drew;have q:Hid (ae_ (wc.alloc (.cells #[.pointer (some ⟨G,0,none⟩)] 104)).drew k K):=l.below ξ.drew;have M:Hid (Τ (wc.alloc (.cells #[.pointer (some ⟨G,0,none⟩)] 104)).drew G x):=(ar.below aG).below ξ.drew;have N:=d.out.cB;clear a l;go_upto_region 13 with fail;go_cut [] (fun wc=>e8_ j c wc K x)
            case first=>
             go_region_law
              ((refine step_append_lies _ (by rfl) _ _ _ (by rfl) (c+1) 104 iE (.pointer none) 1 8 underlying144 aj al am an rfl d_ s K.length (ba_ k) (by rfl) N ⟨wc.heap.size,0,none⟩ 1 1 [.pointer (some ⟨G,0,none⟩)] (by rfl) (by rfl) (cell_one_new _ _ _) (gt_ rfl) d_ u_ o_ s_ (wc.heap.size+1) i_ ?_;intro A z B o f m ag;obtain⟨f0,f1,f2,f3⟩:=β (d.out.cM f);have y:Hid (e8_ j c (B.setCell ⟨c,0,none⟩ (.slice (some ⟨A,0,none⟩) (K.length+1) z)) K x):=l9_ d.out q.out M.out o f (m.imp id (fun e=>by rw[e];simp));clear o f m))
             all_goals go_wp2_with fail
             all_goals go_meet
             all_goals exact y.out
            case rest=>
             have R:Hid (e8_ j c wc K x):=hcut;clear hcut d q M N C D E F I P Q;obtain⟨s,t,k,a,l⟩:=R.out;obtain⟨C,D,E,F⟩:=β a.cg;obtain⟨P,Q,_,_⟩:=β ((a.cz.block _ o_).trans d0);have I:=κ a.cg;have V:=η B4 a.cz;have aC:=(V.cell (p:=⟨Z,i,none⟩) ax).trans ai;have d:Hid (cd_ j c 146 104 1 9 1 (wc.alloc (.cells #[.string x.nb] 9)).drew s t (K.length+1) K.length (ba_ k) (Ζ (K.map Ex.nb))):=a.below ξ.drew;have q:Hid (ae_ (wc.alloc (.cells #[.string x.nb] 9)).drew k (K++ [x])):=l.below ξ.drew;have U:=d.out.cA;clear a l;go_upto_region 14 with fail;go_region_law
              ((refine step_append_lies _ (by rfl) _ _ _ (by rfl) (c+1) 9 iS (.string ByteArray.empty) 1 16 underlying56 ak ao ap aq rfl d_ t K.length (Ζ (K.map Ex.nb)) (by rfl) U ⟨wc.heap.size,0,none⟩ 1 1 [.string x.nb] (by rfl) (by rfl) (cell_one_new _ _ _) (gt_ rfl) d_ u_ o_ s_ (wc.heap.size+1) i_ ?_;intro A z B o f m ag;obtain⟨f0,f1,f2,f3⟩:=β (d.out.cN f);have y:Hid (gh_ j c (B.setCell ⟨c,1,none⟩ (.slice (some ⟨A,0,none⟩) (K.length+1) z)) (K++ [x])):=ma_ d.out q.out o f (m.imp id (fun e=>by rw[e];simp));clear o f m))
             all_goals go_wp2_with fail
             all_goals
              go_roundw
              case rel=>exact⟨i+1,true,(K++ [x]),o_,rfl,by go_num,y,ae⟩
              case measure=>exact c_
        . have ae:Hid (fv_ L e (i+1) true (O++ [x])):=X.out.step hx Y (.inl rfl);clear ss hx Y X hlb;obtain⟨s,t,k,a,l⟩:=HO.out;obtain⟨C,D,E,F⟩:=β a.cg;have I:=κ a.cg;have d:Hid (cd_ j c 146 104 1 9 1 (wr.alloc (.cells #[.pointer (some ⟨G,0,none⟩)] 104)).drew s t O.length O.length (ba_ k) (Ζ (O.map Ex.nb))):=a.below ξ.drew;have q:Hid (ae_ (wr.alloc (.cells #[.pointer (some ⟨G,0,none⟩)] 104)).drew k O):=l.below ξ.drew;have M:Hid (Τ (wr.alloc (.cells #[.pointer (some ⟨G,0,none⟩)] 104)).drew G x):=(ar.below BV).below ξ.drew;have N:=d.out.cB;clear a l;go_upto_region 13 with fail;go_cut [] (fun wc=>e8_ j c wc O x)
          case first=>
           go_region_law
            ((refine step_append_lies _ (by rfl) _ _ _ (by rfl) (c+1) 104 iE (.pointer none) 1 8 underlying144 aj al am an rfl d_ s O.length (ba_ k) (by rfl) N ⟨wr.heap.size,0,none⟩ 1 1 [.pointer (some ⟨G,0,none⟩)] (by rfl) (by rfl) (cell_one_new _ _ _) (gt_ rfl) d_ u_ o_ s_ (wr.heap.size+1) i_ ?_;intro A z B o f m ag;obtain⟨f0,f1,f2,f3⟩:=β (d.out.cM f);have y:Hid (e8_ j c (B.setCell ⟨c,0,none⟩ (.slice (some ⟨A,0,none⟩) (O.length+1) z)) O x):=l9_ d.out q.out M.out o f (m.imp id (fun e=>by rw[e];simp));clear o f m))
           all_goals go_wp2_with fail
           all_goals go_meet
           all_goals exact y.out
          case rest=>
           have R:Hid (e8_ j c wc O x):=hcut;clear hcut d q M N C D E F I P Q;obtain⟨s,t,k,a,l⟩:=R.out;obtain⟨C,D,E,F⟩:=β a.cg;obtain⟨P,Q,_,_⟩:=β ((a.cz.block _ o_).trans d0);have I:=κ a.cg;have V:=η B4 a.cz;have aC:=(V.cell (p:=⟨Z,i,none⟩) ax).trans ai;have d:Hid (cd_ j c 146 104 1 9 1 (wc.alloc (.cells #[.string x.nb] 9)).drew s t (O.length+1) O.length (ba_ k) (Ζ (O.map Ex.nb))):=a.below ξ.drew;have q:Hid (ae_ (wc.alloc (.cells #[.string x.nb] 9)).drew k (O++ [x])):=l.below ξ.drew;have U:=d.out.cA;clear a l;go_upto_region 14 with fail;go_region_law
            ((refine step_append_lies _ (by rfl) _ _ _ (by rfl) (c+1) 9 iS (.string ByteArray.empty) 1 16 underlying56 ak ao ap aq rfl d_ t O.length (Ζ (O.map Ex.nb)) (by rfl) U ⟨wc.heap.size,0,none⟩ 1 1 [.string x.nb] (by rfl) (by rfl) (cell_one_new _ _ _) (gt_ rfl) d_ u_ o_ s_ (wc.heap.size+1) i_ ?_;intro A z B o f m ag;obtain⟨f0,f1,f2,f3⟩:=β (d.out.cN f);have y:Hid (gh_ j c (B.setCell ⟨c,1,none⟩ (.slice (some ⟨A,0,none⟩) (O.length+1) z)) (O++ [x])):=ma_ d.out q.out o f (m.imp id (fun e=>by rw[e];simp));clear o f m))
           all_goals go_wp2_with fail
           all_goals
            go_roundw
            case rel=>exact⟨i+1,true,(O++ [x]),o_,rfl,by go_num,y,ae⟩
            case measure=>exact c_
  . have aM:¬(i:Int)<(n:Int):=o_;have ay:Hid (cm_ L e=if b then O else O++ [e]):=X.out.fin (by rw[HN.out];omega);clear X;cases b
    . have ac:=α ay;clear ay;obtain⟨s,t,k,a,l⟩:=HO.out;obtain⟨C,D,E,F⟩:=β a.cg;have I:=κ a.cg;have d:Hid (cd_ j c 146 104 1 9 1 (wr.alloc (.cells #[.pointer (some ⟨g,0,none⟩)] 104)) s t O.length O.length (ba_ k) (Ζ (O.map Ex.nb))):=a.below ξ;have q:Hid (ae_ (wr.alloc (.cells #[.pointer (some ⟨g,0,none⟩)] 104)) k O):=l.below ξ;have M:Hid (Τ (wr.alloc (.cells #[.pointer (some ⟨g,0,none⟩)] 104)) g e):=(HE.out.below BV).below ξ;have N:=d.out.cB;clear a l;go_upto_region 16 with fail;go_cut [] (fun wc=>e8_ j c wc O e)
      case first=>
       go_wp2_with (at_builtin;refine Υ underlying144 aj al am an N ?_;intro A z B o f m;obtain⟨f0,f1,f2,f3⟩:=β (d.out.cM f);have y:Hid (e8_ j c (B.setCell ⟨c,0,none⟩ (.slice (some ⟨A,0,none⟩) (O.length+1) z)) O e):=l9_ d.out q.out M.out o f (m.imp id (fun e=>by rw[e]));clear o f m)
       all_goals go_meet
       all_goals exact y.out
      case rest=>
       have R:Hid (e8_ j c wc O e):=hcut;clear hcut d q M N C D E F I P Q;obtain⟨s,t,k,a,l⟩:=R.out;obtain⟨C,D,E,F⟩:=β a.cg;obtain⟨P,Q,_,_⟩:=β ((a.cz.block _ o_).trans d0);have I:=κ a.cg;have V:=η B4 a.cz;have d:Hid (cd_ j c 146 104 1 9 1 (wc.alloc (.cells #[.string e.nb] 9)) s t (O.length+1) O.length (ba_ k) (Ζ (O.map Ex.nb))):=a.below ξ;have q:Hid (ae_ (wc.alloc (.cells #[.string e.nb] 9)) k (O++ [e])):=l.below ξ;have U:=d.out.cA;clear a l;go_upto_region 17 with fail;go_cut [] (fun wc=>gh_ j c wc (O++ [e]))
       case first=>
        go_wp2_with (at_builtin;refine Υ underlying56 ak ao ap aq U ?_;intro A z B o f m;obtain⟨f0,f1,f2,f3⟩:=β (d.out.cN f);have y:Hid (gh_ j c (B.setCell ⟨c,1,none⟩ (.slice (some ⟨A,0,none⟩) (O.length+1) z)) (O++ [e])):=ma_ d.out q.out o f (m.imp id (fun e=>by rw[e]));clear o f m)
        all_goals go_meet
        all_goals exact y.out
       case rest=>
        have ah:Hid (gh_ j c wc (O++ [e])):=hcut;clear hcut d q U C D E F I P Q R V;obtain⟨T,S,ab,aa,aw,au,af⟩:=ah.out.rs;have aA:=η B4 af;obtain⟨C,D,E,F⟩:=β aw;have H:=(af.block _ o_).trans d1;obtain⟨r0,r1,r2,r3⟩:=β H;obtain⟨J,ad⟩:=δ (((O++ [e])).length);rw[ad.out]at C D;obtain⟨s0,s1,s2,s3⟩:=β (cb_ (u:= .slice T J S) H);obtain⟨t0,t1,t2,t3⟩:=β (fr_ (u:= .slice ab J aa) (cb_ (u:= .slice T J S) H));have HP:Hid (mb_ ((O++ [e])) w (.returned (.agg #[.slice T J S,.slice ab J aa])) ((wc.setCell ⟨w.heap.size+1,0,none⟩ (.slice T J S)).setCell ⟨w.heap.size+1,1,none⟩ (.slice ab J aa))):=by
         refine⟨T,S,ab,aa,by rw[ad.out], ?_, ?_⟩
         . exact(au.set H).set (cb_ H)
         . exact(aA.setCell (p:=⟨w.heap.size+1,0,none⟩) (le_succ _) _).setCell (p:=⟨w.heap.size+1,1,none⟩) (le_succ _) _
        clear au aw H ad af;go_wp2_with fail;refine bodyPost_ret (v:= .agg #[.slice T J S,.slice ab J aa]) (by simp[results,results114,go_sem,t0,t1]) rfl ?_;unfold Hid at ac;rw[ac];exact HP.out
    . have ac:=α ay;clear ay;obtain⟨T,S,ab,aa,aw,au,af⟩:=HO.out.rs;have aA:=η B4 af;obtain⟨C,D,E,F⟩:=β aw;have H:=(af.block _ o_).trans d1;obtain⟨r0,r1,r2,r3⟩:=β H;obtain⟨J,ad⟩:=δ ((O).length);rw[ad.out]at C D;obtain⟨s0,s1,s2,s3⟩:=β (cb_ (u:= .slice T J S) H);obtain⟨t0,t1,t2,t3⟩:=β (fr_ (u:= .slice ab J aa) (cb_ (u:= .slice T J S) H));have HP:Hid (mb_ (O) w (.returned (.agg #[.slice T J S,.slice ab J aa])) ((wr.setCell ⟨w.heap.size+1,0,none⟩ (.slice T J S)).setCell ⟨w.heap.size+1,1,none⟩ (.slice ab J aa))):=by
       refine⟨T,S,ab,aa,by rw[ad.out], ?_, ?_⟩
       . exact(au.set H).set (cb_ H)
       . exact(aA.setCell (p:=⟨w.heap.size+1,0,none⟩) (le_succ _) _).setCell (p:=⟨w.heap.size+1,1,none⟩) (le_succ _) _
      clear au aw H ad af;go_wp2_with fail;refine bodyPost_ret (v:= .agg #[.slice T J S,.slice ab J aa]) (by simp[results,results114,go_sem,t0,t1]) rfl ?_;unfold Hid at ac;rw[ac];exact HP.out
def gi_ (W:World)(b:Nat)(w:World)(L:List Ex):Prop:=∃eo ec no nc,w.heap[b]? =some (.cells #[.slice eo L.length ec,.slice no L.length nc] 146 (0,0))/\cn_ w eo ec no nc L/\Below b W w
theorem gi_.below {L:List Ex}(h:gi_ W b w L)(hb:Bl w w'):gi_ W b w' L:=by
 obtain⟨d,c,no,g,a,e,f⟩:=h;exact⟨d,c,no,g,(hb.block _ (κ a)).trans a,e.below hb,f.trans (hb.mono (by have:=κ a;omega))⟩
theorem gi_.lt {L:List Ex}(h:gi_ W b w L):b<w.heap.size:=by obtain⟨_,_,_,_,h,_⟩:=h;exact κ h
theorem gi_.cz {L:List Ex}(h:gi_ W b w L):Below b W w:=by obtain⟨_,_,_,_,_,_,h⟩:=h;exact h
theorem gi_.put {L:List Ex}(hw:w.heap[b]? =some (.cells #[x,y] 146 (0,0)))(hB:Below b W w)(h:cn_ w eo ec no nc L)(hn:L.length=n):
 gi_ W b ((w.setCell ⟨b,0,none⟩ (.slice eo n ec)).setCell ⟨b,1,none⟩ (.slice no n nc)) L:=by
 subst hn;exact⟨eo,ec,no,nc,fr_ (cb_ hw),(h.set hw).set (cb_ hw),(hB.setCell (p:=⟨b,0,none⟩) ι _).setCell (p:=⟨b,1,none⟩) ι _⟩
theorem aj5_ {cs:Array Value}(hT:ε (fun k=>k=b) w w')(hb:w.heap[b]? =some (.cells cs 146 (0,0))){e:Ex}(h:Τ w g e):Τ w' g e:=by
 have i:∀(k:Nat) (cs:Array Value),w.heap[k]? =some (.cells cs 199 (0,0))->w'.heap[k]? =some (.cells cs 199 (0,0)):=by
  intro k cs m;refine hT.heap m ?_;intro e;have n:k=b:=e;subst n;rw[hb]at m;simp at m
 induction e generalizing g with
 |nil=>exact i _ _ h
 |one S=>exact i _ _ h
 |thn a b iha ihb=>obtain⟨c,j,d,f,l⟩:=h;exact⟨c,j,i _ _ d,iha f,ihb l⟩
 |alt a b iha ihb=>obtain⟨c,j,d,f,l⟩:=h;exact⟨c,j,i _ _ d,iha f,ihb l⟩
 |star a iha=>obtain⟨c,d,f⟩:=h;exact⟨c,i _ _ d,iha f⟩
theorem y7_ (h:ε (fun k=>k=b) w w'):ε (fun k=>k=b) w (w'.setCell ⟨b,i,none⟩ u):=
 ⟨h.os,h.tape,h.output,by simpa using h.size,fun k hk hn=>by rw[Below.heap_setCell w' ⟨b,i,none⟩ u k hn];exact h.block k hk hn⟩
structure iy_ (L:List Ex)(c i:Nat)(M:List Ex):Prop where
 eq:M=(L.take i).foldl (fun out e=>fq_ out (e.behind c)) []
 dx:ds_ M
 can:∀x∈M,x.can
 len:M.length<=i*20000
structure iz_ (M B:List Ex)(l k:Nat)(M':List Ex):Prop where
 eq:M'=fq_ M (B.take k)
 dx:ds_ M'
 can:∀x∈M',x.can
 len:M'.length<=l+k
theorem iy_.start (L:List Ex)(c:Nat):iy_ L c 0 []:=⟨rfl,List.Pairwise.nil,i_,i_⟩
theorem iy_.k {L M:List Ex}(h:iy_ L c i M)(B:List Ex):iz_ M B (i*20000) 0 M:=by
 refine⟨by simp[fq_],h.dx,h.can, ?_⟩;have:=h.len;rw[Nat.add_zero];exact this
theorem iz_.step {M B M':List Ex}{l k:Nat}{d:Ex}(h:iz_ M B l k M')(hd:B[k]? =some d)(hc:d.can):iz_ M B l (k+1) (cm_ M' d):=by
 refine⟨?_,vj_ hc h.can h.dx,fun x hx=> ?_, ?_⟩
 . rw[take_add_one,hd];unfold fq_;rw[foldl_append];have:=h.eq;unfold fq_ at this;rw[<-this];rfl
 . rcases (o4_ hc h.can).1 hx with rfl|hx
   . exact hc
   . exact h.can x hx
 . have:=vn_ M' d;have:=h.len;omega
theorem iz_.fin {L M M':List Ex}{x:Ex}(h:iz_ M (x.behind c) (i*20000) (x.behind c).length M')(hM:iy_ L c i M)(hx:L[i]? =some x)(hl:(x.behind c).length<=20000):iy_ L c (i+1) M':=by
 refine⟨?_,h.dx,h.can,by have:=h.len;omega⟩;rw[take_add_one,hx,foldl_append,<-hM.eq,h.eq,tk_ ι];rfl
theorem aj6_ (w:World)(eo no:Option Addr)(ec nc c:Nat)(L:List Ex)(h:cn_ w eo ec no nc L)(hc:c<8)(hl:L.length<=16)(hlet:∀x∈L,x.b9<=20000)(hcan:∀x∈L,∀d∈x.behind c,d.can/\d.nm.length<=2^60):
 Calls prog 116 #[.agg #[.slice eo L.length ec,.slice no L.length nc],.int .i64 (c:Int)] w (mb_ (ga_ L c) w):=by
 obtain⟨n,Z⟩:=δ (L.length);rw[Z.out]at hl ⊢;obtain⟨W,hW,BW,d0,d1,d2⟩:=fe_ w #[.slice eo n ec,.slice no n nc] 146 #[.slice none 0 0,.slice none 0 0] 146 #[.slice none 0 0,.slice none 0 0] 146;have T:Hid (gi_ W (w.heap.size+1+1) W []):=⟨none,0,none,0,d2,cn_.nil W,μ⟩;have HR:=α h;have aS:=α hlet;have aO:=α hcan;clear h hlet hcan d2;go_enter func116,ntmps116;go_upto_region 2 with fail;rw[<-hW];clear hW;obtain⟨f,aD⟩:∃x,w.heap.size+1+1=x:=⟨_,rfl⟩;rw[aD]at T ⊢;have bc:w.heap.size+1<f:=o_;clear aD;go_wp2_with fail;go_loopw [6,7,8] (fun i' _ _ wr=>∃(i:Nat) (M:List Ex),i<=n/\i'= .int .i64 (i:Int)/\Hid (gi_ W f wr M)/\Hid (iy_ L c i M)) (fun i' _ _ _=>n - (intOf i').toNat)
 case atStart=>exact⟨0,[],o_,rfl,T,iy_.start L c⟩
 case round=>
  clear T;obtain⟨i,M,hi,rfl,t,C⟩:=hrel;have O:=t.out.cz;have bd:=t.out.lt;have I:=η BW O;obtain⟨x0,x1,_,_⟩:=β ((O.block _ o_).trans d0);by_cases a6:i<n
  . have a7:(i:Int)<(n:Int):=o_;have hL:i<L.length:=by rw[Z.out];exact a6
    obtain⟨x,R⟩:∃x,L[i]? =some x:=⟨L[i],ge_ hL⟩;have ag:=mem_of_getElem? R;obtain⟨ea,gx,rfl,a3,aF,au⟩:=HR.out.exp R;have cx:=(I.cell (p:=⟨ea,i,none⟩) a3).trans aF;have bf:=aS.out x ag;have l:=ajw_ x gx c wr hc (au.below I) o_;have ay:=lt_ x c;have HD:Hid (∀d∈x.behind c,d.can/\d.nm.length<=2^60):=aO.out x ag;have U:Hid (∀b,iz_ M (x.behind c) (i*20000) (x.behind c).length b->iy_ L c (i+1) b):=fun b h=>h.fin C.out R o_
    have V:Hid (iz_ M (x.behind c) (i*20000) 0 M):=C.out.k _;obtain⟨D,ak⟩:=δ (x.behind c);rw[ak.out]at l ay HD U V;clear R ag aF au ak C;go_wp2_with fail;refine l.mono ?_;clear l;rintro r S ⟨v1,aZ,rfl,aK,ae,ac⟩;have bh:=ac.size;have al:Hid (gi_ W f S M):=t.out.below ac;have aR:=α ae.len;obtain⟨m,Y⟩:=δ (D.length);rw[Y.out]at ay U;have aQ:=α ae;have am:Hid (S.ownsRow wr.heap.size 104 1 v1 m (ba_ aZ)):=by unfold Hid;rw[<-Y.out,<-aR.out];exact aK
    obtain⟨K,N,rfl⟩:∃K N,v1= .slice K m N:=by
     obtain⟨K,N,e,_⟩:=Β am.out;exact⟨K,N,e⟩
    have bg:m<=20000:=o_;clear aK ae ac cx x0 x1 I O t;go_wp2_with fail;go_loopw [8] (fun k' wi=>∃(k:Nat) (b:List Ex),k<=m/\k'= .int .i64 (k:Int)/\Hid (gi_ W f wi b)/\Hid (iz_ M D (i*20000) k b)/\ε (fun j=>j=f) S wi) (fun k' _=>m - (intOf k').toNat)
    case atStart=>exact⟨0,M,o_,rfl,al,V,⟨rfl,rfl,rfl,ι,fun _ _ _=>rfl⟩⟩
    case round=>
     clear V;obtain⟨k,b,hk,rfl,J,s,E⟩:=hrel;have a2:=J.out.lt;by_cases a4:k<m
     . have a5:(k:Int)<(m:Int):=o_;obtain⟨d,P⟩:∃d,D[k]? =some d:=⟨D[k]'(by rw[Y.out];exact a4),ge_ _⟩;obtain⟨aG,aH⟩:=HD.out d (mem_of_getElem? P);obtain⟨gd,aI,aq⟩:=aQ.out.get P;obtain⟨a1,ba,hv,bb,a0,aE⟩:=p9_ am.out aI;simp only[Value.slice.injEq]at hv;obtain⟨rfl,_,rfl⟩:=hv;obtain⟨_,_,_,_,aA,_,_⟩:=al.out;have ar:=aj5_ E aA aq;have cd:wr.cell? ⟨a1,k,none⟩=some (.pointer (some ⟨gd,0,none⟩)):=by
        rw[World.cell?_of_block (a:=⟨a1,k,none⟩) (E.block a1 a0 (by intro e;omega))];exact aE
       have be:(0:Int)<=(k:Int):=o_;have ai:Hid (iz_ M D (i*20000) (k+1) (cm_ b d)):=s.out.step P aG;obtain⟨aY,aX,a9,a8,af,aw,aC⟩:=J.out;have aJ:b.length<=2^20:=by have:=s.out.len;omega
       have ad:Bl wr wr.drew:=μ.drew;have l:=y6_ wr.drew aY a9 aX a8 b gd d (aw.below ad) (ar.below ad) s.out.dx aJ aH;obtain⟨y0,y1,z0,z1⟩:=β af;have ah:=α af;have aN:=α aC;have y:=α E;obtain⟨lm,aT⟩:=δ (b.length);rw[aT.out]at l y0 y1 ah aJ;obtain⟨MN,aU⟩:=δ (cm_ b d);rw[aU.out]at l ai;clear P aG aH aI aq aE aA ar af aw aC E J s ad;go_wp2_with fail;go_region_with (go_at_call 114;refine l.mono ?_;rintro r w6 ⟨ab,aa,aM,aL,rfl,ax,ap⟩;have o:Bl wr w6:=(Below.refl wr.heap.size wr).drew.trans ap;have Q:=(o.block f a2).trans ah.out;obtain⟨p0,p1,p2,p3⟩:=β Q;obtain⟨F,aj⟩:∃q,Hid (MN.length=q):=⟨_,rfl⟩;rw[aj.out];obtain⟨s0,s1,s2,s3⟩:=β (cb_ (u:= .slice ab F aa) Q);have aP:Hid (gi_ W f ((w6.setCell ⟨f,0,none⟩ (.slice ab F aa)).setCell ⟨f,1,none⟩ (.slice aM F aL)) MN):=gi_.put Q (aN.out.trans (o.mono o_)) ax aj.out;have aW:Hid (ε (fun j=>j=f) S ((w6.setCell ⟨f,0,none⟩ (.slice ab F aa)).setCell ⟨f,1,none⟩ (.slice aM F aL))):=y7_ (y7_ ⟨o.os.trans y.out.os,o.tape.trans y.out.tape,o.output.trans y.out.output,Nat.le_trans y.out.size o.size,fun j hj hn=>(o.block j (Nat.lt_of_lt_of_le hj y.out.size)).trans (y.out.block j hj hn)⟩);clear ax ap Q l)
       all_goals go_wp2_with fail
       all_goals
        go_roundw
        case rel=>exact⟨k+1,MN,o_,by go_num,aP,ai,aW.out⟩
        case measure=>exact c_
     . have a5:¬(k:Int)<(m:Int):=o_;obtain rfl:k=m:=o_;have aV:Hid (iy_ L c (i+1) b):=U.out b s.out;clear s E;go_wp2_with fail;go_roundw
       case rel=>exact⟨i+1,b,o_,by go_num,J,aV⟩
       case measure=>exact c_
  . have a7:¬(i:Int)<(n:Int):=o_;have an:Hid (ga_ L c=M):=by
     unfold Hid ga_;rw[C.out.eq,tk_ (by rw[Z.out];omega)]
    obtain⟨A,z,H,G,az,av,aB⟩:=t.out;obtain⟨y0,y1,z0,z1⟩:=β az;have B:=(aB.block _ o_).trans d1;obtain⟨r0,r1,r2,r3⟩:=β B;obtain⟨g,X⟩:=δ (M.length);rw[X.out]at y0 y1;obtain⟨s0,s1,s2,s3⟩:=β (cb_ (u:= .slice A g z) B);obtain⟨t0,t1,t2,t3⟩:=β (fr_ (u:= .slice H g G) (cb_ (u:= .slice A g z) B));have HP:Hid (mb_ M w (.returned (.agg #[.slice A g z,.slice H g G])) ((wr.setCell ⟨w.heap.size+1,0,none⟩ (.slice A g z)).setCell ⟨w.heap.size+1,1,none⟩ (.slice H g G))):=by
     refine⟨A,z,H,G,by rw[X.out], ?_, ?_⟩
     . exact(av.set B).set (cb_ B)
     . exact(I.setCell (p:=⟨w.heap.size+1,0,none⟩) (le_succ _) _).setCell (p:=⟨w.heap.size+1,1,none⟩) (le_succ _) _
    clear av az B X aB O C t;go_wp2_with fail;refine bodyPost_ret (v:= .agg #[.slice A g z,.slice H g G]) (by simp[results,results116,go_sem,t0,t1]) rfl ?_;unfold Hid at an;rw[an];exact HP.out
end Go.Proofs.YtpngikmcjkjdaaaGreatDoor
