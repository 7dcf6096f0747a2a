import Derived.Test.YtpngikmcjkjdaaaGreatDoorG0
import Derived.Deep.Upon
import Derived.Test.YtpngikmcjkjdaaaGreatDoorG21
import Derived.Test.YtpngikmcjkjdaaaGreatDoorG33
set_option linter.unusedVariables false
set_option linter.unusedSimpArgs false
set_option maxRecDepth 20000
set_option maxHeartbeats 80000000
namespace Go.Proofs.YtpngikmcjkjdaaaGreatDoor
open Go.RowKit Tryz
theorem iu_:(prog.info? 104).map (fun i=>(i.zero,i.size,i.bytes))=some (some (.pointer none),1,8):=k_
def a3_ (gs:List Nat):List Value:=gs.map ptr
theorem ach_ (gs:List Nat):(a3_ gs).length=gs.length:=by simp[a3_]
theorem iv_ (a b:List Nat):a3_ (a++b)=a3_ a++a3_ b:=by simp[a3_]
def a1_ (w:World):List Nat->List Ex->Prop
 | [],[]=>True
 |g::gs,x::xs=>ExAt w g x/\a1_ w gs xs
 |_,_=>False
section
variable {w w':World} {gs hs:List Nat} {L M:List Ex}
theorem a1_.len (h:a1_ w gs L):gs.length=L.length:=by
 induction gs generalizing L with
 |nil=>cases L<;>simp[a1_]at h ⊢
 |cons g gs ih=>
  cases L with
  |nil=>simp[a1_]at h
  |cons x L=>simp[ih h.2]
theorem a1_.imp (h:a1_ w gs L)(H:∀g e,ExAt w g e->ExAt w' g e):a1_ w' gs L:=by
 induction gs generalizing L with
 |nil=>cases L<;>simp[a1_]at h ⊢
 |cons g gs ih=>
  cases L with
  |nil=>simp[a1_]at h
  |cons x L=>exact⟨H _ _ h.1,ih h.2⟩
theorem a1_.below (h:a1_ w gs L)(hb:Below w.heap.size w w'):a1_ w' gs L:=h.imp fun _ _ h=>h.below hb
theorem a1_.app (h:a1_ w gs L)(h':a1_ w hs M):a1_ w (gs++hs) (L++M):=by
 induction gs generalizing L with
 |nil=>
  cases L with
  |nil=>exact h'
  |cons x L=>simp[a1_]at h
 |cons g gs ih=>
  cases L with
  |nil=>simp[a1_]at h
  |cons x L=>exact⟨h.1,ih h.2⟩
theorem a1_.snoc {g:Nat}{e:Ex}(h:a1_ w gs L)(h':ExAt w g e):a1_ w (gs++ [g]) (L++ [e]):=h.app ⟨h',trivial⟩
theorem a1_.get (h:a1_ w gs L){i:Nat}{x:Ex}(hx:L[i]? =some x):∃g,gs[i]? =some g/\ExAt w g x:=by
 induction gs generalizing L i with
 |nil=>cases L<;>simp[a1_]at h hx
 |cons g gs ih=>
  cases L with
  |nil=>simp[a1_]at h
  |cons y L=>
   cases i with
   |zero=>simp at hx;subst hx;exact⟨g,rfl,h.1⟩
   |succ i=>simp at hx;obtain⟨g',h1,h2⟩:=ih h.2 hx;exact⟨g',by simpa using h1,h2⟩
end
theorem k8_ {w w':World}{base n:Nat}{v:Value}{xs:List Value}(ho:w.ownsRow base 104 1 v n xs)(hg:w.grownBy w' v.ownBlock){g:Nat}{e:Ex}(h:ExAt w g e):ExAt w' g e:=by
 have key:∀(b:Nat) (cs:Array Value),w.heap[b]? =some (.cells cs 199 (0,0))->w'.heap[b]? =some (.cells cs 199 (0,0)):=by
  intro b cs hb;rw[hg.block b (ac_ hb) ?_,hb];intro e;rcases ho.2 with ⟨rfl,_⟩|⟨a,cap,cur,rfl,_,h1,_⟩
  . simp[Value.ownBlock]at e
  . simp only[Value.ownBlock,Option.some.injEq]at e;subst e;rw[hb]at h1;simp at h1
 induction e generalizing g with
 |nil=>exact key _ _ h
 |one S=>exact key _ _ h
 |thn a b iha ihb=>obtain⟨ga,gb,h1,h2,h3⟩:=h;exact⟨ga,gb,key _ _ h1,iha h2,ihb h3⟩
 |alt a b iha ihb=>obtain⟨ga,gb,h1,h2,h3⟩:=h;exact⟨ga,gb,key _ _ h1,iha h2,ihb h3⟩
 |star a iha=>obtain⟨ga,h1,h2⟩:=h;exact⟨ga,key _ _ h1,iha h2⟩
theorem mz_ {w:World}{b1 b2 e s n:Nat}{v:Value}{x:List Value}(h:w.ownsRow b1 e s v n x)(hb:b2<=b1):w.ownsRow b2 e s v n x:=by
 refine⟨h.1, ?_⟩;rcases h.2 with e1|⟨g,cap,cur,e1,e2,r⟩
 . exact .inl e1
 . exact .inr ⟨g,cap,cur,e1,Nat.le_trans hb e2,r⟩
theorem hy_ {P:Program}(w:World){ops:Array Oper}{rest:List Oper}{o:Oper}{a:Act}{Q:Exit->Act->World->Prop}(hgd:o.guard=none)(s x:Operand)(t:TypeId)
 (ho:o.op= .call {callee:= .builtin .append,args:= #[s,x],argTypes:= #[t,t]})
 (base base2:Nat) (e:TypeId) (i:TypeInfo) (z:Value) (bytes:Nat) (ht:P.underlying t=some (.slice e)) (hi:P.info? e=some i) (hz:i.zero=some z)
 (hsize:i.size=1) (hby:i.bytes=bytes) (hzs:z.cells.size=1)
 (v:Value) (n:Nat) (xs:List Value) (hs:a.eval s=v) (hown:w.ownsRow base e 1 v n xs)
 (v2:Value) (m:Nat) (ys:List Value) (hx:a.eval x=v2) (hown2:w.ownsRow base2 e 1 v2 m ys) (h1:∀u∈ys,u.oneCell'=true)
 (h63:n+m<=maxLen) (hbytes:(n+m)*bytes<=140737488355328) (hbase:base<=w.heap.size)
 (h:∀v' w',w'.ownsRow base e 1 v' (n+m) (xs++ys)->w.grownBy w' v.ownBlock->
  wpList P ops Q rest (a.put o.dst v') w'):wpList P ops Q (o::rest) a w:=by
 obtain⟨ao,cap,rfl,hc⟩:=af_ hown2;have hyl:ys.length=m:=by have:=hown2.1;omega
 by_cases hm:m=0
 . subst hm;obtain rfl:ys=[]:=List.eq_nil_of_length_eq_zero hyl;obtain⟨so,scap,rfl,_⟩:=af_ hown;refine wpList_plain hgd fun K hK=> ?_
   have hsrc:Src P i.size t (.slice ao 0 cap) 0 [] w:=by
    cases ao with
    |none=>exact Src.ofNil w ht cap
    |some ad=>exact Src.ofSlice w ht ad 0 cap [] i_ i_ i_
   have hle:n<=scap:=by
    rcases hown.2 with ⟨h1,h2⟩|⟨g,c,cur,h1,_,_,h2,_⟩
    . omega
    . simp only[Value.slice.injEq]at h1;omega
   have hrun:=run_append_nothing (P:=P) w t t o.type e i ht hi so n scap hle (.slice ao 0 cap) hsrc;unfold Oper.wp execOp;simp only[ho,resolve,invoke,builtin,Sem.run_bind,Sem.run_pure,Result.andThen_ok,List.map_toArray,List.map_cons,List.map_nil,hs,hx,hrun];refine hK _ _ (h _ _ ?_ ⟨rfl,rfl,rfl,lr__,fun _ _ _=>rfl⟩);rw[List.append_nil];exact hown
 . obtain⟨g,rfl,hcell⟩:=hc o_;refine ae_ w hgd s x t ho base e i z 1 bytes ht hi hz hsize hby hzs d_ v n xs hs hown ⟨g,0,none⟩ m cap ys hx o_ ?_ h1 o_ h63 hbytes hbase (fun g cap w' h2 h3 _=>h _ _ h2 h3);intro j u hu;have hj:j<m:=by rw[<-hyl];exact(List.getElem?_eq_some_iff.1 hu).1
   have:=hcell j o_;rw[show(⟨g,0,none⟩:Addr).add j=⟨g,j,none⟩by simp[Addr.add];omega,this,hu]
def zs_ (L:List Ex)(w:World)(r:Ending)(w':World):Prop:=∃v gs,r= .returned v/\w'.ownsRow w.heap.size 104 1 v gs.length (a3_ gs)/\a1_ w' gs L/\Below w.heap.size w w'
def BhC (e:Ex):Prop:=∀(g c:Nat) (w:World),c<8->ExAt w g e->e.letters<=2^40->Calls prog 152 #[.pointer (some ⟨g,0,none⟩),.int .i64 (c:Int)] w (zs_ (e.behind c) w)
theorem um_:BhC .nil:=by
 intro g c w hc h hl;have k0:=h.kind;simp only[Ex.kind,show((0:Nat):Int)=0 from rfl]at k0;clear hl;go_enter func152,ntmps152;go_wp2_with fail;go_ret;exact⟨_,[],rfl,on__,trivial,br__⟩
theorem un_ (S:Nat->Bool):BhC (.one S):=by
 intro g c w hc h hl;have k0:=h.kind;simp only[Ex.kind,show((1:Nat):Int)=1 from rfl]at k0;have c1:=(id_ h hc).1;obtain⟨i0,hi0,hz0,hz01,hz02⟩:=info_parts iu_;cases hs:S c
 . rw[hs]at c1;rw[show(Ex.one S).behind c=[]by simp[Ex.behind,hs]];clear hl h hs;go_enter func152,ntmps152;go_wp2_with fail;go_ret;exact⟨_,[],rfl,on__,trivial,br__⟩
 . rw[hs]at c1;rw[show(Ex.one S).behind c=[.nil]by simp[Ex.behind,hs]];have HC:=he_ w;have HNA:∀w1:World,∀o,(w1.alloc o).ownsRow w.heap.size 104 1 (.slice none 0 0) 0 []:=fun w1 o=>on__
   clear hl h hs;go_enter func152,ntmps152;go_wp2_with (first
    |(go_at_call 153;refine HC.mono ?_;rintro e w1 ⟨g1,rfl,hE,hB⟩;have hsz:=hB.size;have HE:Hid (ExAt w1 g1 .nil):=hE;have HB1:Hid (Below w.heap.size w w1):=hB;clear hE hB HC)
    |(at_builtin;refine ae_ _ rfl _ _ 144 rfl w.heap.size 104 i0 (.pointer none) 1 8 underlying144 hi0 hz0 hz01 hz02 rfl d_ (.slice none 0 0) 0 [] rfl (HNA w1 _) ⟨w1.heap.size,0,none⟩ 1 1 [.pointer (some ⟨g1,0,none⟩)] rfl rfl (cell_one_new _ _ _) (oc__ rfl) d_ u_ o_ s_ ?_;intro g2 cap w3 hown3 hgr hfr;have HO3:Hid (w3.ownsRow w.heap.size 104 1 (.slice (some ⟨g2,0,none⟩) (0+1) cap) (0+1) ([]++ [.pointer (some ⟨g1,0,none⟩)])):=hown3;have HB3:Hid (Below w1.heap.size w1 w3):=ba__.grown hgr i_ (fun x e=>by simp[Value.ownBlock]at e);clear hown3 hgr hfr))
   go_ret;exact⟨_,[g1],rfl,HO3.out,⟨HE.out.below HB3.out,trivial⟩,HB1.out.trans (HB3.out.mono hsz)⟩
theorem ta_ (gs:List Nat):∀u∈a3_ gs,u.oneCell'=true:=by
 intro u hu;simp only[a3_,List.mem_map]at hu;obtain⟨g,_,rfl⟩:=hu;rfl
theorem jg_ {w:World}{base n:Nat}{v:Value}{gs:List Nat}(h:w.ownsRow base 104 1 v n (a3_ gs)){i g:Nat}(hg:gs[i]? =some g):∃a cap,v= .slice (some ⟨a,0,none⟩) n cap/\base<=a/\a<w.heap.size/\w.cell? ⟨a,i,none⟩=some (.pointer (some ⟨g,0,none⟩)):=by
 have hn:gs.length=n:=by have:=h.1;rw[ach_]at this;omega
 have hi:i<gs.length:=(List.getElem?_eq_some_iff.1 hg).1;rcases h.2 with ⟨_,h0⟩|⟨a,cap,cur,rfl,h1,h2,h3,h4,h5,h6⟩
 . omega
 . refine⟨a,cap,rfl,h1,ac_ h2, ?_⟩;rw[cell_of_row w a i _ _ (0,0) h2];have e1:(cur.toList.take (n*1))[i]? =some (ptr g):=by rw[h6];simp[a3_,hg]
   rw[List.getElem?_take_of_lt o_]at e1;rw[<-Array.getElem?_toList];exact e1
theorem uo_ (a b:Ex)(iha:BhC a)(ihb:BhC b):BhC (.alt a b):=by
 intro g c w hc h hl;have k0:=h.kind;simp only[Ex.kind,show((3:Nat):Int)=3 from rfl]at k0;obtain⟨ga,gb,h1,h2,h3⟩:=h;obtain⟨c9,c10⟩:=fb_ h1;have hg:=ac_ h1;unfold ptr at c9 c10;obtain⟨i0,hi0,hz0,hz01,hz02⟩:=info_parts iu_;simp only[Ex.letters]at hl;have hla:=ge_ a c;have hlb:=ge_ b c;have HA:=iha ga c w hc h2 o_;have HB:=fun w1 (hb:Below w.heap.size w w1)=>ihb gb c w1 hc (h3.below hb) o_
 simp only[Ex.behind];obtain⟨LA,HLA⟩:=hx__ (a.behind c);obtain⟨LB,HLB⟩:=hx__ (b.behind c);rw[HLA.out]at HA hla ⊢;rw[HLB.out]at HB hlb ⊢;clear iha ihb h1 h2 h3 HLA HLB;go_enter func152,ntmps152;go_wp2_with fail;refine HA.mono ?_;clear HA;rintro e w1 ⟨v1,gs1,rfl,ho1,hL1,hB1⟩;have hsz1:=hB1.size;have HB1:=HB w1 hB1;have d10:=(hB1.cell (p:=⟨g,10,none⟩) hg).trans c10;have hn1:gs1.length<=a.letters:=by rw[hL1.len];exact hla
 clear HB c9 c10;go_wp2_with fail;refine HB1.mono ?_;clear HB1;rintro e w2 ⟨v2,gs2,rfl,ho2,hL2,hB2⟩;have hsz2:=hB2.size;have hn2:gs2.length<=b.letters:=by rw[hL2.len];exact hlb
 have hna:=al_ ho1 hB2;have HLL:Hid (a1_ w2 (gs1++gs2) (LA++LB)):=(hL1.below hB2).app hL2;have HOW:Hid (∀x,v1.ownBlock=some x->w.heap.size<=x):=fun x e=>(hna.lt x e).1
 have HB2:Hid (Below w.heap.size w w2):=hB1.trans (hB2.mono hsz1);obtain⟨n1,HN1⟩:=hx__ (gs1.length);obtain⟨n2,HN2⟩:=hx__ (gs2.length);rw[HN1.out]at hna hn1;rw[HN2.out]at ho2 hn2;clear hL1 hL2 hB1 hB2 ho1 hla hlb d10;go_wp2_with (at_builtin;refine hy_ _ rfl _ _ 144 rfl w.heap.size w1.heap.size 104 i0 (.pointer none) 8 underlying144 hi0 hz0 hz01 hz02 rfl v1 n1 (a3_ gs1) rfl hna v2 n2 (a3_ gs2) rfl ho2 (ta_ gs2) u_ o_ o_ ?_;intro v' w3 hown3 hgr;have HO3:Hid (w3.ownsRow w.heap.size 104 1 v' (n1+n2) (a3_ gs1++a3_ gs2)):=hown3;have HL3:Hid (a1_ w3 (gs1++gs2) (LA++LB)):=HLL.out.imp (fun _ _ h=>k8_ hna hgr h);have HB3:Hid (Below w.heap.size w w3):=HB2.out.grown hgr o_ (fun x e=>HOW.out x e);clear hown3 hgr);go_ret;refine⟨v',gs1++gs2,rfl, ?_,HL3.out,HB3.out⟩;have:=HO3.out;rw[<-iv_,<-HN1.out,<-HN2.out,<-List.length_append]at this;exact this
theorem tb_ (a:Ex)(iha:BhC a):BhC (.star a):=by
 intro g c w hc h hl;have k0:=h.kind;simp only[Ex.kind,show((4:Nat):Int)=4 from rfl]at k0;have hE:=h;obtain⟨ga,h1,h2⟩:=h;obtain⟨c9,c10⟩:=fb_ h1;have hg:=ac_ h1;unfold ptr at c9;obtain⟨i0,hi0,hz0,hz01,hz02⟩:=info_parts iu_;simp only[Ex.letters]at hl;have hla:=ge_ a c;have HA:=iha ga c w hc h2 o_;simp only[Ex.behind];obtain⟨LA,HLA⟩:=hx__ (a.behind c);rw[HLA.out]at HA hla ⊢;clear iha h1 h2 HLA c10;go_enter func152,ntmps152;go_wp2_with fail;refine HA.mono ?_;clear HA;rintro e w1 ⟨v1,gs1,rfl,ho1,hL1,hB1⟩;have hsz1:=hB1.size;have hE1:=hE.below hB1;have HN1:Hid (gs1.length=LA.length):=hL1.len;obtain⟨n1,HN⟩:=hx__ (LA.length);rw[HN.out]at hla;have HL1:Hid (a1_ w1 gs1 LA):=hL1;have HO1:Hid (w1.ownsRow w.heap.size 104 1 v1 n1 (a3_ gs1)):=by unfold Hid;rw[<-HN.out,<-HN1.out];exact ho1
 have HB1:Hid (Below w.heap.size w w1):=hB1;have HSH:∃ao cap,v1= .slice ao n1 cap:=by
  obtain⟨ao,cap,e,_⟩:=af_ HO1.out;exact⟨ao,cap,e⟩
 obtain⟨ao,cap,rfl⟩:=HSH;clear ho1 hL1 hB1 c9 k0 hE;go_wp2_with fail;go_loopw [5,7,8] (fun l' i' _ wr=>∃(i:Nat) (hs:List Nat) (lo:Option Addr) (lc:Nat),i<=n1/\hs.length=i/\l'= .slice lo i lc/\i'= .int .i64 (i:Int)/\wr.ownsRow w1.heap.size 104 1 (.slice lo i lc) i (a3_ hs)/\a1_ wr hs ((LA.take i).map fun x=>x.thn' (.star a))/\Below w1.heap.size w1 wr) (fun _ i' _ _=>n1 - (intOf i').toNat)
 case atStart=>exact⟨0,[],none,0,o_,rfl,rfl,rfl,on__,trivial,br__⟩
 case round=>
  obtain⟨i,hs,lo,lc,hi,hhs,rfl,rfl,ho,hL,hB⟩:=hrel;have hsz:=hB.size;by_cases hlt:i<n1
  . have hlt2:(i:Int)<(n1:Int):=o_;have HX:∃x,LA[i]? =some x:=⟨LA[i]'(by rw[HN.out];omega),List.getElem?_eq_getElem _⟩;obtain⟨x,hx⟩:=HX;obtain⟨gx,hgx,hEx⟩:=HL1.out.get hx;obtain⟨ba,cap',hv,hb1,hb2,hcell⟩:=jg_ HO1.out hgx;simp only[Value.slice.injEq]at hv;obtain⟨rfl,_,rfl⟩:=hv;have e1:=(hB.cell (p:=⟨ba,i,none⟩) hb2).trans hcell;have HC:=gp_ gx g x (.star a) wr (hEx.below hB) (hE1.below hB);have HTK:Hid ((LA.take (i+1)).map (fun x=>x.thn' (.star a))=(LA.take i).map (fun x=>x.thn' (.star a))++ [x.thn' (.star a)]):=by
     unfold Hid;rw[List.take_add_one,hx,List.map_append];rfl
    have HO:Hid (wr.ownsRow w1.heap.size 104 1 (.slice lo i lc) i (a3_ hs)):=ho;have HL:Hid (a1_ wr hs ((LA.take i).map fun x=>x.thn' (.star a))):=hL;have HB:Hid (Below w1.heap.size w1 wr):=hB;have HHS:Hid (hs.length=i):=hhs;clear ho hL hB hhs hx hgx hcell hEx;go_wp2_with fail;refine HC.mono ?_;clear HC;rintro e w2 ⟨g2,rfl,hE2,hB2⟩;have hsz2:=hB2.size;have hna:=(al_ HO.out hB2).alloc (.cells #[.pointer (some ⟨g2,0,none⟩)] 104);have HLL:Hid (a1_ (w2.alloc (.cells #[.pointer (some ⟨g2,0,none⟩)] 104)) (hs++ [g2]) ((LA.take (i+1)).map fun x=>x.thn' (.star a))):=by
     unfold Hid;rw[HTK.out];exact((HL.out.below hB2).snoc hE2).below ba__
    have HOW:Hid (∀x,(Value.slice lo i lc).ownBlock=some x->w1.heap.size<=x):=fun x e=>(HO.out.lt x e).1
    have HB2:Hid (Below w1.heap.size w1 w2):=HB.out.trans (hB2.mono hsz);clear hE2 hB2 e1;go_wp2_with (at_builtin;refine ae_ _ rfl _ _ 144 rfl w1.heap.size 104 i0 (.pointer none) 1 8 underlying144 hi0 hz0 hz01 hz02 rfl d_ (.slice lo i lc) i (a3_ hs) rfl hna ⟨w2.heap.size,0,none⟩ 1 1 [.pointer (some ⟨g2,0,none⟩)] rfl rfl (cell_one_new _ _ _) (oc__ rfl) d_ u_ o_ s_ ?_;intro g3 cap3 w3 hown3 hgr hfr;have HO3:Hid (w3.ownsRow w1.heap.size 104 1 (.slice (some ⟨g3,0,none⟩) (i+1) cap3) (i+1) (a3_ hs++ [.pointer (some ⟨g2,0,none⟩)])):=hown3;have HL3:Hid (a1_ w3 (hs++ [g2]) ((LA.take (i+1)).map fun x=>x.thn' (.star a))):=HLL.out.imp (fun _ _ h=>k8_ hna hgr h);have HB3:Hid (Below w1.heap.size w1 w3):=(HB2.out.alloc o_ _).grown hgr s_ (fun x e=>HOW.out x e);clear hown3 hgr hfr);go_roundw
    case rel=>
     refine⟨i+1,hs++ [g2],some ⟨g3,0,none⟩,cap3,o_,by rw[List.length_append,HHS.out];rfl,rfl,by go_num, ?_,HL3.out,HB3.out⟩;rw[iv_];exact HO3.out
    case measure=>simp[intOf];omega
  . have hlt2:¬(i:Int)<(n1:Int):=o_;obtain rfl:i=n1:=o_;have HO:Hid (wr.ownsRow w1.heap.size 104 1 (.slice lo i lc) hs.length (a3_ hs)):=by unfold Hid;rw[hhs];exact ho
    have HL:Hid (a1_ wr hs (LA.map fun x=>x.thn' (.star a))):=by
     unfold Hid;rw[List.take_of_length_le (by rw[HN.out];omega)]at hL;exact hL
    have HB:Hid (Below w.heap.size w wr):=HB1.out.trans (hB.mono hsz1);clear ho hL hB hhs;go_wp2_with fail;go_ret;exact⟨_,hs,rfl,mz_ HO.out hsz1,HL.out,HB.out⟩
theorem up_ (a b:Ex)(iha:BhC a)(ihb:BhC b):BhC (.thn a b):=by
 intro g c w hc h hl;have k0:=h.kind;simp only[Ex.kind,show((2:Nat):Int)=2 from rfl]at k0;obtain⟨ga,gb,h1,h2,h3⟩:=h;obtain⟨c9,c10⟩:=fb_ h1;have hg:=ac_ h1;unfold ptr at c9 c10;obtain⟨i0,hi0,hz0,hz01,hz02⟩:=info_parts iu_;simp only[Ex.letters]at hl;have hla:=ge_ a c;have hlb:=ge_ b c;have HA:=iha ga c w hc h2 o_;have HEMP:∀w1,Below w.heap.size w w1->Calls prog 151 #[.pointer (some ⟨ga,0,none⟩)] w1 fun r w'=>r= .returned (.bool a.empty)/\w1=w':=fun w1 hb=>qq_ a ga w1 (h2.below hb)
 have HBB:∀w1,Below w.heap.size w w1->Calls prog 152 #[.pointer (some ⟨gb,0,none⟩),.int .i64 (c:Int)] w1 (zs_ (b.behind c) w1):=fun w1 hb=>ihb gb c w1 hc (h3.below hb) o_
 simp only[Ex.behind];obtain⟨ea,HEA⟩:=hx__ (a.empty);obtain⟨LB,HLB⟩:=hx__ (b.behind c);rw[HEA.out]at HEMP ⊢;rw[HLB.out]at HBB hlb ⊢;obtain⟨LA,HLA⟩:=hx__ (a.behind c);rw[HLA.out]at HA hla ⊢;clear iha ihb h1 h2 HLA HLB HEA;go_enter func152,ntmps152;go_wp2_with fail;refine HA.mono ?_;clear HA;rintro e w1 ⟨v1,gs1,rfl,ho1,hL1,hB1⟩;have hsz1:=hB1.size;have hE1:=h3.below hB1;have d9:=(hB1.cell (p:=⟨g,9,none⟩) hg).trans c9;have d10:=(hB1.cell (p:=⟨g,10,none⟩) hg).trans c10;have hg1:g<w1.heap.size:=o_;have HN1:Hid (gs1.length=LA.length):=hL1.len;obtain⟨n1,HN⟩:=hx__ (LA.length);rw[HN.out]at hla;have HL1:Hid (a1_ w1 gs1 LA):=hL1;have HO1:Hid (w1.ownsRow w.heap.size 104 1 v1 n1 (a3_ gs1)):=by unfold Hid;rw[<-HN.out,<-HN1.out];exact ho1
 have HB1:Hid (Below w.heap.size w w1):=hB1;have HSH:∃ao cap,v1= .slice ao n1 cap:=by
  obtain⟨ao,cap,e,_⟩:=af_ HO1.out;exact⟨ao,cap,e⟩
 obtain⟨ao,cap,rfl⟩:=HSH;clear ho1 hL1 hB1 c9 c10 k0 h3;go_wp2_with fail;go_loopw [5,10,11] (fun l' i' _ wr=>∃(i:Nat) (hs:List Nat) (lo:Option Addr) (lc:Nat),i<=n1/\hs.length=i/\l'= .slice lo i lc/\i'= .int .i64 (i:Int)/\wr.ownsRow w1.heap.size 104 1 (.slice lo i lc) i (a3_ hs)/\a1_ wr hs ((LA.take i).map fun x=>x.thn' b)/\Below w1.heap.size w1 wr) (fun _ i' _ _=>n1 - (intOf i').toNat)
 case atStart=>exact⟨0,[],none,0,o_,rfl,rfl,rfl,on__,trivial,br__⟩
 case round=>
  obtain⟨i,hs,lo,lc,hi,hhs,rfl,rfl,ho,hL,hB⟩:=hrel;have hsz:=hB.size;by_cases hlt:i<n1
  . have hlt2:(i:Int)<(n1:Int):=o_;have HX:∃x,LA[i]? =some x:=⟨LA[i]'(by rw[HN.out];omega),List.getElem?_eq_getElem _⟩;obtain⟨x,hx⟩:=HX;obtain⟨gx,hgx,hEx⟩:=HL1.out.get hx;obtain⟨ba,cap',hv,hb1,hb2,hcell⟩:=jg_ HO1.out hgx;simp only[Value.slice.injEq]at hv;obtain⟨rfl,_,rfl⟩:=hv;have e1:=(hB.cell (p:=⟨ba,i,none⟩) hb2).trans hcell;have HC:=gp_ gx gb x b wr.drew (hEx.below hB.drew) (hE1.below hB.drew);have HTK:Hid ((LA.take (i+1)).map (fun x=>x.thn' b)=(LA.take i).map (fun x=>x.thn' b)++ [x.thn' b]):=by
     unfold Hid;rw[List.take_add_one,hx,List.map_append];rfl
    have HO:Hid (wr.ownsRow w1.heap.size 104 1 (.slice lo i lc) i (a3_ hs)):=ho;have HL:Hid (a1_ wr hs ((LA.take i).map fun x=>x.thn' b)):=hL;have HB:Hid (Below w1.heap.size w1 wr):=hB;have HHS:Hid (hs.length=i):=hhs;have e2:=(hB.cell (p:=⟨g,10,none⟩) hg1).trans d10;have hi0':(0:Int)<=(i:Int):=o_;clear ho hL hB hhs hx hgx hcell hEx d9 d10 HBB HEMP;go_wp2_with fail;go_region_held3 (fun w'=>w'.cell? ⟨ba,i,none⟩=some (.pointer (some ⟨gx,0,none⟩))/\w'.cell? ⟨g,10,none⟩=some (.pointer (some ⟨gb,0,none⟩))) (go_keep)
     ((go_at_call 156;refine HC.mono ?_;rintro e w2 ⟨g2,rfl,hE2,hB2'⟩;have hB2:Below wr.heap.size wr w2:=(Below.refl wr.heap.size wr).drew.trans hB2';have e1':=(hB2.cell (p:=⟨ba,i,none⟩) (by show ba<_;omega)).trans e1;have e2':=(hB2.cell (p:=⟨g,10,none⟩) (by show g<_;omega)).trans e2;clear hB2' HC))
    have hsz2:=hB2.size;have hna:=(al_ HO.out hB2).alloc (.cells #[.pointer (some ⟨g2,0,none⟩)] 104);have HLL:Hid (a1_ (w2.alloc (.cells #[.pointer (some ⟨g2,0,none⟩)] 104)) (hs++ [g2]) ((LA.take (i+1)).map fun x=>x.thn' b)):=by
     unfold Hid;rw[HTK.out];exact((HL.out.below hB2).snoc hE2).below ba__
    have HOW:Hid (∀x,(Value.slice lo i lc).ownBlock=some x->w1.heap.size<=x):=fun x e=>(HO.out.lt x e).1
    have HB2:Hid (Below w1.heap.size w1 w2):=HB.out.trans (hB2.mono hsz);clear hE2 hB2 e1;go_wp2_with (at_builtin;refine ae_ _ rfl _ _ 144 rfl w1.heap.size 104 i0 (.pointer none) 1 8 underlying144 hi0 hz0 hz01 hz02 rfl d_ (.slice lo i lc) i (a3_ hs) rfl hna ⟨w2.heap.size,0,none⟩ 1 1 [.pointer (some ⟨g2,0,none⟩)] rfl rfl (cell_one_new _ _ _) (oc__ rfl) d_ u_ o_ s_ ?_;intro g3 cap3 w3 hown3 hgr hfr;have HO3:Hid (w3.ownsRow w1.heap.size 104 1 (.slice (some ⟨g3,0,none⟩) (i+1) cap3) (i+1) (a3_ hs++ [.pointer (some ⟨g2,0,none⟩)])):=hown3;have HL3:Hid (a1_ w3 (hs++ [g2]) ((LA.take (i+1)).map fun x=>x.thn' b)):=HLL.out.imp (fun _ _ h=>k8_ hna hgr h);have HB3:Hid (Below w1.heap.size w1 w3):=(HB2.out.alloc o_ _).grown hgr s_ (fun x e=>HOW.out x e);clear hown3 hgr hfr);go_roundw
    case rel=>
     refine⟨i+1,hs++ [g2],some ⟨g3,0,none⟩,cap3,o_,by rw[List.length_append,HHS.out];rfl,rfl,by go_num, ?_,HL3.out,HB3.out⟩;rw[iv_];exact HO3.out
    case measure=>simp[intOf];omega
  . have hlt2:¬(i:Int)<(n1:Int):=o_;obtain rfl:i=n1:=o_;have hLm:a1_ wr hs (LA.map fun x=>x.thn' b):=by
     rw[List.take_of_length_le (by rw[HN.out];omega)]at hL;exact hL
    have hBw:Below w.heap.size w wr:=HB1.out.trans (hB.mono hsz1);have e9:=(hB.cell (p:=⟨g,9,none⟩) hg1).trans d9;have e10:=(hB.cell (p:=⟨g,10,none⟩) hg1).trans d10;have HC:=HEMP wr hBw;have HC2:=HBB wr hBw;have HO:Hid (wr.ownsRow w.heap.size 104 1 (.slice lo i lc) i (a3_ hs)):=mz_ ho hsz1;have HHS:Hid (hs.length=i):=hhs;have HLM:=hi__ hLm;have HBW:=hi__ hBw;have hsw:=hBw.size;clear ho hL hB hhs hLm hBw HEMP HBB d9 d10;go_wp2_with fail;refine HC.mono ?_;clear HC;rintro e w2 ⟨rfl,rfl⟩;cases ea
    . clear HC2;go_wp2_with fail;go_ret;refine⟨_,hs,rfl,by rw[HHS.out];exact HO.out, ?_,HBW.out⟩;first|exact HLM.out|simpa using HLM.out
    . go_wp2_with fail;refine HC2.mono ?_;clear HC2;rintro e w2 ⟨v2,gs2,rfl,ho2,hL2,hB2⟩;have hsz2:=hB2.size;have hn2:gs2.length<=b.letters:=by rw[hL2.len];exact hlb
      have hna:=al_ HO.out hB2;have HLL:Hid (a1_ w2 (hs++gs2) ((LA.map fun x=>x.thn' b)++LB)):=(HLM.out.below hB2).app hL2;have HOW:Hid (∀x,(Value.slice lo i lc).ownBlock=some x->w.heap.size<=x):=fun x e=>(HO.out.lt x e).1
      have HB2:Hid (Below w.heap.size w w2):=HBW.out.trans (hB2.mono hsw);obtain⟨n2,HN2⟩:=hx__ (gs2.length);rw[HN2.out]at ho2 hn2;clear hL2 hB2 e9 e10;go_wp2_with (at_builtin;refine hy_ _ rfl _ _ 144 rfl w.heap.size wr.heap.size 104 i0 (.pointer none) 8 underlying144 hi0 hz0 hz01 hz02 rfl (.slice lo i lc) i (a3_ hs) rfl hna v2 n2 (a3_ gs2) rfl ho2 (ta_ gs2) u_ o_ o_ ?_;intro v' w3 hown3 hgr;have HO3:Hid (w3.ownsRow w.heap.size 104 1 v' (i+n2) (a3_ hs++a3_ gs2)):=hown3;have HL3:Hid (a1_ w3 (hs++gs2) ((LA.map fun x=>x.thn' b)++LB)):=HLL.out.imp (fun _ _ h=>k8_ hna hgr h);have HB3:Hid (Below w.heap.size w w3):=HB2.out.grown hgr o_ (fun x e=>HOW.out x e);clear hown3 hgr);go_ret;refine⟨v',hs++gs2,rfl, ?_, ?_,HB3.out⟩
      . have:=HO3.out;rw[<-iv_,<-HHS.out,<-HN2.out,<-List.length_append]at this;exact this
      . first|exact HL3.out|simpa using HL3.out
theorem w3_ (e:Ex):BhC e:=by
 induction e with
 |nil=>exact um_
 |one S=>exact un_ S
 |star a iha=>exact tb_ a iha
 |thn a b iha ihb=>exact up_ a b iha ihb
 |alt a b iha ihb=>exact uo_ a b iha ihb
structure RsAt (w:World)(eo:Option Addr)(ec:Nat)(no:Option Addr)(nc:Nat)(L:List Ex):Prop where
 es:∃gs,w.ownsRow 0 104 1 (.slice eo L.length ec) L.length (a3_ gs)/\a1_ w gs L
 ns:w.ownsRow 0 9 1 (.slice no L.length nc) L.length (strs (L.map Ex.nb))
theorem RsAt.below {w w':World}{eo no:Option Addr}{ec nc:Nat}{L:List Ex}(h:RsAt w eo ec no nc L)(hb:Below w.heap.size w w'):RsAt w' eo ec no nc L:=by
 obtain⟨⟨gs,h1,h2⟩,h3⟩:=h;exact⟨⟨gs,al_ h1 hb,h2.below hb⟩,al_ h3 hb⟩
theorem RsAt.nil (w:World):RsAt w none 0 none 0 []:=⟨⟨[],on__,trivial⟩,on__⟩
theorem RsAt.exp {w:World}{eo no:Option Addr}{ec nc:Nat}{L:List Ex}(h:RsAt w eo ec no nc L){i:Nat}{x:Ex}(hx:L[i]? =some x):∃a g,eo=some ⟨a,0,none⟩/\a<w.heap.size/\w.cell? ⟨a,i,none⟩=some (.pointer (some ⟨g,0,none⟩))/\ExAt w g x:=by
 obtain⟨⟨gs,h1,h2⟩,_⟩:=h;obtain⟨g,hg,hE⟩:=h2.get hx;obtain⟨a,cap,hv,_,hl,hc⟩:=jg_ h1 hg;simp only[Value.slice.injEq]at hv;exact⟨a,g,hv.1,hl,hc,hE⟩
theorem RsAt.name {w:World}{eo no:Option Addr}{ec nc:Nat}{L:List Ex}(h:RsAt w eo ec no nc L){i:Nat}{x:Ex}(hx:L[i]? =some x):∃a,no=some ⟨a,0,none⟩/\a<w.heap.size/\w.cell? ⟨a,i,none⟩=some (.string x.nb):=by
 have h3:=h.ns;have hl:L.length=(L.map Ex.nb).length:=i_;have h4:w.ownsRow 0 9 1 (.slice no L.length nc) (L.map Ex.nb).length (strs (L.map Ex.nb)):=by rw[<-hl];exact h3
 obtain⟨g,h5,_,_,h6,h7⟩:=l8_ h4 (i:=i) (y:=x.nb) (by simp[hx]);exact⟨g,h5,h6,h7⟩
theorem afi_ {a b:Ex}(ha:a.can)(hb:b.can)(h:a.nb=b.nb):a=b:=ada_ ha hb (by rw[<-fn_,<-fn_,h])
theorem uq_ (w:World)(eo no:Option Addr)(ec nc:Nat)(L:List Ex)(h:RsAt w eo ec no nc L)(hl:L.length<=2^20):Calls prog 115 #[.agg #[.slice eo L.length ec,.slice no L.length nc]] w fun r w'=>r= .returned (.bool (L.any Ex.empty))/\Below w.heap.size w w':=by
 obtain⟨bb,HBB⟩:=hx__ (L.any Ex.empty);rw[HBB.out];obtain⟨n,HN⟩:=hx__ (L.length);rw[HN.out]at hl ⊢;obtain⟨W,hW,BW,-,b0⟩:=nw__ w #[.slice eo n ec,.slice no n nc] 146;obtain⟨x0,x1,_,_⟩:=aa_ b0;have HR:=hi__ h;clear h b0;go_enter func115,ntmps115;go_upto_region 1 with fail;rw[<-hW];clear hW;go_wp2_with fail;go_loop [3,4] (fun i' _=>∃i:Nat,i<=n/\i'= .int .i64 (i:Int)/\Hid ((L.drop i).any Ex.empty=bb)) (fun i' _=>n - (intOf i').toNat)
 case atStart=>exact⟨0,o_,rfl,HBB⟩
 case round=>
  obtain⟨i,hi,rfl,HD⟩:=hrel;by_cases hlt:i<n
  . have hlt2:(i:Int)<(n:Int):=o_;have hL:i<L.length:=by rw[HN.out];exact hlt
    obtain⟨x,hx⟩:∃x,L[i]? =some x:=⟨L[i],List.getElem?_eq_getElem hL⟩;obtain⟨a,g,rfl,ha,hc,hE⟩:=(HR.out.below BW).exp hx;have HC:=qq_ x g W hE;have HD2:Hid ((x.empty||(L.drop (i+1)).any Ex.empty)=bb):=by
     unfold Hid;rw[<-HD.out,List.drop_eq_getElem_cons hL,List.any_cons];rw[List.getElem?_eq_getElem hL]at hx;simp only[Option.some.injEq]at hx;rw[hx]
    obtain⟨ee,HEE⟩:=hx__ (x.empty);rw[HEE.out]at HC HD2;clear HD hE hx;go_wp2_with fail;refine HC.mono ?_;clear HC;rintro e w2 ⟨rfl,rfl⟩;cases ee
    . go_wp2_with fail;go_round
      case rel=>exact⟨i+1,o_,by go_num,by unfold Hid;rw[<-HD2.out];rfl⟩
      case measure=>simp[intOf];omega
    . have hb:bb=true:=by rw[<-HD2.out];rfl
      subst hb;go_wp2_with fail;go_ret;exact⟨rfl,BW⟩
  . have hlt2:¬(i:Int)<(n:Int):=o_;have hb:bb=false:=by rw[<-HD.out,List.drop_of_length_le (by rw[HN.out];omega)];rfl
    subst hb;go_wp2_with fail;go_ret;exact⟨rfl,BW⟩
theorem w4_ {L M:List Ex}(hL:∀x∈L,x.can)(hM:∀x∈M,x.can)(h:L.map Ex.nb=M.map Ex.nb):L=M:=by
 induction L generalizing M with
 |nil=>cases M with
  |nil=>rfl
  |cons y M=>simp at h
 |cons x L ih=>
  cases M with
  |nil=>simp at h
  |cons y M=>
   simp only[List.map_cons,List.cons.injEq]at h;rw[afi_ (hL x i_) (hM y i_) h.1,ih (fun z hz=>hL z (by simp[hz])) (fun z hz=>hM z (by simp[hz])) h.2]
noncomputable def hl_ (L M:List Ex):Bool:=decide (L.map Ex.nb=M.map Ex.nb)
theorem zt_ {L M:List Ex}(h:L.map Ex.nb=M.map Ex.nb):hl_ L M=true:=decide_eq_true h
theorem aci_ {L M:List Ex}(h:L.map Ex.nb≠M.map Ex.nb):hl_ L M=false:=decide_eq_false h
theorem zu_ {L M:List Ex}(hL:∀x∈L,x.can)(hM:∀x∈M,x.can):hl_ L M=true↔L=M:=by
 unfold hl_;rw[decide_eq_true_eq];exact⟨w4_ hL hM,fun h=>by rw[h]⟩
theorem tc_ (w:World)(eo no fo po:Option Addr)(ec nc fc pc:Nat)(L M:List Ex)(h:RsAt w eo ec no nc L)(h':RsAt w fo fc po pc M)(hl:L.length<=2^20)(hm:M.length<=2^20):
 Calls prog 117 #[.agg #[.slice eo L.length ec,.slice no L.length nc],.agg #[.slice fo M.length fc,.slice po M.length pc]] w fun r w'=>r= .returned (.bool (hl_ L M))/\Below w.heap.size w w':=by
 have HY:Hid (L.map Ex.nb=M.map Ex.nb->hl_ L M=true):=zt_;have HNO:Hid (∀i:Nat,(L.map Ex.nb)[i]? ≠(M.map Ex.nb)[i]? ->hl_ L M=false):=fun i hi=>aci_ (fun e=>hi (by rw[e]))
 obtain⟨bb,HBB⟩:=hx__ (hl_ L M);rw[HBB.out]at HY HNO ⊢;obtain⟨n,HN⟩:=hx__ (L.length);obtain⟨m,HM⟩:=hx__ (M.length);rw[HN.out,HM.out];rw[HN.out]at hl;rw[HM.out]at hm;obtain⟨W,hW,BW,b0,b1⟩:=n2__ w #[.slice eo n ec,.slice no n nc] 146 #[.slice fo m fc,.slice po m pc] 146;obtain⟨x0,x1,_,_⟩:=aa_ b0;obtain⟨y0,y1,_,_⟩:=aa_ b1;have hs1:=ac_ b1;have HR:=hi__ h;have HR':Hid (RsAt w fo fc po pc M):=h';clear h h' b0 b1;by_cases hnm:n=m
 . have q0:((n:Int)==(m:Int))=true:=s_;subst hnm;clear q0;go_enter func117,ntmps117;go_upto_region 1 with fail;rw[<-hW];clear hW;go_wp2_with fail;go_loopw [5] (fun i' wr=>∃(i:Nat),i<=n/\i'= .int .i64 (i:Int)/\Hid ((L.map Ex.nb).take i=(M.map Ex.nb).take i)/\Below W.heap.size W wr) (fun i' _=>n - (intOf i').toNat)
   case atStart=>exact⟨0,o_,rfl,rfl,br__⟩
   case round=>
    obtain⟨i,hi,rfl,HT,hB⟩:=hrel;have x1':=(hB.cell (p:=⟨w.heap.size,1,none⟩) (by show w.heap.size<_;omega)).trans x1;have y1':=(hB.cell (p:=⟨w.heap.size+1,1,none⟩) hs1).trans y1;have BQ:Below w.heap.size w wr:=BW.trans (hB.mono BW.size);by_cases hlt:i<n
    . have hlt2:(i:Int)<(n:Int):=o_;have hL:i<L.length:=by rw[HN.out];exact hlt
      have hM:i<M.length:=by rw[HM.out];exact hlt
      obtain⟨x,hx⟩:∃x,L[i]? =some x:=⟨L[i],List.getElem?_eq_getElem hL⟩;obtain⟨y,hy⟩:∃x,M[i]? =some x:=⟨M[i],List.getElem?_eq_getElem hM⟩;obtain⟨a,rfl,ha,hc⟩:=(HR.out.below BQ).name hx;obtain⟨a',rfl,ha',hc'⟩:=(HR'.out.below BQ).name hy;have eq1:=fr_ x.nb y.nb;have HXY:Hid ((L.map Ex.nb)[i]? =some x.nb/\(M.map Ex.nb)[i]? =some y.nb):=⟨by simp[hx],by simp[hy]⟩;obtain⟨xb,HXB⟩:=hx__ (x.nb);obtain⟨yb,HYB⟩:=hx__ (y.nb);rw[HXB.out]at hc eq1 HXY;rw[HYB.out]at hc' eq1 HXY;clear hx hy HXB HYB;by_cases hxy:xb=yb
      . subst hxy;have q2:(xb.toList==xb.toList)=true:=by rw[eq1];simp
        have HT2:Hid ((L.map Ex.nb).take (i+1)=(M.map Ex.nb).take (i+1)):=by
         unfold Hid;rw[List.take_add_one,List.take_add_one,HT.out,HXY.out.1,HXY.out.2]
        clear eq1 HT;go_wp2_with fail;go_quiet (fail);go_wp2_with fail;go_roundw
        case rel=>exact⟨i+1,o_,by go_num,HT2,below_drewN hB nq⟩
        case measure=>simp[intOf];omega
      . have q2:(xb.toList==yb.toList)=false:=by rw[eq1];simp[hxy]
        have hb:bb=false:=HNO.out i (by rw[HXY.out.1,HXY.out.2];simp[hxy]);subst hb;clear eq1 HT hxy;go_wp2_with fail;go_quiet (fail);go_wp2_with fail;go_ret;exact⟨rfl,below_drewN BQ nq⟩
    . have hlt2:¬(i:Int)<(n:Int):=o_;have hb:bb=true:=by
       apply HY.out;have:=HT.out;rw[List.take_of_length_le (by rw[List.length_map,HN.out];omega),List.take_of_length_le (by rw[List.length_map,HM.out];omega)]at this;exact this
      subst hb;go_wp2_with fail;go_ret;exact⟨rfl,BQ⟩
 . have q0:((n:Int)==(m:Int))=false:=s_;have hb:bb=false:=by
    rcases Nat.lt_or_gt_of_ne hnm with hlt|hlt
    . apply HNO.out n;rw[List.getElem?_eq_none (by simp[HN.out]),List.getElem?_eq_getElem (by simp[HM.out];omega)];simp
    . apply HNO.out m;rw[List.getElem?_eq_none (l:=M.map Ex.nb) (by simp[HM.out]),List.getElem?_eq_getElem (by simp[HN.out];omega)];simp
   subst hb;go_enter func117,ntmps117;go_upto_region 1 with fail;rw[<-hW];clear hW;go_wp2_with fail;go_ret;exact⟨rfl,BW⟩
end Go.Proofs.YtpngikmcjkjdaaaGreatDoor
