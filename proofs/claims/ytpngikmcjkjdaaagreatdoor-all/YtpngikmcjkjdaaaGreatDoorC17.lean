import Derived.Deep.Upon
import Derived.Test.YtpngikmcjkjdaaaGreatDoorC9
set_option linter.unusedVariables false
set_option linter.unusedSimpArgs false
set_option maxRecDepth 20000
set_option maxHeartbeats 80000000
namespace Go.Proofs.YtpngikmcjkjdaaaGreatDoor
open Go.RowKit Tryz List Nat
variable {x:List Value} {B base cap e g i n n':Nat} {f:Nat->Value} {P:Program} {vn:Value} {W w w' w2:World}
def χ (w:World)(b t n:Nat)(f:Nat->Value):Prop:=∃c:Array Value,w.heap[b]? =some (.cells c t (0,0))/\n<=c.size/\∀i,i<n->c[i]? =some (f i)
namespace χ
variable {w:World} {b t n:Nat} {f g:Nat->Value}
theorem cell (h:χ w b t n f)(hi:i<n):w.cell? ⟨b,i,none⟩=some (f i):=by
 obtain⟨c,a,_,d⟩:=h;simp[World.cell?,a,d i hi]
theorem frozen (h:χ w b t n f)(i:Nat):w.frozen? ⟨b,i,none⟩=false:=by
 obtain⟨c,a,_,_⟩:=h;simp[World.frozen?,a]
theorem lt (h:χ w b t n f):b<w.heap.size:=by
 obtain⟨c,a,_,_⟩:=h;exact κ a
theorem congr (h:χ w b t n f)(e:∀i,i<n->f i=g i):χ w b t n g:=by
 obtain⟨c,a,j,d⟩:=h;exact⟨c,a,j,fun i hi=>by rw[d i hi,e i hi]⟩
theorem of_block (h:χ w b t n f)(e:w'.heap[b]? =w.heap[b]?):χ w' b t n f:=by
 obtain⟨c,a,g,d⟩:=h;exact⟨c,e.trans a,g,d⟩
theorem below (h:χ w b t n f)(hb:Bl w w'):χ w' b t n f:=h.of_block (hb.block b h.lt)
theorem set (h:χ w b t n f)(i:Nat)(v:Value):χ (w.setCell ⟨b,i,none⟩ v) b t n (fun j=>if j=i then v else f j):=by
 obtain⟨c,a,g,d⟩:=h;refine⟨c.setIfInBounds i v, ?_,by simpa using g,fun j hj=> ?_⟩
 . simp[World.setCell,Array.getElem?_modify,a]
 . rw[Array.getElem?_setIfInBounds];by_cases e:j=i
   . subst e;simp;omega
   . rw[if_neg (fun h=>e h.symm)];show c[j]? =some (if j=i then v else f j)
     rw[if_neg e];exact d j hj
theorem setOther (h:χ w b t n f){a:Addr}(ha:b≠a.block)(v:Value):χ (w.setCell a v) b t n f:=h.of_block (Below.heap_setCell w a v b ha)
theorem alloc (h:χ w b t n f)(o:Obj):χ (w.alloc o) b t n f:=h.of_block (Below.heap_alloc w o b h.lt)
theorem drew (h:χ w b t n f):χ w.drew b t n f:=h
theorem ne {b' t':Nat}{f':Nat->Value}(h:χ w b t n f)(h':χ w b' t' n' f')(ht:t≠t'):b≠b':=by
 obtain⟨c,d,_,_⟩:=h;obtain⟨g,a,_,_⟩:=h';intro e;subst e;rw[d]at a;simp only[Δ,Obj.cells.injEq]at a;exact ht a.2.1
theorem ofRow (h:w.rowIs b t n f):χ w b t n f:=by
 obtain⟨c,a,e,d⟩:=h;exact⟨c,a,o_,d⟩
end χ
theorem χ.dQ (h:w.ownsRow base e 1 (.slice (some ⟨g,0,none⟩) n cap) n x)(hx:∀i,i<n->x[i]? =some (f i)):χ w g e n f:=by
 rcases h.2 with ⟨b,_⟩|⟨m,l,c,b,o,d,q,p,j,k⟩
 . cases b
 . injection b with e1 e2 e3;injection e1 with e1;injection e1 with e1;subst e1;subst e3;refine⟨c,d,by rw[j];omega,fun i hi=> ?_⟩;have a:=hx i hi;rw[<-k]at a;rw[getElem?_take]at a;split at a
   . simpa using a
   . simp at a
theorem pe_ (w:World){ops:Array Oper}{rest:List Oper}{o:Oper}{a:Act}{Q:Exit->Act->World->Prop}(hgd:o.guard=none)(s x:Operand)(t:TypeId)
 (ho:o.op= .call {callee:= .builtin .append,args:= #[s,x],argTypes:= #[t,t]})
 (e:TypeId) (i:TypeInfo) (ht:P.underlying t=some (.slice e)) (hi:P.info? e=some i)
 (ao:Option Addr) (c:Nat) (hs:a.eval s= .slice none 0 0) (hx:a.eval x= .slice ao 0 c)
 (h:wpList P ops Q rest (a.put o.dst (.slice none 0 0)) w):wpList P ops Q (o::rest) a w:=by
 refine wpList_plain hgd fun K hK=> ?_
 have d:Src P i.size t (.slice ao 0 c) 0 [] w:=by
  cases ao with
  |none=>exact Src.ofNil w ht c
  |some ad=>exact Src.ofSlice w ht ad 0 c [] i_ i_ i_
 have b:=run_append_nothing (P:=P) w t t o.type e i ht hi none 0 0 o_ (.slice ao 0 c) d;unfold Oper.wp execOp;simp only[ho,resolve,invoke,builtin,Sem.run_bind,Sem.run_pure,Result.andThen_ok,map_toArray,map_cons,map_nil,hs,hx,b];exact hK _ _ h
theorem nf_ (f:Nat->Value)(m j:Nat)(h:j<m):((List.range m).map f)[j]? =some (f j):=by simp[h]
theorem pf_ (w:World){ops:Array Oper}{rest:List Oper}{o:Oper}{a:Act}{Q:Exit->Act->World->Prop}(hgd:o.guard=none)(s x:Operand)(t:TypeId)
 (ho:o.op= .call {callee:= .builtin .append,args:= #[s,x],argTypes:= #[t,t]})
 (e:TypeId) (i:TypeInfo) (z:Value) (bytes:Nat) (ht:P.underlying t=some (.slice e)) (hi:P.info? e=some i) (hz:i.zero=some z)
 (hsize:i.size=1) (hby:i.bytes=bytes) (hzs:z.cells.size=1)
 (b0 o0 m c:Nat) (f:Nat->Value) (hs:a.eval s= .slice none 0 0) (hx:a.eval x= .slice (some ⟨b0,o0,none⟩) m c) (hf:∀j,j<m->w.cell? ⟨b0,o0+j,none⟩=some (f j)) (h1:∀j,(f j).oneCell'=true)
 (hm:0<m) (h63:m<=maxLen) (hbytes:m*bytes<=140737488355328)
 (h:∀cap w',χ w' w.heap.size e m f->w.grownBy w' none->wpList P ops Q rest (a.put o.dst (.slice (some ⟨w.heap.size,0,none⟩) m cap)) w'):wpList P ops Q (o::rest) a w:=by
 refine jh_ w hgd s x t ho w.heap.size e i z 1 bytes ht hi hz hsize hby hzs d_ (.slice none 0 0) 0 [] hs a8_ ⟨b0,o0,none⟩ m c ((List.range m).map f) hx i_ ?_ ?_ hm (by simpa using h63) (by simpa using hbytes) ι ?_
 . intro j u b;have d:j<m:=by
    have:=(gs_.1 b).1;simpa using this
   rw[nf_ f m j d]at b;have l:(⟨b0,o0,none⟩:Addr).add j=⟨b0,o0+j,none⟩:=by unfold Addr.add;split<;>simp_all
   rw[l,hf j d];exact b
 . intro u b;simp only[mem_map,mem_range]at b;obtain⟨j,_,rfl⟩:=b;exact h1 j
 . intro g cap w' k p n;have q:g=w.heap.size:=by
    rcases n with h|h
    . simp[Value.ownBlock]at h
    . exact h
   subst q;rw[Nat.zero_add]at k ⊢;exact h cap w' (χ.dQ k (fun j d=>by simpa using nf_ f m j d)) p
theorem χ.grown {b t:Nat}(h:χ w b t n f){s:Nat}{v:Value}(ho:w.ownsRow base e s v n' x)(hne:t≠e)(hg:w.grownBy w2 v.ownBlock):χ w2 b t n f:=by
 refine h.of_block (hg.block b h.lt (fun e'=> ?_));rcases ho.2 with ⟨rfl,_⟩|⟨g,i,j,rfl,_,a,_⟩
 . simp[Value.ownBlock]at e'
 . simp only[Value.ownBlock,Δ]at e';subst e';obtain⟨c,d,_,_⟩:=h;rw[d]at a;simp only[Δ,Obj.cells.injEq]at a;exact hne a.2.1
theorem pg_ (hg:w.grownBy w2 none):Bl w w2:=⟨hg.os,hg.tape,hg.output,hg.size,fun k hk=>hg.block k hk i_⟩
def bn_ (rb rl rc:Nat->Nat)(i:Nat):Value:=if rl i=0 then .slice none 0 0 else .slice (some ⟨rb i,0,none⟩) (rl i) (rc i)
def b2_ (b n c:Nat):Value:=if n=0 then .slice none 0 0 else .slice (some ⟨b,0,none⟩) n c
theorem afj_ {rb rl rc rb' rc':Nat->Nat}(h:rb i=rb' i/\rc i=rc' i):bn_ rb rl rc i=bn_ rb' rl rc' i:=by unfold bn_;rw[h.1,h.2]
structure j7_ (N:Nat)(w:World)(ga gn:Nat)(rb rc:Nat->Nat)(na nn:Nat)(rl:Nat->Nat)(A:Nat->Bool)(X:Nat->Nat->Int):Prop where
 acc:0<na->N<=ga/\χ w ga 4 na (fun i=> .bool (A i))
 b7:0<nn->N<=gn/\χ w gn 24 nn (bn_ rb rl rc)
 row:∀j,j<nn->0<rl j->N<=rb j/\χ w (rb j) 3 (rl j) (fun c=> .int .i64 (X j c))
 cX:∀i j,i<j->j<nn->0<rl i->0<rl j->rb i≠rb j
structure fg_ (W:World)(B:Nat)(w:World)(va vn:Value)(i ga na:Nat)(rb rl rc:Nat->Nat)(A:Nat->Bool)(X:Nat->Nat->Int):Prop where
 cz:Below (B+1+1) W w
 cg:w.heap[B+1+1]? =some (.cells #[va,vn] 41 (0,0))
 acc:0<na->B+1+1+1<=ga/\χ w ga 4 na (fun i=> .bool (A i))
 own:w.ownsRow (B+1+1+1) 24 1 vn i ((List.range i).map (bn_ rb rl rc))
 row:∀j,j<i->0<rl j->B+1+1+1<=rb j/\χ w (rb j) 3 (rl j) (fun c=> .int .i64 (X j c))
 cX:∀j k,j<k->k<i->0<rl j->0<rl k->rb j≠rb k
 eA:i=0->vn= .slice none 0 0
section
variable {W:World} {B:Nat} {w w2:World} {va vn:Value} {i ga na:Nat} {rb rl rc:Nat->Nat} {A:Nat->Bool} {X:Nat->Nat->Int}
theorem fg_.below (h:fg_ W B w va vn i ga na rb rl rc A X)(hb:Bl w w2):fg_ W B w2 va vn i ga na rb rl rc A X where
 cz:=h.cz.trans (hb.mono (by have:=κ h.cg;omega))
 cg:=by rw[hb.block _ (κ h.cg)];exact h.cg
 acc hn:=⟨(h.acc hn).1,(h.acc hn).2.below hb⟩
 own:=ao_ h.own hb
 row j hj hl:=⟨(h.row j hj hl).1,(h.row j hj hl).2.below hb⟩
 cX:=h.cX
 eA:=h.eA
theorem fg_.app (h:fg_ W B w va vn i ga na rb rl rc A X)(b c:Nat)(hrow:0<rl i->B+1+1+1<=b/\χ w b 3 (rl i) (fun c=> .int .i64 (X i c)))(hne:∀j,j<i->0<rl j->rb j≠b)
  (hown:w2.ownsRow (B+1+1+1) 24 1 (.slice (some ⟨g,0,none⟩) (i+1) cap) (i+1) ((List.range i).map (bn_ rb rl rc)++ [if rl i=0 then .slice none 0 0 else .slice (some ⟨b,0,none⟩) (rl i) c]))
 (hg:w.grownBy w2 vn.ownBlock):
 w2.heap[B+1+1]? =some (.cells #[va,vn] 41 (0,0))/\
 fg_ W B (w2.setCell ⟨B+1+1,1,none⟩ (.slice (some ⟨g,0,none⟩) (i+1) cap)) va (.slice (some ⟨g,0,none⟩) (i+1) cap) (i+1) ga na (fun j=>if j=i then b else rb j) rl (fun j=>if j=i then c else rc j) A X:=by
 have m:=κ h.cg;have f:=fun x e=>h.own.lt x e
 have a:w2.heap[B+1+1]? =some (.cells #[va,vn] 41 (0,0)):=by
  rw[hg.block _ m (fun e=>by have:=(f _ e.symm).1;omega)];exact h.cg
 refine⟨a, ?_⟩;have l:(List.range i).map (bn_ rb rl rc)++ [if rl i=0 then .slice none 0 0 else .slice (some ⟨b,0,none⟩) (rl i) c]=(List.range (i+1)).map (bn_ (fun j=>if j=i then b else rb j) rl (fun j=>if j=i then c else rc j)):=by
  rw[range_succ,map_append];congr 1
  . apply map_congr_left;intro j d;have:j≠i:=by
     have:j<i:=by simpa using d
     omega
    apply afj_;simp[this]
  . simp[bn_]
 rw[l]at hown;refine⟨(h.cz.grown hg o_ (fun x e=>by have:=(f x e).1;omega)).setCell ι _,fr_ a,fun hn=>⟨(h.acc hn).1,((h.acc hn).2.grown h.own d_ hg).setOther (by have:=(h.acc hn).1;simp;omega) _⟩,
  ownsRow_setCell_below hown i_ _,fun j d hlj=> ?_,fun j k hjk hk hlj hlk=> ?_,fun h=>absurd h o_⟩
 . by_cases e:j=i
   . subst e;simp only[if_true];exact⟨(hrow hlj).1,((hrow hlj).2.grown h.own d_ hg).setOther (by have:=(hrow hlj).1;simp;omega) _⟩
   . simp only[if_neg e];have:=h.row j o_ hlj;exact⟨this.1,(this.2.grown h.own d_ hg).setOther (by have:=this.1;simp;omega) _⟩
 . by_cases e:k=i
   . subst e;simp only[if_true,if_neg (show j≠k by omega)];exact hne j o_ hlj
   . simp only[if_neg e,if_neg (show j≠i by omega)];exact h.cX j k hjk o_ hlj hlk
end
theorem ng_:(prog.info? 24).map (fun i=>(i.zero,i.size,i.bytes))=some (some (.slice none 0 0),1,24):=k_
theorem lv_ (aa an:Option Addr)(na ca nn cn:Nat)(ra:Nat->Option Addr)(rl rc0:Nat->Nat)(A:Nat->Bool)(X:Nat->Nat->Int)(w:World)(h:az_ w ⟨aa,an,na,ca,nn,cn,ra,rl,rc0⟩ A X)
 (hb1:na<=4398046511104) (hb2:nn<=4398046511104) (hb3:∀i,i<nn->rl i<=4398046511104):
 Calls prog 26 #[.agg #[.slice aa na ca,.slice an nn cn]] w
  fun e w'=>Bl w w'/\∃ga ca' gn cn' rb rc,e= .returned (.agg #[b2_ ga na ca',b2_ gn nn cn'])/\j7_ w.heap.size w' ga gn rb rc na nn rl A X:=by
 obtain⟨i4,au,aP,aQ,aR⟩:=info_parts hc_;obtain⟨i0,aq,av,aw,ax⟩:=info_parts ng_;obtain⟨i3,ar,aM,aN,aO⟩:=info_parts e9_;obtain⟨W,Z,BW,b0,b1,K⟩:=fe_ w #[.slice aa na ca,.slice an nn cn] 41 #[.slice none 0 0,.slice none 0 0] 41 #[.slice none 0 0,.slice none 0 0] 41;have aT:w.heap.size+1+1+1<=W.heap.size:=by rw[Z];simp
 have O:=h.below BW;go_enter func26,ntmps26;go_upto_region 2 with fail;rw[<-Z];clear Z;obtain⟨x0,x1,_,_⟩:=β b0;obtain⟨y0,y1,z0,z1⟩:=β K;go_cut [] (fun wc=>∃ga ca',fg_ W w.heap.size wc (b2_ ga na ca') (.slice none 0 0) 0 ga na (fun _=>0) rl (fun _=>0) A X)
 case first=>
  by_cases G:na=0
  . subst G;go_wp2_with (at_builtin;refine pe_ _ rfl _ _ 38 rfl 4 i4 underlying38 au aa ca rfl rfl ?_);go_meet
    exact⟨0,0,μ.setCell (p:=⟨w.heap.size+1+1,0,none⟩) ι _,cb_ K,fun h=>absurd h o_,a8_,fun j hj=>absurd hj o_,fun j k _ hk=>absurd hk o_,fun _=>rfl⟩
  . obtain⟨U,oa,ea,_⟩:=O.acc 0 (show 0<na by omega);have aH:aa=some ⟨U,oa,none⟩:=ea;subst aH;have ap:∀i,i<na->W.cell? ⟨U,oa+i,none⟩=some (.bool (A i)):=fun i hi=>by
     obtain⟨b,o,e,P⟩:=O.acc i hi;injection e with e;injection e with M N;subst M;subst N;exact P
    have aC:Hid _:=ap;clear ap O;go_wp2_with (at_builtin;refine pf_ _ rfl _ _ 38 rfl 4 i4 (.bool false) 1 underlying38 au aP aQ aR rfl U oa na ca (fun i=> .bool (A i)) rfl rfl aC.out (fun j=>rfl) o_ u_ o_ ?_;intro a d s q;have I:d.heap[w.heap.size+1+1]? =some (.cells #[.slice none 0 0,.slice none 0 0] 41 (0,0)):=(by rw[q.block _ o_ i_];exact K);obtain⟨f0,f1,f2,f3⟩:=β I;have aG:=α s;clear s);go_meet
    refine⟨W.heap.size,a,((pg_ q).mono (B':=w.heap.size+1+1) o_).setCell (p:=⟨w.heap.size+1+1,0,none⟩) ι _, ?_,fun h=>⟨o_,aG.out.setOther s_ _⟩,a8_,fun j hj=>absurd hj o_,fun j k _ hk=>absurd hk o_,fun _=>rfl⟩;rw[cb_ I];unfold b2_;rw[if_neg G]
 case rest=>
  obtain⟨ga,ca',ao⟩:=hcut;clear x0 x1 y0 y1 z0 z1 K O;go_wp2_with fail;go_loopw [4,5] (fun i' _ wr=>∃(i:Nat) (vn:Value) (rb rc:Nat->Nat),i<=nn/\i'= .int .i64 i/\fg_ W w.heap.size wr (b2_ ga na ca') vn i ga na rb rl rc A X)
   (fun i' _ _=>nn - (intOf i').toNat)
  case atStart=>exact⟨0,_,_,_,o_,rfl,ao⟩
  case round=>
   obtain⟨i,vn,rb,rc,hi,rfl,r⟩:=hrel;clear ao;have ac:=r.cz;have ad:=η BW ac;obtain⟨x0,x1,_,_⟩:=β ((ac.block _ o_).trans b0);obtain⟨y0,y1,z0,z1⟩:=β r.cg;obtain⟨n,m,rfl,ab⟩:=Β r.own;have aL:=κ r.cg;by_cases ag:i<nn
   . obtain⟨bn,on,en,P⟩:=(h.below ad).row i (show i<nn from ag);have aI:an=some ⟨bn,on,none⟩:=en;subst aI;have ae:wr.cell? ⟨bn,on+i,none⟩=some (.slice (ra i) (rl i) (rc0 i)):=P;have Q:∀c,c<rl i->∃b o,ra i=some ⟨b,o,none⟩/\wr.cell? ⟨b,o+c,none⟩=some (.int .i64 (X i c)):=fun c hcl=>(h.below ad).cT i c (show i<nn from ag) (show c<rl i from hcl)
     have aK:=hb3 i ag;have B:Hid _:=r;clear r ab h en P;by_cases J:rl i=0
     . obtain⟨aS,aF⟩:=δ (ra i);obtain⟨ai,S⟩:=δ (rc0 i);rw[J,aF.out,S.out]at ae;have ak:=α J;have R:Hid _:=B.out.below (μ.alloc ι (.cells #[.slice none 0 0] 24));have G:=R.out.own;have aU:w.heap.size+1+1+1<=(wr.alloc (.cells #[.slice none 0 0] 24)).heap.size:=s_;have HG:∀(g a:Nat) (f:World),f.ownsRow (w.heap.size+1+1+1) 24 1 (.slice (some ⟨g,0,none⟩) (i+1) a) (i+1) ((List.range i).map (bn_ rb rl rc)++ [.slice none 0 0])->(wr.alloc (.cells #[.slice none 0 0] 24)).grownBy f (Value.slice n i m).ownBlock->
        f.heap[w.heap.size+1+1]? =some (.cells #[b2_ ga na ca',.slice n i m] 41 (0,0))/\Hid (fg_ W w.heap.size (f.setCell ⟨w.heap.size+1+1,1,none⟩ (.slice (some ⟨g,0,none⟩) (i+1) a)) (b2_ ga na ca') (.slice (some ⟨g,0,none⟩) (i+1) a) (i+1) ga na (fun j=>if j=i then 0 else rb j) rl (fun j=>if j=i then 0 else rc j) A X):=by
        intro g a f ho H;refine R.out.app 0 0 (fun hl=>absurd hl (by have:=ak.out;omega)) (fun j hj hl e=> ?_) (by rw[ak.out];exact ho) H;have:=(R.out.row j hj hl).1;omega
       clear J Q;go_wp2_with (first|(at_builtin;refine pe_ _ rfl _ _ 24 rfl 3 i3 underlying24 ar aS ai rfl rfl ?_)|(at_builtin;refine Υ underlying39 aq av aw ax G ?_;intro g a f ah q aJ;obtain⟨f0,F⟩:=HG g a f ah q;obtain⟨f1,f2,f3,f4⟩:=β f0));go_roundw
       case rel=>exact⟨i+1,_,_,_,o_,by go_num,F.out⟩
       case measure=>exact c_
     . obtain⟨b,o,V,_⟩:=Q 0 o_;have af:∀c,c<rl i->wr.cell? ⟨b,o+c,none⟩=some (.int .i64 (X i c)):=fun c hcl=>by
        obtain⟨b',o',L,h'⟩:=Q c hcl;rw[V]at L;injection L with L;injection L with M N;subst M;subst N;exact h'
       rw[V]at ae;obtain⟨t,C⟩:=δ (rl i);obtain⟨ai,S⟩:=δ (rc0 i);obtain⟨xi,am⟩:=δ (X i);rw[C.out,S.out]at ae;rw[C.out,am.out]at af;rw[C.out]at aK J;have aD:Hid _:=af;clear Q af V;have aj:∀(a:Nat) (d:World),χ d wr.heap.size 3 t (fun c=> .int .i64 (xi c))->wr.grownBy d none->
        d.heap[w.heap.size+1+1]? =some (.cells #[b2_ ga na ca',.slice n i m] 41 (0,0))/\wr.heap.size<d.heap.size/\
        Hid (fg_ W w.heap.size (d.alloc (.cells #[.slice (some ⟨wr.heap.size,0,none⟩) t a] 24)) (b2_ ga na ca') (.slice n i m) i ga na rb rl rc A X/\
         χ (d.alloc (.cells #[.slice (some ⟨wr.heap.size,0,none⟩) t a] 24)) wr.heap.size 3 (rl i) (fun c=> .int .i64 (X i c))):=by
        intro a d s H;have hB:=pg_ H;refine⟨by rw[hB.block _ aL];exact B.out.cg,s.lt,(B.out.below hB).below ξ, ?_⟩;rw[C.out,am.out];exact s.alloc _
       have aE:∀(a:Nat) (d:World),Hid (fg_ W w.heap.size (d.alloc (.cells #[.slice (some ⟨wr.heap.size,0,none⟩) t a] 24)) (b2_ ga na ca') (.slice n i m) i ga na rb rl rc A X/\
        χ (d.alloc (.cells #[.slice (some ⟨wr.heap.size,0,none⟩) t a] 24)) wr.heap.size 3 (rl i) (fun c=> .int .i64 (X i c)))->∀(g D:Nat) (f:World),f.ownsRow (w.heap.size+1+1+1) 24 1 (.slice (some ⟨g,0,none⟩) (i+1) D) (i+1) ((List.range i).map (bn_ rb rl rc)++ [.slice (some ⟨wr.heap.size,0,none⟩) t a])->(d.alloc (.cells #[.slice (some ⟨wr.heap.size,0,none⟩) t a] 24)).grownBy f (Value.slice n i m).ownBlock->
        f.heap[w.heap.size+1+1]? =some (.cells #[b2_ ga na ca',.slice n i m] 41 (0,0))/\Hid (fg_ W w.heap.size (f.setCell ⟨w.heap.size+1+1,1,none⟩ (.slice (some ⟨g,0,none⟩) (i+1) D)) (b2_ ga na ca') (.slice (some ⟨g,0,none⟩) (i+1) D) (i+1) ga na (fun j=>if j=i then wr.heap.size else rb j) rl (fun j=>if j=i then a else rc j) A X):=by
        intro a d hh g D f ho H;refine hh.out.1.app wr.heap.size a (fun hl=>⟨o_,hh.out.2⟩) (fun j hj hl e=> ?_) (by rw[if_neg (by rw[C.out];exact J),C.out];exact ho) H;have:=(B.out.row j hj hl).2.lt;omega
       go_wp2_with (first|(at_builtin;refine pf_ _ rfl _ _ 24 rfl 3 i3 (.int .i64 0) 8 underlying24 ar aM aN aO rfl b o t ai (fun c=> .int .i64 (xi c)) rfl rfl aD.out (fun j=>rfl) o_ u_ o_ ?_;intro a d s q;obtain⟨e0,M,E⟩:=aj a d s q;obtain⟨N,e3,e4,e5⟩:=β e0;have G:=E.out.1.own;clear s q aj)|(at_builtin;refine Υ underlying39 aq av aw ax G ?_;intro g D f ah q aJ;obtain⟨f0,F⟩:=aE a d E g D f ah q;obtain⟨f1,f2,f3,f4⟩:=β f0));go_roundw
       case rel=>exact⟨i+1,_,_,_,o_,by go_num,F.out⟩
       case measure=>exact c_
   . have he:i=nn:=o_;subst he;have I:wr.heap[w.heap.size+1]? =some (.cells #[.slice none 0 0,.slice none 0 0] 41 (0,0)):=(ac.block _ o_).trans b1;obtain⟨q0,q1,p0,p1⟩:=β I;have B:Hid _:=r;have aB:Hid _:=ab;clear r ab h;obtain⟨ay,az,aA,T⟩:∃x y z,Hid (b2_ ga na ca'= .slice x y z):=by unfold b2_ Hid;split<;>exact⟨_,_,_,rfl⟩
     rw[T.out]at y0;go_wp2_with fail;obtain⟨r1,r2,r3⟩:=Φ (u:= .slice ay az aA) (v:= .slice n i m) I;refine bodyPost_ret (v:= .agg #[.slice ay az aA,.slice n i m]) (by simp[results,results26,go_sem,r1,r2]) rfl ?_;have l:=B.out;refine⟨(ad.setCell (p:=⟨w.heap.size+1,0,none⟩) i_ _).setCell (p:=⟨w.heap.size+1,1,none⟩) i_ _,ga,ca', ?_⟩;by_cases h0:i=0
     . subst h0;refine⟨0,0,rb,rc, ?_,fun hn=>⟨by have:=(l.acc hn).1;omega,(((l.acc hn).2.setOther (by have:=(l.acc hn).1;simp;omega) _).setOther (by have:=(l.acc hn).1;simp;omega) _)⟩,fun h=>absurd h o_,fun j hj=>absurd hj o_,fun j k _ hk=>absurd hk o_⟩;rw[T.out];rw[l.eA rfl];rfl
     . obtain⟨Y,rfl,_⟩:=aB.out o_;refine⟨Y,m,rb,rc, ?_,fun hn=>⟨by have:=(l.acc hn).1;omega,(((l.acc hn).2.setOther (by have:=(l.acc hn).1;simp;omega) _).setOther (by have:=(l.acc hn).1;simp;omega) _)⟩,fun _=>⟨by have:=(l.own.lt Y rfl).1;omega, ?_⟩,fun j hj hl=> ?_,l.cX⟩
       . rw[T.out];unfold b2_;rw[if_neg h0]
       . have aV:=(l.own.lt Y rfl).1;exact(((χ.dQ l.own (fun j hj=>nf_ _ _ j hj)).setOther s_ _).setOther s_ _)
       . have:=l.row j hj hl;exact⟨o_,((this.2.setOther s_ _).setOther s_ _)⟩
structure TL where
 (ba na ca bn nn cn:Nat)
 (rb rl rc:Nat->Nat)
def tlv (t:TL)(i:Nat):Value:=if t.rc i=0 then .slice none 0 0 else .slice (some ⟨t.rb i,0,none⟩) (t.rl i) (t.rc i)
def TL.val (t:TL):Value:= .agg #[.slice (some ⟨t.ba,0,none⟩) t.na t.ca,.slice (some ⟨t.bn,0,none⟩) t.nn t.cn]
structure fh_ (w:World)(t:TL)(A:Nat->Bool)(X:Nat->Nat->Int):Prop where
 na:t.na<=t.ca
 ca:t.ca<=4398046511104
 eh:1<=t.ca
 nn:t.nn<=t.cn
 cn:t.cn<=4398046511104
 et:1<=t.cn
 rl:∀i,i<t.cn->t.rl i<=t.rc i
 rc:∀i,i<t.cn->t.rc i<=1000000
 acc:χ w t.ba 4 t.ca (fun i=> .bool (A i))
 b7:χ w t.bn 24 t.cn (tlv t)
 row:∀i,i<t.cn->0<t.rc i->χ w (t.rb i) 3 (t.rc i) (fun c=> .int .i64 (X i c))
theorem fh_.below {t:TL}{A:Nat->Bool}{X:Nat->Nat->Int}(h:fh_ w t A X)(hb:Bl w w'):fh_ w' t A X:=
 ⟨h.na,h.ca,h.eh,h.nn,h.cn,h.et,h.rl,h.rc,h.acc.below hb,h.b7.below hb,fun i hi hc=>(h.row i hi hc).below hb⟩
structure je_ (W:World)(B:Nat)(w:World)(t:TL)(vn:Value)(i:Nat):Prop where
 cz:Below (B+1+1) W w
 cg:w.heap[B+1+1]? =some (.cells #[.slice (some ⟨t.ba,0,none⟩) t.ca t.ca,vn] 41 (0,0))
 own:w.ownsRow (B+1+1+1) 24 1 vn i ((List.range i).map (bn_ t.rb t.rc t.rc))
theorem je_.below {t:TL}(h:je_ W B w t vn i)(hb:Bl w w2):je_ W B w2 t vn i where
 cz:=h.cz.trans (hb.mono (by have:=κ h.cg;omega))
 cg:=by rw[hb.block _ (κ h.cg)];exact h.cg
 own:=ao_ h.own hb
theorem je_.app {t:TL}(h:je_ W B w t vn i)(hown:w2.ownsRow (B+1+1+1) 24 1 (.slice (some ⟨g,0,none⟩) (i+1) cap) (i+1) ((List.range i).map (bn_ t.rb t.rc t.rc)++ [bn_ t.rb t.rc t.rc i]))
 (hg:w.grownBy w2 vn.ownBlock):
 w2.heap[B+1+1]? =some (.cells #[.slice (some ⟨t.ba,0,none⟩) t.ca t.ca,vn] 41 (0,0))/\
 je_ W B (w2.setCell ⟨B+1+1,1,none⟩ (.slice (some ⟨g,0,none⟩) (i+1) cap)) t (.slice (some ⟨g,0,none⟩) (i+1) cap) (i+1):=by
 have c:=κ h.cg;have b:=fun x e=>h.own.lt x e
 have a:w2.heap[B+1+1]? =some (.cells #[.slice (some ⟨t.ba,0,none⟩) t.ca t.ca,vn] 41 (0,0)):=by
  rw[hg.block _ c (fun e=>by have:=(b _ e.symm).1;omega)];exact h.cg
 refine⟨a,(h.cz.grown hg o_ (fun x e=>by have:=(b x e).1;omega)).setCell ι _,fr_ a, ?_⟩;have:(List.range i).map (bn_ t.rb t.rc t.rc)++ [bn_ t.rb t.rc t.rc i]=(List.range (i+1)).map (bn_ t.rb t.rc t.rc):=by simp[range_succ]
 rw[this]at hown;exact ownsRow_setCell_below hown i_ _
theorem rv_ (t:TL)(A:Nat->Bool)(X:Nat->Nat->Int)(w:World)(h:fh_ w t A X):
 Calls prog 25 #[.agg #[.slice (some ⟨t.ba,0,none⟩) t.na t.ca,.slice (some ⟨t.bn,0,none⟩) t.nn t.cn]] w
  fun e w'=>Bl w w'/\∃g cap,e= .returned (.agg #[.slice (some ⟨t.ba,0,none⟩) t.ca t.ca,.slice (some ⟨g,0,none⟩) t.cn cap])/\w.heap.size<=g/\χ w' g 24 t.cn (bn_ t.rb t.rc t.rc):=by
 obtain⟨i0,K,M,N,O⟩:=info_parts ng_;have Z:=h.na;have g2:=h.ca;have g3:=h.eh;have g4:=h.nn;have g5:=h.cn;have g6:=h.et;obtain⟨ba,na,ca,bn,nn,cn,rb,d,rc⟩:=t;simp only at Z g2 g3 g4 g5 g6 ⊢;obtain⟨W,G,U,V,Y,r⟩:=fe_ w #[.slice (some ⟨ba,0,none⟩) na ca,.slice (some ⟨bn,0,none⟩) nn cn] 41 #[.slice none 0 0,.slice none 0 0] 41 #[.slice none 0 0,.slice none 0 0] 41
 go_enter func25,ntmps25;go_upto_region 2 with fail;rw[<-G];clear G;obtain⟨x0,x1,_,_⟩:=β V;obtain⟨Q,R,S,T⟩:=β r;have E:je_ W w.heap.size (W.setCell ⟨w.heap.size+1+1,0,none⟩ (.slice (some ⟨ba,0,none⟩) ca ca)) ⟨ba,na,ca,bn,nn,cn,rb,d,rc⟩ (.slice none 0 0) 0:=
  ⟨μ.setCell (p:=⟨w.heap.size+1+1,0,none⟩) ι _,cb_ r,a8_⟩
 go_wp2_with fail;clear x0 x1 Q R S T r;go_loopw [5,6] (fun i' _ wr=>∃(i:Nat) (P:Value),i<=cn/\i'= .int .i64 i/\je_ W w.heap.size wr ⟨ba,na,ca,bn,nn,cn,rb,d,rc⟩ P i)
  (fun i' _ _=>cn - (intOf i').toNat)
 case atStart=>exact⟨0,_,o_,rfl,E⟩
 case round=>
  obtain⟨i,P,hi,rfl,b⟩:=hrel;clear E;have H:=b.cz;have I:=η U H;obtain⟨Q,R,S,T⟩:=β b.cg;obtain⟨q,f,rfl,x⟩:=Β b.own;have ad:=κ b.cg;by_cases ab:i<cn
  . have J:wr.cell? ⟨bn,i,none⟩=some (tlv ⟨ba,na,ca,bn,nn,cn,rb,d,rc⟩ i):=(h.below I).b7.cell (show i<cn from ab);have k:Hid _:=b;obtain⟨c,o⟩:=δ (bn_ rb rc rc i);have C:∀(nq:Nat) (g cap:Nat) (a:World),a.ownsRow (w.heap.size+1+1+1) 24 1 (.slice (some ⟨g,0,none⟩) (i+1) cap) (i+1) ((List.range i).map (bn_ rb rc rc)++ [c])->((wr.drewN nq).alloc (.cells #[c] 24)).grownBy a (Value.slice q i f).ownBlock->
     a.heap[w.heap.size+1+1]? =some (.cells #[.slice (some ⟨ba,0,none⟩) ca ca,.slice q i f] 41 (0,0))/\Hid (je_ W w.heap.size (a.setCell ⟨w.heap.size+1+1,1,none⟩ (.slice (some ⟨g,0,none⟩) (i+1) cap)) ⟨ba,na,ca,bn,nn,cn,rb,d,rc⟩ (.slice (some ⟨g,0,none⟩) (i+1) cap) (i+1)):=by
     intro nq g cap a ho hg;exact(k.out.below ((below_drewN μ nq).alloc i_ (.cells #[c] 24))).app (by show a.ownsRow _ _ _ _ _ ((List.range i).map (bn_ rb rc rc)++ [bn_ rb rc rc i]);rw[o.out];exact ho) hg
    have D:∀nq:Nat,((wr.drewN nq).alloc (.cells #[c] 24)).ownsRow (w.heap.size+1+1+1) 24 1 (.slice q i f) i ((List.range i).map (bn_ rb rc rc)):=fun nq=>
     (k.out.below ((below_drewN μ nq).alloc i_ (.cells #[c] 24))).own
    clear b x h;by_cases m:rc i=0
    . have l:tlv ⟨ba,na,ca,bn,nn,cn,rb,d,rc⟩ i= .slice none 0 0:=by unfold tlv;rw[if_pos m]
      have s:c= .slice none 0 0:=by rw[<-o.out];unfold bn_;rw[if_pos m]
      subst s;rw[l]at J;clear l m;go_wp2_with fail;go_quiet (fail);have z:=D nq;go_wp2_with (at_builtin;refine Υ underlying39 K M N O z ?_;intro g cap a B y aa;obtain⟨f0,F⟩:=C nq g cap a B y;obtain⟨f1,f2,f3,f4⟩:=β f0);go_roundw
      case rel=>exact⟨i+1,_,o_,by go_num,F.out⟩
      case measure=>exact c_
    . have l:tlv ⟨ba,na,ca,bn,nn,cn,rb,d,rc⟩ i= .slice (some ⟨rb i,0,none⟩) (d i) (rc i):=by unfold tlv;rw[if_neg m]
      have s:c= .slice (some ⟨rb i,0,none⟩) (rc i) (rc i):=by rw[<-o.out];unfold bn_;rw[if_neg m]
      subst s;rw[l]at J;clear l;go_wp2_with fail;go_quiet (fail);have z:=D nq;go_wp2_with (at_builtin;refine Υ underlying39 K M N O z ?_;intro g cap a B y aa;obtain⟨f0,F⟩:=C nq g cap a B y;obtain⟨f1,f2,f3,f4⟩:=β f0);go_roundw
      case rel=>exact⟨i+1,_,o_,by go_num,F.out⟩
      case measure=>exact c_
  . have he:i=cn:=o_;subst he;have L:wr.heap[w.heap.size+1]? =some (.cells #[.slice none 0 0,.slice none 0 0] 41 (0,0)):=(H.block _ o_).trans Y;obtain⟨q0,q1,p0,p1⟩:=β L;obtain⟨n,rfl,_⟩:=x o_;have k:Hid _:=b;clear b x h;go_wp2_with fail;obtain⟨r1,r2,r3⟩:=Φ (u:= .slice (some ⟨ba,0,none⟩) ca ca) (v:= .slice (some ⟨n,0,none⟩) i f) L;refine bodyPost_ret (v:= .agg #[.slice (some ⟨ba,0,none⟩) ca ca,.slice (some ⟨n,0,none⟩) i f]) (by simp[results,results25,go_sem,r1,r2]) rfl ?_;have ac:=(k.out.own.lt n rfl).1;refine⟨(I.setCell (p:=⟨w.heap.size+1,0,none⟩) i_ _).setCell (p:=⟨w.heap.size+1,1,none⟩) i_ _,n,⟨f,rfl⟩,o_, ?_⟩;exact(((χ.dQ k.out.own (fun j hj=>nf_ _ _ j hj)).setOther s_ _).setOther s_ _)
end Go.Proofs.YtpngikmcjkjdaaaGreatDoor
