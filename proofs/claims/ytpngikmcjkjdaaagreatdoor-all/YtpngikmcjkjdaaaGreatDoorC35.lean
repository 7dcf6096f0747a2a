import Derived.Test.YtpngikmcjkjdaaaGreatDoorC25
import Derived.Test.YtpngikmcjkjdaaaGreatDoorC34
set_option linter.unusedVariables false
set_option linter.unusedSimpArgs false
set_option maxRecDepth 20000
set_option maxHeartbeats 80000000
namespace Go.Proofs.YtpngikmcjkjdaaaGreatDoor
open Go.RowKit Tryz List Nat
variable {xs:List Value} {N b bw i k n t:Nat} {lab:Nat->Nat} {f:Nat->Value} {cC vts cH:Value} {W Wo w w' w1 w2:World}
theorem ε.cut {S:Nat->Prop}(hT:ε S W w2):∃Wv:World,ε S W Wv/\Bl Wv w2/\Wv.heap.size=W.heap.size/\∀k,k<W.heap.size->Wv.heap[k]? =w2.heap[k]? :=by
 have d:=hT.size;have c:(w2.heap.extract 0 W.heap.size).size=W.heap.size:=s_;have a:∀k,k<W.heap.size->(w2.heap.extract 0 W.heap.size)[k]? =w2.heap[k]? :=fun k hk=>by
  rw[Array.getElem?_extract];simp;omega
 refine⟨{w2 with heap:=w2.heap.extract 0 W.heap.size},⟨hT.os,hT.tape,hT.output, ?_,fun k hk hs=>(a k hk).trans (hT.block k hk hs)⟩,⟨rfl,rfl,rfl, ?_,fun k hk=> ?_⟩,c,a⟩
 . show W.heap.size<=(w2.heap.extract 0 W.heap.size).size
   omega
 . show(w2.heap.extract 0 W.heap.size).size<=w2.heap.size
   omega
 . have b:k<W.heap.size:=by
    have:k<(w2.heap.extract 0 W.heap.size).size:=hk;omega
   exact(a k b).symm
theorem tg_ {c c':Nat->Cu}(h:∀i,i<4->(c i).op=(c' i).op)(k:Int):opB c' k=opB c k:=by
 unfold opB;by_cases a:0<=k/\k<4
 . rw[h k.toNat o_]
 . simp[a]
theorem amw_ {x y:Cu}(h1:x.bg=y.bg)(h2:x.la=y.la)(M:γ)(s:ByteArray):ej_ y M s=ej_ x M s:=by unfold ej_;rw[h1,h2]
theorem aaf_ {x y:Cu}(h1:x.bg=y.bg)(h2:x.la=y.la)(M:γ)(t:Nat->ByteArray):∀n,Ω y M t n=Ω x M t n
 |0=>rfl
 |n+1=>by rw[Ω,Ω,aaf_ h1 h2 M t n,amw_ h1 h2]
theorem amx_ {x y:Cu}(h1:x.bg=y.bg)(h2:x.la=y.la)(M:γ)(t:Nat->ByteArray)(n l:Nat):de_ y M t n l=de_ x M t n l/\gp_ y M t n l=gp_ x M t n l:=by
 unfold de_ gp_;rw[aaf_ h1 h2];exact⟨rfl,rfl⟩
theorem kj_ (c:Nat->Cu)(k:Nat)(d:Cu):bk_ c k d k=d:=if_pos rfl
theorem jt_ (c:Nat->Cu)(d:Cu)(h:i≠k):bk_ c k d i=c i:=if_neg h
theorem Bk.next {d:Bk}(h:d.cur w)(m:Nat)(L:List ByteArray):({d with c:=dp_ d.c m L,c':=dp_ d.c' m L}:Bk).cur w/\∀k,({d with c:=dp_ d.c m L,c':=dp_ d.c' m L}:Bk).more k->d.more k:=by
 unfold dp_;cases hl:L.getLast? with
 |none=>exact⟨h,fun k hk=>hk⟩
 |some s=>
  have j:∀(c:Nat->Cu) i,(bk_ c m {c m with bg:=true,la:=s} i).op=(c i).op:=fun c i=>by
   by_cases e:i=m
   . subst e;rw[kj_]
   . rw[jt_ _ _ e]
  refine⟨fun i hi=> ?_,fun k ⟨i,hi,ho,hk⟩=>⟨i,hi,by rw[<-j d.c i];exact ho,hk⟩⟩;show kh_ w (bk_ d.c m {d.c m with bg:=true,la:=s} i) (bk_ d.c' m {d.c' m with bg:=true,la:=s} i) _ _ _
  obtain⟨a,f,g,b⟩:=h i hi;by_cases e:i=m
  . subst e;rw[kj_,kj_];exact⟨a,rfl,rfl,b⟩
  . rw[jt_ _ _ e,jt_ _ _ e];exact⟨a,f,g,b⟩
theorem Bk.close {d:Bk}(h:d.cur w)(k:Int):({d with c:=he_ d.c k,c':=he_ d.c' k}:Bk).cur w/\∀j,({d with c:=he_ d.c k,c':=he_ d.c' k}:Bk).more j->d.more j:=by
 have b:=tg_ (fun i hi=>(h i hi).op) k;unfold he_;rw[b];cases opB d.c k with
 |false=>exact⟨h,fun k hk=>hk⟩
 |true=>
  refine⟨fun i hi=> ?_,fun j ⟨i,hi,hop,hj⟩=> ?_⟩
  . show kh_ w (bk_ d.c k.toNat shut i) (bk_ d.c' k.toNat shut i) _ _ _
    by_cases e:i=k.toNat
    . subst e;rw[kj_,kj_];exact kh_.shut _ _ _ _
    . rw[jt_ _ _ e,jt_ _ _ e];exact h i hi
  . have a:(bk_ d.c k.toNat shut i).op=true:=hop;by_cases e:i=k.toNat
    . subst e;rw[kj_]at a;cases a
    . rw[jt_ _ _ e]at a;exact⟨i,hi,a,hj⟩
theorem th_ {hs:List Hd}{ps:List Bk}(h:an_ Wo w bw vts cC cH hs ps xs lab)(hi:i<ps.length)(BW:Bl w W)
 {d':Bk} (hd':d'= {ps[i]with c:=d'.c,c':=d'.c',V:=d'.V,V':=d'.V',M:=d'.M}) (ht1:ε (fun k=>k=ps[i].bx) W w1) (hx:Θ w1 ps[i].bx ps[i].t ps[i].n (Ι d'.c)) (ht2:ε (fun k=>k=ps[i].br) w1 w2) (hy:ad_ w2 ps[i].br ps[i].ry ps[i].t ps[i].n (Ι d'.c'))
 (hc:d'.cur w2) (hm:∀k,d'.more k->ps[i].more k\/(W.heap.size<=k/\k<w2.heap.size)):ε (fun k=>lab k=3+2*i) w w2/\ct_ w2 d'/\d'.bp=ps[i].bp/\∀k,d'.db k->lab k=3+2*i\/W.heap.size<=k:=by
 obtain⟨d,b⟩:=h.dy i hi;have a:=d.below BW;have g:ε (fun k=>lab k=3+2*i) w w2:=
  mi_ (i4_ BW) (mi_ (ik_ ht1 (fun k e=>by rw[e];exact b _ (.inr (.inl rfl)))) (ik_ ht2 (fun k e=>by rw[e];exact b _ (.inr (.inr (.inl rfl))))))
 have l:=ht1.size;have m:=ht2.size;rw[hd']at hc hm ⊢;refine⟨g,⟨ht2.heap (a.df ht1).1 a.apart.2.1,World.rowIs.of_block hx (ht2.block _ (World.rowIs.lt hx) a.apart.2.2.1),hy,d.dx,d.le,d.ee,hc,fun k hk=> ?_⟩,rfl,fun k hk=> ?_⟩
 . rcases hm k hk with e|⟨j,f⟩
   . have:=a.mo k e;exact⟨o_,this.2⟩
   . have o:=a.lt _ (.inl rfl);have p:=a.lt _ (.inr (.inl rfl));have q:=a.lt _ (.inr (.inr (.inl rfl)));exact⟨f,by show k≠ps[i].bp;omega,by show k≠ps[i].bx;omega,by show k≠ps[i].br;omega⟩
 . rcases hk with e|e|e|e|e
   . exact .inl (b k (.inl e))
   . exact .inl (b k (.inr (.inl e)))
   . exact .inl (b k (.inr (.inr (.inl e))))
   . exact .inl (b k (.inr (.inr (.inr (.inl e)))))
   . rcases hm k e with e|e
     . exact .inl (b k (.inr (.inr (.inr (.inr e)))))
     . exact .inr e.1
theorem amy_ (w:World)(k:Int):Calls prog 91 #[.slice none 0 0,.int .i64 k] w fun e w'=>e= .returned (.slice none 0 0)/\w'=w:=by
 go_enter func91,ntmps91;go_wp2_with fail;go_loopw [6] (fun i' wr=>i'= .int .i64 0/\wr=w) (fun _ _=>0)
 case atStart=>exact⟨rfl,rfl⟩
 case round=>
  obtain⟨rfl,rfl⟩:=hrel;go_wp2_with fail;go_ret;exact⟨rfl,rfl⟩
theorem amz_ (Wo w0 w:World)(bw:Nat)(vts cC cH:Value)(hs:List Hd)(ps:List Bk)(xs:List Value)(lab:Nat->Nat)(h:an_ Wo w0 bw vts cC cH hs ps xs lab)(hB:Bl w0 w)(hx:xs.length<=4398046511104)
 (u:Value) (hu:w.ownsRow w0.heap.size 9 1 u 0 []):
 Calls prog 51 #[.pointer (some ⟨bw,0,none⟩),.slice none 0 0,u] w fun e w'=>e= .returned (.bool true)/\ε (fun k=>k=bw\/lab k≠0) w0 w'/\∃vtx' x lab',an_ Wo w' bw vts cC vtx' hs ps (xs++ [x]) lab':=by
 obtain⟨R,C,J,K,L⟩:=info_parts aab_;have P:=κ h.wd.cg;have y:=aaa_ w (.slice none 0 0) u 0 _ [] i_ a8_ hu;have I:=hB.size;have n:∀b,Bl w b->b.cell? ⟨bw,2,none⟩=some cH/\Bl w0 b:=fun b g=>by
  have q:=hB.trans (g.mono I);exact⟨(ev_ (h.below q).wd.cg).2.2.1,q⟩
 obtain⟨M,O,G,_⟩:=Β h.dE;have m:∀a,Bl w0 a->∀c f d,d.ownsRow (bw+1) 56 1 (.slice (some ⟨c,0,none⟩) (xs.length+1) f) (xs.length+1) (xs++ [.slice none 0 0])->(a.alloc (.cells #[.slice none 0 0] 56)).grownBy d cH.ownBlock->(cH.ownBlock=some c\/c=(a.alloc (.cells #[.slice none 0 0] 56)).heap.size)->
  d.heap[bw]? =some (.cells #[vts,cC,cH] 31 (0,0))/\Hid (ε (fun k=>k=bw\/lab k≠0) w0 (d.setCell ⟨bw,2,none⟩ (.slice (some ⟨c,0,none⟩) (xs.length+1) f))/\∃lab',an_ Wo (d.setCell ⟨bw,2,none⟩ (.slice (some ⟨c,0,none⟩) (xs.length+1) f)) bw vts cC (.slice (some ⟨c,0,none⟩) (xs.length+1) f) hs ps (xs++ [.slice none 0 0]) lab'):=by
  intro a g c f d E i B;exact h.newText g (.inl rfl) (fun j e=>by simp[Value.ownBlock]at e) E i B
 have l:∀a,Bl w0 a->(a.alloc (.cells #[.slice none 0 0] 56)).ownsRow (bw+1) 56 1 cH xs.length xs/\bw+1<=a.heap.size:=fun a g=>⟨(h.below g).dE.alloc _,by have:=g.size;omega⟩
 rw[G]at n l m;clear h hu hB;go_enter func51,ntmps51;go_wp2_with (first
  |(go_at_call 90;refine y.mono ?_;rintro e b ⟨rfl,r⟩;obtain⟨N,o⟩:=n b r;obtain⟨D,Q⟩:=l b o;have p:=m b o;have v:=amy_ b (xs.length:Int);clear n l m r o)
  |(go_at_call 91;refine v.mono ?_;rintro e a ⟨rfl,H⟩;obtain rfl:b=a:=H.symm)
  |(at_builtin;refine Υ underlying29 C J K L D ?_;intro c f d t i s;obtain⟨f0,F⟩:=p c f d t i s;obtain⟨f1,f2,f3,f4⟩:=ev_ f0;have f5:=td_ f0;clear p t i s f0))
 go_ret;obtain⟨A,lab',z⟩:=F.out;exact⟨rfl,A,_,_,lab',z⟩
theorem ct_.eS {d:Bk}(h:ct_ W d)(ht1:ε (fun k=>k=d.bx) W w1)(ht2:ε (fun k=>k=d.br) w1 w2):d.cur w2:=
 d.fm W w2 h.cu (fun k hm=>(ht2.block k (Nat.lt_of_lt_of_le (h.mo k hm).1 ht1.size) (h.mo k hm).2.2.2).trans (ht1.block k (h.mo k hm).1 (h.mo k hm).2.2.1))
theorem ct_.fu {d:Bk}(h:ct_ W d)(ht1:ε (fun k=>k=d.bx) W w1):d.cur w1:=
 d.fm W w1 h.cu (fun k hm=>ht1.block k (h.mo k hm).1 (h.mo k hm).2.2.1)
section
variable (Wo w:World) (bw:Nat) (vts cC cH:Value) (hs:List Hd) (ps:List Bk) (xs:List Value) (lab:Nat->Nat) (h:an_ Wo w bw vts cC cH hs ps xs lab) (i:Nat) (hi:i<ps.length) (a b c d:Int) (s:ByteArray) (lo:Option Addr) (ll lc:Nat)
include h
theorem am0_:
 Calls prog 22 #[.pointer (some ⟨bw,0,none⟩),.agg #[.int .i64 18,.int .i64 a,.int .i64 b,.int .i64 c,.int .i64 d,.string s,.slice lo ll lc],.pointer (some ⟨ps[i].bp,0,none⟩)] w (c3_ Wo bw vts cC hs ps xs.length lab w):=by
 obtain⟨W,H,y,aa,F⟩:=ν w #[.int .i64 18,.int .i64 a,.int .i64 b,.int .i64 c,.int .i64 d,.string s,.slice lo ll lc] 33;obtain⟨x0,x1,x2,x3,x4,x5,x6⟩:=bo_ F;have r:=(h.dy i hi).1;have m:=r.below y;obtain⟨U,V,_,_⟩:=β m.pr;have E:=afx_ W.drew ps[i].bx ps[i].n ps[i].t ps[i].c b m.px;have u:∀f,ε (fun k=>k=ps[i].bx) W f->_:=fun f ht=>af3_ f.drew ps[i].br ps[i].n ps[i].ry ps[i].t ps[i].c' b (m.df ht).2
 have I:jw_ ps[i].c' b=jw_ ps[i].c b:=by unfold jw_;rw[tg_ (fun j hj=>(r.cu j hj).op) b]
 rw[I]at u;have A:∀f,ε (fun k=>k=ps[i].bx) W f->f.cell? ⟨ps[i].bp,1,none⟩=some (.pointer (some ⟨ps[i].br,0,none⟩))/\f.cell? ⟨w.heap.size,2,none⟩=some (.int .i64 b)/\(f.cell? ⟨ps[i].bp,0,none⟩=some (.pointer (some ⟨ps[i].bx,0,none⟩))/\∀g,ε (fun k=>k=ps[i].br) f g->g.cell? ⟨ps[i].bp,1,none⟩=some (.pointer (some ⟨ps[i].br,0,none⟩))/\g.cell? ⟨w.heap.size,2,none⟩=some (.int .i64 b)):=fun f ht=>by
  have G:=(m.df ht).1;have l2:=r.lt _ (.inr (.inl rfl));have l3:=r.lt _ (.inr (.inr (.inl rfl)));have f1:=ht.heap F o_;obtain⟨M,N,_,_⟩:=β G;obtain⟨_,_,X,_⟩:=bo_ f1;refine⟨N,X,M,fun g p=> ?_⟩;obtain⟨_,Y,_,_⟩:=β (p.heap G m.apart.2.1);obtain⟨_,_,Z,_⟩:=bo_ (p.heap f1 o_);exact⟨Y,Z⟩
 have z:∀f g,ε (fun k=>k=ps[i].bx) W f->Θ f ps[i].bx ps[i].t ps[i].n (Ι (he_ ps[i].c b))->ε (fun k=>k=ps[i].br) f g->ad_ g ps[i].br ps[i].ry ps[i].t ps[i].n (Ι (he_ ps[i].c' b))->Hid (c3_ Wo bw vts cC hs ps xs.length lab w (.returned (.bool true)) g):=fun f g k1 k2 k3 k4=>by
  have J:=Bk.close (m.eS k1 k3) b;obtain⟨t1,t2,t3,t4⟩:=th_ h hi y (d':= {ps[i]with c:=he_ ps[i].c b,c':=he_ ps[i].c' b}) rfl k1 k2 k3 k4 J.1 (fun k hk=> .inl (J.2 k hk));obtain⟨T,S⟩:=h.book hi t1 t2 t3 (fun k hk=>(t4 k hk).imp id (fun e=>by have:=y.size;omega));exact⟨rfl,ik_ t1 (fun k e=> .inr (by rw[e];omega)),cH,_,xs,T,S,qh_ hi rfl,o_⟩
 obtain⟨l,C⟩:∃x,Hid (ps[i]=x):=⟨ps[i],by unfold Hid;rfl⟩;rw[C.out]at E u A z U V ⊢;generalize jw_ l.c b=re at*;clear h r m C I;go_enter func22,ntmps22;go_upto_region 1 with fail;rw[<-H];clear H;go_upto_region 29 with fail;go_region_held3 (fun w'=>w'.cell? ⟨l.bp,0,none⟩=some (.pointer (some ⟨l.bx,0,none⟩))/\w'.cell? ⟨w.heap.size,2,none⟩=some (.int .i64 b)) (go_keep)
  ((go_at_call 54;refine E.mono ?_;rintro e f ⟨rfl,K,o⟩;have v:ε (fun k=>k=l.bx) W f:=⟨o.os,o.tape,o.output,o.size,o.block⟩;have R:=u f v;obtain⟨N,q2,M,D⟩:=A f v;have B:=z f;have Q:=α K;have P:=α v;clear u A z K v o))
 all_goals go_upto_region 30 with fail
 all_goals go_region_held3 (fun w'=>w'.cell? ⟨l.bp,1,none⟩=some (.pointer (some ⟨l.br,0,none⟩))/\w'.cell? ⟨w.heap.size,2,none⟩=some (.int .i64 b)) (go_keep)
  ((go_at_call 55;refine R.mono ?_;rintro e g ⟨rfl,L,q⟩;have p:ε (fun k=>k=l.br) f g:=⟨q.os,q.tape,q.output,q.size,q.block⟩;obtain⟨s1,s2⟩:=D g p;have O:=B g P.out Q.out p L;clear B L p D q))
 all_goals go_wp2_with fail
 all_goals go_ret
 all_goals exact O.out
theorem am1_ (hx:xs.length<=4398046511104)(h3:3<=bw)(ht:ei_ w):
 Calls prog 22 #[.pointer (some ⟨bw,0,none⟩),.agg #[.int .i64 17,.int .i64 a,.int .i64 b,.int .i64 c,.int .i64 d,.string s,.slice lo ll lc],.pointer (some ⟨ps[i].bp,0,none⟩)] w (c3_ Wo bw vts cC hs ps xs.length lab w):=by
 obtain⟨W,R,P,aF,b0⟩:=ν w #[.int .i64 17,.int .i64 a,.int .i64 b,.int .i64 c,.int .i64 d,.string s,.slice lo ll lc] 33;obtain⟨x0,x1,x2,x3,x4,x5,x6⟩:=bo_ b0;have y:=(h.dy i hi).1;have q:=y.below P;obtain⟨p0,p1,_,_⟩:=β q.pr;have S:d8_ ps[i].c' b c=d8_ ps[i].c b c:=by unfold d8_;rw[tg_ (fun j hj=>(y.cu j hj).op) b]
 by_cases E:d8_ ps[i].c b c=0
 . have A:opB ps[i].c b=true:=by
    cases hh:opB ps[i].c b with
    |true=>rfl
    |false=>simp[d8_,hh]at E
   have aH:1<=c/\c<=50:=by
    refine cc_ fun hn=> ?_
    simp[d8_,A,hn]at E
   have aG:0<=b/\b<4:=by
    refine cc_ fun hn=> ?_
    rw[li_ hn]at A;cases A
   obtain⟨m,rfl⟩:∃m:Nat,b=m:=⟨b.toNat,o_⟩;obtain⟨z,rfl⟩:∃l:Nat,c=l:=⟨c.toNat,o_⟩;have O:m<4:=o_;rw[n6_ _ O]at A;have N:=q.cu m O;obtain⟨kM,kT,aB,⟨kA,kN⟩,kA',kN'⟩:=N.tab A;have aj:(ps[i].c' m).op=true:=by rw[<-N.op];exact A
   obtain⟨ah,ag⟩:=amx_ N.bg N.la (ps[i].M m) ps[i].t ps[i].n z;have J:=afz_ W.drew ps[i].bx ps[i].n m z ps[i].t ps[i].c (ps[i].V m) (ps[i].M m) q.px y.le O A o_ o_ y.ee kA kN kM (kT.below (μ.drew));have B:∀o,ε (fun k=>k=ps[i].bx) W o->_:=fun o ht=>aii_ o.drew ps[i].br ps[i].n m z ps[i].ry ps[i].t ps[i].c' (ps[i].V' m) (ps[i].M m) (q.df ht).2 y.le O aj o_ o_ y.ee kA' kN' kM ((((q.fu ht) m O).tab A).2.2.1.below (μ.drew))
   rw[ah,ag]at B;have af:(de_ (ps[i].c m) (ps[i].M m) ps[i].t ps[i].n z).length<=100000:=by
    unfold de_;rw[length_take];omega
   generalize de_ (ps[i].c m) (ps[i].M m) ps[i].t ps[i].n z=L at*;generalize gp_ (ps[i].c m) (ps[i].M m) ps[i].t ps[i].n z=fb at*;have Y:∀o,ε (fun k=>k=ps[i].bx) W o->o.cell? ⟨ps[i].bp,1,none⟩=some (.pointer (some ⟨ps[i].br,0,none⟩))/\(o.cell? ⟨w.heap.size,2,none⟩=some (.int .i64 (m:Int))/\o.cell? ⟨w.heap.size,3,none⟩=some (.int .i64 (z:Int)))/\(o.cell? ⟨ps[i].bp,0,none⟩=some (.pointer (some ⟨ps[i].bx,0,none⟩))/\∀f,ε (fun k=>k=ps[i].br) o f->f.cell? ⟨ps[i].bp,1,none⟩=some (.pointer (some ⟨ps[i].br,0,none⟩))/\f.cell? ⟨w.heap.size,2,none⟩=some (.int .i64 (m:Int))/\f.cell? ⟨w.heap.size,3,none⟩=some (.int .i64 (z:Int))):=fun o ht=>by
    have Q:=(q.df ht).1;have l2:=y.lt _ (.inr (.inl rfl));have l3:=y.lt _ (.inr (.inr (.inl rfl)));have f1:=ht.heap b0 o_;obtain⟨q0,q1,_,_⟩:=β Q;obtain⟨_,_,r2,r3,_⟩:=bo_ f1;refine⟨q1,⟨r2,r3⟩,q0,fun f G=> ?_⟩;obtain⟨_,u1,_,_⟩:=β (G.heap Q q.apart.2.1);obtain⟨_,_,u2,u3,_⟩:=bo_ (G.heap f1 o_);exact⟨u1,u2,u3⟩
   have X:∀o f v u,ε (fun k=>k=ps[i].bx) W o->o.ownsRow W.heap.size 9 1 v L.length (Ζ L)->Θ o ps[i].bx ps[i].t ps[i].n (Ι (dp_ ps[i].c m L))->ε (fun k=>k=ps[i].br) o f->f.ownsRow o.heap.size 9 1 u L.length (Ζ L)->ad_ f ps[i].br ps[i].ry ps[i].t ps[i].n (Ι (dp_ ps[i].c' m L))->Calls prog 51 #[.pointer (some ⟨bw,0,none⟩),v,u] f (c3_ Wo bw vts cC hs ps xs.length lab w):=fun o f v u k1 kv k2 k3 ku k4=>by
    have aa:=Bk.next (q.eS k1 k3) m L;have s1:=k1.size;have s2:=k3.size;obtain⟨t1,t2,t3,t4⟩:=th_ h hi P (d':= {ps[i]with c:=dp_ ps[i].c m L,c':=dp_ ps[i].c' m L}) rfl k1 k2 k3 k4 aa.1 (fun k hk=> .inl (aa.2 k hk));obtain⟨C,v1,v2,v3,v4⟩:=(mi_ (ik_ k1 (S':=fun k=>k=ps[i].bx\/k=ps[i].br) (fun k e=> .inl e)) (ik_ k3 (fun k e=> .inr e)):ε (fun k=>k=ps[i].bx\/k=ps[i].br) W f).cut;have Z:=(h.dy i hi).2;have D:ε (fun k=>lab k=3+2*i) w C:=mi_ (i4_ P) (ik_ v1 (fun k e=>by
     rcases e with e|e
     . rw[e];exact Z _ (.inr (.inl rfl))
     . rw[e];exact Z _ (.inr (.inr (.inl rfl)))))
    have ai:∀k,({ps[i]with c:=dp_ ps[i].c m L,c':=dp_ ps[i].c' m L}:Bk).db k->ps[i].db k:=fun k hk=>by
     rcases hk with e|e|e|e|e
     . exact .inl e
     . exact .inr (.inl e)
     . exact .inr (.inr (.inl e))
     . exact .inr (.inr (.inr (.inl e)))
     . exact .inr (.inr (.inr (.inr (aa.2 k e))))
    have av:ct_ C {ps[i]with c:=dp_ ps[i].c m L,c':=dp_ ps[i].c' m L}:=t2.cZ (fun k hk=>v4 k (q.lt k (ai k hk)));obtain⟨U,hw,aw⟩:=h.eJ hi D av rfl (fun k hk=> .inl (Z k (ai k hk)));have ax:ei_ C:=ht.cJ D (fun k e=>by
     have:=(h.out k (by rw[e];omega)).1;omega) (by have:=κ h.wd.cg;omega)
    have aC:f.ownsRow C.heap.size 9 1 v L.length (Ζ L):=by
     rw[v3];exact ni_ kv (q.df k1).2.1 k3
    have ap:f.ownsRow C.heap.size 9 1 u L.length (Ζ L):=by
     rw[v3];exact te_ ku s1
    have ae:∀e p,(e= .returned (.bool true)/\ε (fun k=>k=bw\/U k≠0) C p/\∃ac x ab,an_ Wo p bw vts cC ac hs (ps.set i {ps[i]with c:=dp_ ps[i].c m L,c':=dp_ ps[i].c' m L}) (xs++ [x]) ab)->c3_ Wo bw vts cC hs ps xs.length lab w e p:=by
     rintro e p ⟨rfl,K,ac,x,ab,ay⟩;refine⟨rfl,⟨K.os.trans D.os,K.tape.trans D.tape,K.output.trans D.output,Nat.le_trans D.size K.size,fun k hk hn=> ?_⟩,ac,_,xs++ [x],ab,ay,qh_ hi rfl,i_⟩;have n1:k≠bw:=fun e=>hn (.inl e)
     have n2:lab k=0:=cc_ fun e=>hn (.inr e)
     have n3:U k=0:=cc_ fun e=>by
      rcases aw k e with e|e
      . exact e n2
      . omega
     exact(K.block k (by rw[v3];omega) (fun e=>e.elim n1 (fun e=>e n3))).trans (D.block k hk (by rw[n2];omega))
    by_cases am:v= .slice none 0 0
    . subst am;have au:L=[]:=by
       rcases kv.2 with ⟨_,e⟩|⟨g,aD,aE,e,_⟩
       . exact length_eq_zero_iff.1 e
       . simp at e
      subst au;exact(amz_ Wo C f bw vts cC cH hs _ xs U hw v2 hx u ap).mono ae
    . exact(aac_ Wo C f bw vts cC cH hs _ xs U hw v2 hx h3 ax L af v u am aC ap).mono ae
   obtain⟨r,I⟩:∃x,Hid (ps[i]=x):=⟨ps[i],by unfold Hid;rfl⟩;rw[I.out]at J B Y X p0 p1 ⊢;have Q:(fb==fb)=true:=by cases fb<;>rfl
   clear h y q I S E ht N kM kT aB kA kN kA' kN' A aj ah ag af;go_enter func22,ntmps22;go_upto_region 1 with fail;rw[<-R];clear R;go_upto_region 22 with fail;go_region_held3 (fun p=>p.cell? ⟨r.bp,0,none⟩=some (.pointer (some ⟨r.bx,0,none⟩))/\p.cell? ⟨w.heap.size,2,none⟩=some (.int .i64 (m:Int))/\p.cell? ⟨w.heap.size,3,none⟩=some (.int .i64 (z:Int))) (go_keep)
    ((go_at_call 52;refine J.mono ?_;rintro e o ⟨v,rfl,al,an,F⟩;have T:ε (fun k=>k=r.bx) W o:=⟨F.os,F.tape,F.output,F.size,F.block⟩;have ar:=B o T;obtain⟨q1,⟨q2,q3⟩,q0,HQ2⟩:=Y o T;have ad:=fun f u=>X o f v u T al an;clear B Y X an T F al))
   all_goals go_upto_region 23 with fail
   all_goals go_region_held3 (fun p=>p.cell? ⟨r.bp,1,none⟩=some (.pointer (some ⟨r.br,0,none⟩))/\p.cell? ⟨w.heap.size,2,none⟩=some (.int .i64 (m:Int))/\p.cell? ⟨w.heap.size,3,none⟩=some (.int .i64 (z:Int))) (go_keep)
    ((go_at_call 53;refine ar.mono ?_;rintro e f ⟨u,rfl,ak,ao,H⟩;have G:ε (fun k=>k=r.br) o f:=⟨H.os,H.tape,H.output,H.size,H.block⟩;obtain⟨s1,s2,s3⟩:=HQ2 f G;have aq:=ad f u G ak ao;clear ad ao G HQ2 H ak))
   all_goals go_wp2_with (go_at_call 51;refine aq.mono ?_;rintro e w3 hP;have HP:=α hP;obtain rfl:e= .returned (.bool true):=hP.1;clear hP)
   all_goals go_ret
   all_goals exact HP.out
 . have J:=afy_ W.drew ps[i].bx ps[i].n ps[i].t ps[i].c b c q.px E;have B:=af4_ W.drew.drew ps[i].br ps[i].n ps[i].ry ps[i].t ps[i].c' b c q.py (by rw[S];exact E);rw[S]at B;have HF:Hid (∀f,Bl w f->c3_ Wo bw vts cC hs ps xs.length lab w (.returned (.bool true)) f):=fun f hb=>mj_ h hb
   obtain⟨r,I⟩:∃x,Hid (ps[i]=x):=⟨ps[i],by unfold Hid;rfl⟩;rw[I.out]at J B p0 p1 E ⊢;generalize d8_ r.c b c=re at*;have Q:(re==0)=false:=by simpa using E
   have z1:=s9_ underlying56 W.drew.drew;clear h y q I S ht;go_enter func22,ntmps22;go_upto_region 1 with fail;rw[<-R];clear R;go_upto_region 22 with fail;go_region_held3 (fun p=>p.cell? ⟨r.bp,0,none⟩=some (.pointer (some ⟨r.bx,0,none⟩))/\p.cell? ⟨w.heap.size,2,none⟩=some (.int .i64 b)/\p.cell? ⟨w.heap.size,3,none⟩=some (.int .i64 c)) (go_keep)
    ((go_at_call 52;refine J.mono ?_;rintro e o ⟨rfl,az⟩;obtain rfl:W.drew=o:=az.symm))
   all_goals go_upto_region 23 with fail
   all_goals go_region_held3 (fun p=>p.cell? ⟨r.bp,1,none⟩=some (.pointer (some ⟨r.br,0,none⟩))/\p.cell? ⟨w.heap.size,2,none⟩=some (.int .i64 b)/\p.cell? ⟨w.heap.size,3,none⟩=some (.int .i64 c)) (go_keep)
    ((go_at_call 53;refine B.mono ?_;rintro e f ⟨rfl,aA⟩;obtain rfl:W.drew.drew=f:=aA.symm))
   all_goals go_wp2_with fail
   all_goals go_ret
   all_goals exact HF.out _ P.drew.drew
end
theorem ρ.Has.from {V:ρ}(h:V.Has n k)(hF:V.cP N n):N<=k:=by
 rcases h with rfl|rfl|⟨i,c,rfl⟩
 . exact hF.a
 . exact hF.b
 . exact hF.r i c
def upk {α:Type}(f:Nat->α)(k:Nat)(x:α):Nat->α:=fun i=>if i=k then x else f i
theorem ml_ {α:Type}(f:Nat->α)(k:Nat)(x:α):upk f k x k=x:=if_pos rfl
theorem mm_ {α:Type}(f:Nat->α)(x:α)(h:i≠k):upk f k x i=f i:=if_neg h
def Bk.opened (d:Bk)(k:Nat)(U U':ρ)(M:γ):Bk:= {d with c:=bk_ d.c k (db_ U M.n),c':=bk_ d.c' k (db_ U' M.n),V:=upk d.V k U,V':=upk d.V' k U',M:=upk d.M k M}
theorem Bk.open_ {d:Bk}(h:d.cur w)(k:Nat)(U U':ρ)(M:γ)(hM:M.Ok)(hU:π w U M)(hU':π w U' M)(hF:U.cP N M.n)(hF':U'.cP N M.n):
 (d.opened k U U' M).cur w/\∀j,(d.opened k U U' M).more j->d.more j\/(N<=j/\j<w.heap.size):=by
 refine⟨fun i hi=> ?_,fun j ⟨i,hi,ho,hj⟩=> ?_⟩
 . show kh_ w (bk_ d.c k (db_ U M.n) i) (bk_ d.c' k (db_ U' M.n) i) (upk d.V k U i) (upk d.V' k U' i) (upk d.M k M i)
   by_cases e:i=k
   . subst e;rw[kj_,kj_,ml_,ml_,ml_];exact⟨rfl,rfl,rfl,fun _=>⟨hM,hU,hU',⟨rfl,rfl⟩,rfl,rfl⟩⟩
   . rw[jt_ _ _ e,jt_ _ _ e,mm_ _ _ e,mm_ _ _ e,mm_ _ _ e];exact h i hi
 . have b:(bk_ d.c k (db_ U M.n) i).op=true:=ho;have a:(upk d.V k U i).Has (upk d.M k M i).n j\/(upk d.V' k U' i).Has (upk d.M k M i).n j:=hj;by_cases e:i=k
   . subst e;rw[ml_,ml_,ml_]at a;right;rcases a with hh|hh
     . exact⟨hh.from hF,hU.dZ hM hh⟩
     . exact⟨hh.from hF',hU'.dZ hM hh⟩
   . rw[jt_ _ _ e]at b;rw[mm_ _ _ e,mm_ _ _ e,mm_ _ _ e]at a;exact .inl ⟨i,hi,b,a⟩
theorem am2_ {c c':Nat->Cu}(h:∀i,i<4->(c i).op=(c' i).op):bw_ c'=bw_ c:=by
 unfold bw_;rw[h 0 o_,h 1 o_,h 2 o_,h 3 o_]
def qi_ (d:Bk)(rn re:Int)(Q:World->World->Prop)(v:Value)(wj:World):Prop:=Calls prog 56 #[.pointer (some ⟨d.bx,0,none⟩),v] wj fun e w1=>e= .returned (.tuple #[.int .i64 rn,.int .i64 re])/\ε (fun k=>k=d.bx) wj w1/\Q wj w1
def n3_ (d:Bk)(rn re:Int)(Q:World->World->Prop)(v:Value)(wj:World):Prop:=Calls prog 57 #[.pointer (some ⟨d.br,0,none⟩),v] wj fun e w1=>e= .returned (.tuple #[.int .i64 rn,.int .i64 re])/\ε (fun k=>k=d.br) wj w1/\Q wj w1
theorem am3_ {hs:List Hd}{ps:List Bk}(h:an_ Wo w bw vts cC cH hs ps xs lab)(hi:i<ps.length)(t:TL)(A:Nat->Bool)(X:Nat->Nat->Int):
 ∃rn re QX QY,(∀wj,ct_ wj ps[i]->fh_ wj t A X->qi_ ps[i] rn re QX t.val wj)/\
  (∀wj,ad_ wj ps[i].br ps[i].ry ps[i].t ps[i].n (Ι ps[i].c')->∀r:aj_,az_ wj r A X->r.na=t.na->r.nn=t.nn->r.rl=t.rl->n3_ ps[i] rn re QY r.val wj)/\
  ∀W w1 w2,Bl w W->ε (fun k=>k=ps[i].bx) W w1->QX W w1->ε (fun k=>k=ps[i].br) w1.drew w2->QY w1.drew w2->c3_ Wo bw vts cC hs ps xs.length lab w (.returned (.bool true)) w2:=by
 have D:=(h.dy i hi).1.cu;have p:=am2_ (fun j hj=>(D j hj).op);cases hok:Ο t.lay X with
 |false=>
  refine⟨0,6,fun a b=>Bl a b,fun a b=>Bl a b,fun wj hb ht=> ?_,fun wj hy r hr e1 e2 e3=> ?_,fun W w1 w2 BW k1 q1 d q2=> ?_⟩
  . exact(af0_ t.lay A X wj ps[i].bx ht.raw hok).mono (fun e w1 ⟨he,hb1⟩=>⟨he,i4_ hb1,hb1⟩)
  . exact(af6_ r A X wj ps[i].br hr ((g6_ (r:=r) (r':=t.lay) e1 e2 e3).trans hok)).mono (fun e w1 ⟨he,hb1⟩=>⟨he,i4_ hb1,hb1⟩)
  . have q:Bl w1 w2:=⟨q2.os,q2.tape,q2.output,q2.size,q2.block⟩;exact mj_ h ((BW.trans (q1.mono BW.size)).trans (q.mono (by have:=BW.size;have:=q1.size;omega)))
 |true=>
  have l:=fd_ (A:=A) hok;by_cases v:bw_ ps[i].c=4
  . refine⟨0,9,fun a b=>Bl a b,fun a b=>Bl a b,fun wj hb ht=> ?_,fun wj hy r hr e1 e2 e3=> ?_,fun W w1 w2 BW k1 q1 d q2=> ?_⟩
    . obtain⟨V,hv,f⟩:=ex_ ht.raw hok;unfold qi_;rw[show t.val=t.lay.val from rfl,hv];exact(af1_ V _ wj ps[i].bx ps[i].n ps[i].t ps[i].c l f hb.px v).mono (fun e w1 ⟨he,hb1⟩=>⟨he,i4_ hb1,hb1⟩)
    . have m:=(g6_ (r:=r) (r':=t.lay) (X:=X) e1 e2 e3).trans hok;obtain⟨V,hv,f⟩:=ex_ hr m;unfold n3_;rw[hv];exact(af7_ V _ wj ps[i].br ps[i].n ps[i].ry ps[i].t ps[i].c' (fd_ m) f hy (by rw[p];exact v)).mono (fun e w1 ⟨he,hb1⟩=>⟨he,i4_ hb1,hb1⟩)
    . have q:Bl w1 w2:=⟨q2.os,q2.tape,q2.output,q2.size,q2.block⟩;exact mj_ h ((BW.trans (q1.mono BW.size)).trans (q.mono (by have:=BW.size;have:=q1.size;omega)))
  . have x:bw_ ps[i].c<4:=by have:=afu_ ps[i].c;omega
    refine⟨(bw_ ps[i].c:Int),0,fun a b=>∃U:ρ,π b U (by_ t.lay A X)/\U.cP a.heap.size (by_ t.lay A X).n/\Θ b ps[i].bx ps[i].t ps[i].n (Ι (bk_ ps[i].c (bw_ ps[i].c) (db_ U (by_ t.lay A X).n))),fun a b=>∃U:ρ,π b U (by_ t.lay A X)/\U.cP a.heap.size (by_ t.lay A X).n/\ad_ b ps[i].br ps[i].ry ps[i].t ps[i].n (Ι (bk_ ps[i].c' (bw_ ps[i].c) (db_ U (by_ t.lay A X).n))),fun wj hb ht=> ?_,fun wj hy r hr e1 e2 e3=> ?_,fun W w1 w2 BW k1 q1 d q2=> ?_⟩
    . obtain⟨V,hv,f⟩:=ex_ ht.raw hok;unfold qi_;rw[show t.val=t.lay.val from rfl,hv];exact(af2_ V _ wj ps[i].bx ps[i].n ps[i].t ps[i].c l f hb.px x).mono (fun e w1 ⟨U,he,h1,h2,h3,h4⟩=>⟨he,h4,U,h1,h2,h3⟩)
    . have m:=(g6_ (r:=r) (r':=t.lay) (X:=X) e1 e2 e3).trans hok;obtain⟨V,hv,f⟩:=ex_ hr m;have B:by_ r A X=by_ t.lay A X:=aib_ e2;unfold n3_;rw[hv];rw[B]at f ⊢;have:=af8_ V _ wj ps[i].br ps[i].n ps[i].ry ps[i].t ps[i].c' l f hy (by rw[p];exact x);rw[p]at this;exact this.mono (fun e w1 ⟨U,he,h1,h2,h3,h4⟩=>⟨he,h4,U,h1,h2,h3⟩)
    . obtain⟨U,G,z,H⟩:=q1;obtain⟨o,I,g,J⟩:=q2;have d:ε (fun k=>k=ps[i].br) w1 w2:=⟨d.os,d.tape,d.output,d.size,d.block⟩;have g:o.cP w1.heap.size (by_ t.lay A X).n:=g;have u:=(h.dy i hi).1.below BW;have s:=k1.size;have C:=u.lt _ (.inr (.inr (.inl rfl)));have y:=Bk.open_ (u.eS k1 d) (bw_ ps[i].c) U o (by_ t.lay A X) l (G.de z d C) I (N:=W.heap.size) z ⟨Nat.le_trans s g.a,Nat.le_trans s g.b,fun j hj=>Nat.le_trans s (g.r j hj)⟩;obtain⟨t1,t2,t3,t4⟩:=th_ h hi BW (d':=ps[i].opened (bw_ ps[i].c) U o (by_ t.lay A X)) rfl k1 H d J y.1 y.2;obtain⟨F,E⟩:=h.book hi t1 t2 t3 (fun k hk=>(t4 k hk).imp id (fun e=>by have:=BW.size;omega));exact⟨rfl,ik_ t1 (fun k e=> .inr (by rw[e];omega)),cH,_,xs,F,E,qh_ hi rfl,o_⟩
theorem ti_ (h:χ w b t n f)(hk:w'.heap[b]? =w.heap[b]?):χ w' b t n f:=by
 obtain⟨c,a,d⟩:=h;exact⟨c,by rw[hk];exact a,d⟩
theorem tj_ (h:χ w b t n f):b<w.heap.size:=by
 obtain⟨c,a,d⟩:=h;exact κ a
theorem j7_.cZ {ga gn:Nat}{rb rc:Nat->Nat}{na nn:Nat}{rl:Nat->Nat}{A:Nat->Bool}{X:Nat->Nat->Int}(h:j7_ N w ga gn rb rc na nn rl A X)(hk:∀k,N<=k->k<w.heap.size->w'.heap[k]? =w.heap[k]?):j7_ N w' ga gn rb rc na nn rl A X:=
 ⟨fun h0=>⟨(h.acc h0).1,ti_ (h.acc h0).2 (hk _ (h.acc h0).1 (tj_ (h.acc h0).2))⟩,fun h0=>⟨(h.b7 h0).1,ti_ (h.b7 h0).2 (hk _ (h.b7 h0).1 (tj_ (h.b7 h0).2))⟩,fun j h1 h2=>⟨(h.row j h1 h2).1,ti_ (h.row j h1 h2).2 (hk _ (h.row j h1 h2).1 (tj_ (h.row j h1 h2).2))⟩,h.cX⟩
theorem am4_ (Wo w:World)(bw:Nat)(vts cC cH:Value)(hs:List Hd)(ps:List Bk)(xs:List Value)(lab:Nat->Nat)(h:an_ Wo w bw vts cC cH hs ps xs lab)(i:Nat)(hi:i<ps.length)(a b c d:Int)(s:ByteArray)(lo:Option Addr)(ll lc:Nat)(hn:hs.length<=4398046511104)(hb:I64 b):
 Calls prog 22 #[.pointer (some ⟨bw,0,none⟩),.agg #[.int .i64 16,.int .i64 a,.int .i64 b,.int .i64 c,.int .i64 d,.string s,.slice lo ll lc],.pointer (some ⟨ps[i].bp,0,none⟩)] w (c3_ Wo bw vts cC hs ps xs.length lab w):=by
 obtain⟨W,I,E,az,b0⟩:=ν w #[.int .i64 16,.int .i64 a,.int .i64 b,.int .i64 c,.int .i64 d,.string s,.slice lo ll lc] 33;obtain⟨x0,x1,x2,x3,x4,x5,x6⟩:=bo_ b0;have D:=h.below E;obtain⟨y0,y1,y2,y3⟩:=ev_ D.wd.cg;obtain⟨al,cl,ax,V⟩:=Β D.wd.own;rw[ax]at y0;have aw:Hid (∀m,Bl w m->c3_ Wo bw vts cC hs ps xs.length lab w (.returned (.bool true)) m):=fun m hb=>mj_ h hb
 by_cases h0:hs.length=0
 . rw[h0]at y0;clear h D V;go_enter func22,ntmps22;go_upto_region 1 with fail;rw[<-I];clear I;go_wp2_with fail;go_ret;exact aw.out W E
 . obtain⟨gl,rfl,ao⟩:=V o_;obtain⟨v,N⟩:=δ (f2_ b hs.length);have ap:v<hs.length:=by rw[<-N.out];exact jo_ _ _ o_
   have HP:∀wj,Calls prog 16 #[.int .i64 b,.int .i64 (hs.length:Int)] wj fun e l=>e= .returned (.int .i64 (v:Int))/\l=wj:=fun wj=>by
    have:=jp_ b hs.length wj o_ o_ hb.1 hb.2;rw[tn_,N.out]at this;exact this
   have z0:=(ao v o_).trans (lf_ hs v ap);have K:=D.wd.dJ _ (getElem_mem ap);obtain⟨f,ad⟩:∃x,Hid (hs[v]=x):=⟨hs[v],by unfold Hid;rfl⟩;rw[ad.out]at z0 K;obtain⟨u0,u1,_,_⟩:=jn_ K.cg;have u:=K.tl;obtain⟨rn,re,QX,QY,P,Q,R⟩:=am3_ h hi f.t f.A f.X;have F:Hid (∀wj,Bl w wj->ct_ wj ps[i]):=fun wj hj=>(h.dy i hi).1.below hj
   have G:Hid (∀k,ps[i].db k->k<w.heap.size):=fun k hk=>(h.dy i hi).1.lt k hk
   have O:Hid (∀W w1,ct_ W ps[i]->ε (fun k=>k=ps[i].bx) W w1->w1.cell? ⟨ps[i].bp,1,none⟩=some (.pointer (some ⟨ps[i].br,0,none⟩))/\w1.cell? ⟨ps[i].bp,0,none⟩=some (.pointer (some ⟨ps[i].bx,0,none⟩))/\ad_ w1 ps[i].br ps[i].ry ps[i].t ps[i].n (Ι ps[i].c')/\∀m,ε (fun k=>k=ps[i].br) w1 m->m.cell? ⟨ps[i].bp,1,none⟩=some (.pointer (some ⟨ps[i].br,0,none⟩))):=fun W w1 hb1 ht=>by
    obtain⟨C,H⟩:=hb1.df ht;obtain⟨q0,q1,_,_⟩:=β C;refine⟨q1,q0,H,fun m ht2=> ?_⟩;obtain⟨_,u1,_,_⟩:=β (ht2.heap C hb1.apart.2.1);exact u1
   have M:Hid (∀wj,ct_ wj ps[i]->wj.cell? ⟨ps[i].bp,0,none⟩=some (.pointer (some ⟨ps[i].bx,0,none⟩))/\wj.cell? ⟨ps[i].bp,1,none⟩=some (.pointer (some ⟨ps[i].br,0,none⟩))):=fun wj hj=>by
    obtain⟨q0,q1,_,_⟩:=β hj.pr;exact⟨q0,q1⟩
   obtain⟨q,ai⟩:∃x,Hid (ps[i]=x):=⟨ps[i],by unfold Hid;rfl⟩;rw[ai.out]at P Q R F G O M ⊢;have af:Hid _:=P;have ag:Hid _:=Q;have ah:Hid _:=R;have aj:=α u;have g1:=u.na;have g2:=u.ca;have g4:=u.nn;have g5:=u.cn;have Z:∀j,j<f.t.nn->f.t.rl j<=1000000:=fun j hj=>by have:=u.rl j o_;have:=u.rc j o_;omega
   have aD:((hs.length:Int)==0)=false:=by rw[bq_];omega
   have aA:(v:Int)<(hs.length:Int):=o_;clear h D ao V K u P Q R ad N ai;go_enter func22,ntmps22;go_upto_region 1 with fail;rw[<-I];clear I;go_upto_region 34 with fail;go_region_held3 (fun l=>l.cell? ⟨bw,0,none⟩=some (.slice (some ⟨gl,0,none⟩) hs.length cl)/\l.cell? ⟨w.heap.size,2,none⟩=some (.int .i64 b)/\l.cell? ⟨gl,v,none⟩=some (.pointer (some ⟨f.bh,0,none⟩))/\l.cell? ⟨f.bh,0,none⟩=some (.slice (some ⟨f.t.ba,0,none⟩) f.t.na f.t.ca)/\l.cell? ⟨f.bh,1,none⟩=some (.slice (some ⟨f.t.bn,0,none⟩) f.t.nn f.t.cn)) (go_keep)
    ((go_at_call 16;refine(HP _).mono ?_;rintro e l ⟨rfl,ay⟩;subst ay))
   all_goals go_upto_region 35 with fail
   all_goals
    first
     |obtain⟨z,B⟩:=af_ ((W.alloc (.cells #[.slice (some ⟨f.t.ba,0,none⟩) f.t.na f.t.ca,.slice (some ⟨f.t.bn,0,none⟩) f.t.nn f.t.cn] 41)).drew)
    have B1:Bl W z:=by rw[B];exact ξ.drew
    have s1:z.heap.size=W.heap.size+1:=by rw[B];exact World.size_alloc _ _
    have C:z.heap[W.heap.size]? =some (.cells #[.slice (some ⟨f.t.ba,0,none⟩) f.t.na f.t.ca,.slice (some ⟨f.t.bn,0,none⟩) f.t.nn f.t.cn] 41 (0,0)):=by rw[B];exact ο rfl
    first
     |rw[<-B]
     |(change Code.wp _ _ _ _ (W.alloc (.cells #[.slice (some ⟨f.t.ba,0,none⟩) f.t.na f.t.ca,.slice (some ⟨f.t.bn,0,none⟩) f.t.nn f.t.cn] 41)).drew;rw[<-B])
    clear B y0 y1 y2 y3 z0 u0 u1 x0 x1 x2 x3 x4 x5 x6;have av:=η E B1;have U:=aj.out.below B1;have HC:=lv_ _ _ _ _ _ _ _ _ _ f.A f.X z U.raw (by show f.t.na<=_;omega) (by show f.t.nn<=_;omega) (fun j hj=>by have:=Z j hj;show f.t.rl j<=_;omega);obtain⟨f0,f1,_,_⟩:=β C;go_wp2_with fail;refine Calls.mono HC ?_;clear HC;rintro e m ⟨an,ga,S,gn,T,rb,rc,rfl,hC⟩;have s2:=an.size;rw[iv_,iv_];have y:Hid (∀l,(∀k,z.heap.size<=k->k<m.heap.size->l.heap[k]? =m.heap[k]?)->az_ l ⟨if f.t.na=0 then none else some ⟨ga,0,none⟩,if f.t.nn=0 then none else some ⟨gn,0,none⟩,f.t.na,if f.t.na=0 then 0 else S,f.t.nn,if f.t.nn=0 then 0 else T,fun i=>if f.t.rl i=0 then none else some ⟨rb i,0,none⟩,f.t.rl,fun i=>if f.t.rl i=0 then 0 else rc i⟩ f.A f.X):=fun l hk=>(hC.cZ hk).raw S T (by show f.t.na<=_;omega) (by show f.t.nn<=_;omega) (fun j hj=>by have:=Z j hj;show f.t.rl j<=_;omega)
    clear hC f0 f1;generalize (if f.t.na=0 then none else some (⟨ga,0,none⟩:Addr))=ma at y ⊢;generalize (if f.t.nn=0 then none else some (⟨gn,0,none⟩:Addr))=mn at y ⊢;generalize (if f.t.na=0 then 0 else S)=mca at y ⊢;generalize (if f.t.nn=0 then 0 else T)=mcn at y ⊢;go_upto_region 36 with fail;obtain⟨p,J,B2,-,-⟩:=ν m #[.slice ma f.t.na mca,.slice mn f.t.nn mcn] 41;have s3:p.heap.size=m.heap.size+1:=by rw[J];exact World.size_alloc _ _
    have H:=aw_ J;rw[<-J];clear J;have L:Bl z p:=an.trans (B2.mono s2);have am:=(L.block _ o_).trans C;have ab:Bl w p:=av.trans (L.mono (by have:=E.size;omega));have ac:Bl w p.drew:=ab.drew;have Y:=F.out p.drew ac;obtain⟨p0,p1⟩:=M.out p (F.out p ab);obtain⟨f0,f1,_,_⟩:=β am;obtain⟨g0,g1,_,_⟩:=β H;have HX:=af.out p.drew Y ((U.below L).below (μ.drew));unfold qi_ TL.val at HX;have aC:=G.out _ (.inr (.inl rfl));have aB:=G.out _ (.inr (.inr (.inl rfl)));have ae:Hid (∀g,ε (fun k=>k=q.bx) p.drew g->(g.cell? ⟨q.bp,0,none⟩=some (.pointer (some ⟨q.bx,0,none⟩))/\g.cell? ⟨W.heap.size,0,none⟩=some (.slice (some ⟨f.t.ba,0,none⟩) f.t.na f.t.ca)/\g.cell? ⟨W.heap.size,1,none⟩=some (.slice (some ⟨f.t.bn,0,none⟩) f.t.nn f.t.cn))/\(g.cell? ⟨q.bp,1,none⟩=some (.pointer (some ⟨q.br,0,none⟩))/\g.cell? ⟨m.heap.size,0,none⟩=some (.slice ma f.t.na mca)/\g.cell? ⟨m.heap.size,1,none⟩=some (.slice mn f.t.nn mcn))/\n3_ q rn re QY (.agg #[.slice ma f.t.na mca,.slice mn f.t.nn mcn]) g.drew/\∀o,ε (fun k=>k=q.br) g.drew o->o.cell? ⟨q.bp,1,none⟩=some (.pointer (some ⟨q.br,0,none⟩))/\o.cell? ⟨m.heap.size,0,none⟩=some (.slice ma f.t.na mca)/\o.cell? ⟨m.heap.size,1,none⟩=some (.slice mn f.t.nn mcn)):=fun g ht=>by
     obtain⟨r1,r0,ry,rz⟩:=O.out p.drew g Y ht;have f2:=ht.heap (show p.drew.heap[W.heap.size]? =_ from am) o_;have f3:=ht.heap (show p.drew.heap[m.heap.size]? =_ from H) o_;obtain⟨k0,k1,_,_⟩:=β f2;obtain⟨l0,l1,_,_⟩:=β f3;refine⟨⟨r0,k0,k1⟩,⟨r1,l0,l1⟩, ?_,fun o r=> ?_⟩
     . have hr:=y.out g.drew (fun k hk1 hk2=>(ht.block k (by show k<p.heap.size;omega) o_).trans (B2.block k hk2));have hy:=ag.out g.drew (ry.below (μ.drew)) _ hr rfl rfl rfl;exact hy
     . have au:ε (fun k=>k=q.br) g o:=⟨r.os,r.tape,r.output,r.size,r.block⟩;obtain⟨m0,m1,_,_⟩:=β (au.heap f3 o_);exact⟨rz o au,m0,m1⟩
    have HZ:Hid (∀g o,ε (fun k=>k=q.bx) p.drew g->QX p.drew g->ε (fun k=>k=q.br) g.drew o->QY g.drew o->c3_ Wo bw vts cC hs ps xs.length lab w (.returned (.bool true)) o):=fun g o k1 k2 k3 k4=>ah.out p.drew g o ac k1 k2 k3 k4
    clear Y af ag ah y O F G M aj U Z;go_region_held3 (fun l=>l.cell? ⟨q.bp,0,none⟩=some (.pointer (some ⟨q.bx,0,none⟩))/\l.cell? ⟨W.heap.size,0,none⟩=some (.slice (some ⟨f.t.ba,0,none⟩) f.t.na f.t.ca)/\l.cell? ⟨W.heap.size,1,none⟩=some (.slice (some ⟨f.t.bn,0,none⟩) f.t.nn f.t.cn)) (go_keep)
     ((go_at_call 56;refine HX.mono ?_;rintro e g ⟨rfl,aa,aq⟩;obtain⟨⟨j0,j1,j2⟩,⟨j3,j4,j5⟩,HY,HQ⟩:=ae.out g aa;unfold n3_ at HY;have ak:=fun o=>HZ.out g o aa aq;clear ae HZ aa aq))
    all_goals go_upto_region 37 with fail
    all_goals go_region_held3 (fun l=>l.cell? ⟨q.bp,1,none⟩=some (.pointer (some ⟨q.br,0,none⟩))/\l.cell? ⟨m.heap.size,0,none⟩=some (.slice ma f.t.na mca)/\l.cell? ⟨m.heap.size,1,none⟩=some (.slice mn f.t.nn mcn)) (go_keep)
     ((go_at_call 57;refine HY.mono ?_;rintro e o ⟨rfl,r,ar⟩;obtain⟨m0,m1,m2⟩:=HQ o r;have HF:Hid (c3_ Wo bw vts cC hs ps xs.length lab w (.returned (.bool true)) o):=ak o r ar;clear ak HQ r ar))
    all_goals go_wp2_with fail
    all_goals go_ret
    all_goals exact HF.out
end Go.Proofs.YtpngikmcjkjdaaaGreatDoor
