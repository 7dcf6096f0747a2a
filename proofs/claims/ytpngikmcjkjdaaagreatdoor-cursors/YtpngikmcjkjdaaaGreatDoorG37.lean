import Derived.Test.YtpngikmcjkjdaaaGreatDoorG0
import Derived.Deep.RegionHeld3
import Derived.Test.YtpngikmcjkjdaaaGreatDoorG11
import Derived.Test.YtpngikmcjkjdaaaGreatDoorG21
import Derived.Test.YtpngikmcjkjdaaaGreatDoorG22
import Derived.Test.YtpngikmcjkjdaaaGreatDoorG29
import Derived.Test.YtpngikmcjkjdaaaGreatDoorG36
set_option linter.unusedVariables false
set_option linter.unusedSimpArgs false
set_option maxRecDepth 20000
set_option maxHeartbeats 80000000
namespace Go.Proofs.YtpngikmcjkjdaaaGreatDoor
open Go.RowKit Tryz
section
variable {w w2:World}
theorem me_ {base e s n t b:Nat}{v:Value}{x:List Value}{cs:Array Value}{k:Nat×Nat}(h:w.ownsRow base e s v n x)(hb:w.heap[b]? =some (.cells cs t k))(hne:e≠t)(g:Nat)(hg:v.ownBlock=some g):g≠b:=by
 rcases h.2 with ⟨rfl,_⟩|⟨a,cap,cur,rfl,_,h1,_⟩
 . simp[Value.ownBlock]at hg
 . simp only[Value.ownBlock,Option.some.injEq]at hg;subst hg;rintro rfl;rw[h1]at hb;simp only[Option.some.injEq,Obj.cells.injEq]at hb;exact hne hb.2.1
theorem acm_ {base base' e e' s s' n n':Nat}{v v':Value}{x x':List Value}(h:w.ownsRow base e s v n x)(h':w.ownsRow base' e' s' v' n' x')(hne:e≠e')(g:Nat)(hg:v.ownBlock=some g)(hg':v'.ownBlock=some g):False:=by
 rcases h'.2 with ⟨rfl,_⟩|⟨a,cap,cur,rfl,_,h1,_⟩
 . simp[Value.ownBlock]at hg'
 . simp only[Value.ownBlock,Option.some.injEq]at hg';subst hg';exact me_ h h1 hne _ hg rfl
theorem gr_ {base base' e e' s s' n n':Nat}{v v':Value}{x x':List Value}(h:w.ownsRow base e s v n x)(h':w.ownsRow base' e' s' v' n' x')(hne:e≠e')(hg:w.grownBy w2 v'.ownBlock):w2.ownsRow base e s v n x:=by
 refine h.kept hg ?_;cases hv:v.ownBlock with
 |none=>exact .inl rfl
 |some k=>exact .inr (fun e=>acm_ h h' hne k hv e.symm)
end
def ee_ (w w':World):Prop:=∀(k:Nat) (cs:Array Value) (t:Nat) (f:Nat×Nat),(t=104\/t=9\/t=199)->w.heap[k]? =some (.cells cs t f)->w'.heap[k]? =some (.cells cs t f)
theorem RsAt.keeps {w w':World}{eo no:Option Addr}{ec nc:Nat}{L:List Ex}(h:RsAt w eo ec no nc L)(hk:ee_ w w'):RsAt w' eo ec no nc L:=by
 obtain⟨⟨gs,h1,h2⟩,h3⟩:=h;have key:∀ {t n:Nat} {v:Value} {xs:List Value},(t=104\/t=9\/t=199)->w.ownsRow 0 t 1 v n xs->w'.ownsRow 0 t 1 v n xs:=by
  intro t n v xs ht ho;refine⟨ho.1, ?_⟩;rcases ho.2 with e1|⟨g,cap,cur,e1,e2,e3,r⟩
  . exact .inl e1
  . exact .inr ⟨g,cap,cur,e1,e2,hk g _ _ _ ht e3,r⟩
 have kex:∀(g:Nat) (e:Ex),ExAt w g e->ExAt w' g e:=by
  intro g e h;induction e generalizing g with
  |nil=>exact hk _ _ _ _ (.inr (.inr rfl)) h
  |one S=>exact hk _ _ _ _ (.inr (.inr rfl)) h
  |thn a b iha ihb=>obtain⟨ga,gb,h1,h2,h3⟩:=h;exact⟨ga,gb,hk _ _ _ _ (.inr (.inr rfl)) h1,iha _ h2,ihb _ h3⟩
  |alt a b iha ihb=>obtain⟨ga,gb,h1,h2,h3⟩:=h;exact⟨ga,gb,hk _ _ _ _ (.inr (.inr rfl)) h1,iha _ h2,ihb _ h3⟩
  |star a iha=>obtain⟨ga,h1,h2⟩:=h;exact⟨ga,hk _ _ _ _ (.inr (.inr rfl)) h1,iha _ h2⟩
 exact⟨⟨gs,key (.inl rfl) h1,h2.imp kex⟩,key (.inr (.inl rfl)) h3⟩
theorem ee_.trans {w w1 w2:World}(h:ee_ w w1)(h':ee_ w1 w2):ee_ w w2:=fun k cs t f ht hk=>h' k cs t f ht (h k cs t f ht hk)
theorem ee_.grown {w w':World}{base e s n:Nat}{v:Value}{x:List Value}(ho:w.ownsRow base e s v n x)(h1:e≠104)(h2:e≠9)(h3:e≠199)(hg:w.grownBy w' v.ownBlock):ee_ w w':=by
 intro k cs t f ht hk;rw[hg.block k (ac_ hk) ?_,hk];intro e1;refine me_ ho hk ?_ k e1.symm rfl;rcases ht with rfl|rfl|rfl
 . exact h1
 . exact h2
 . exact h3
theorem ee_.set {w:World}{b i t:Nat}{u:Value}{cs:Array Value}{f:Nat×Nat}(hb:w.heap[b]? =some (.cells cs t f))(h1:t≠104)(h2:t≠9)(h3:t≠199):ee_ w (w.setCell ⟨b,i,none⟩ u):=by
 intro k cs' t' f' ht hk;refine aj_ hk ?_;intro e;have e':k=b:=e;subst e';rw[hb]at hk;simp only[Option.some.injEq,Obj.cells.injEq]at hk;obtain⟨_,rfl,_⟩:=hk;rcases ht with rfl|rfl|rfl
 . exact h1 rfl
 . exact h2 rfl
 . exact h3 rfl
def dg_ (D:Nat->List Ex)(EO NO:Nat->Option Addr)(EC NC:Nat->Nat):Nat->List Value
 |0=> []
 |k+1=>dg_ D EO NO EC NC k++ [.slice (EO k) (D k).length (EC k),.slice (NO k) (D k).length (NC k)]
theorem ur_ (D:Nat->List Ex)(EO NO:Nat->Option Addr)(EC NC:Nat->Nat)(k:Nat):(dg_ D EO NO EC NC k).length=k*2:=by
 induction k with
 |zero=>rfl
 |succ k ih=>simp[dg_,ih];omega
theorem lj_ {D D':Nat->List Ex}{EO NO EO' NO':Nat->Option Addr}{EC NC EC' NC':Nat->Nat}{k:Nat}(h:∀i,i<k->D i=D' i/\EO i=EO' i/\NO i=NO' i/\EC i=EC' i/\NC i=NC' i):dg_ D EO NO EC NC k=dg_ D' EO' NO' EC' NC' k:=by
 induction k with
 |zero=>rfl
 |succ k ih=>
  obtain⟨h1,h2,h3,h4,h5⟩:=h k o_;simp only[dg_];rw[ih (fun i hi=>h i o_),h1,h2,h3,h4,h5]
theorem w5_ (D:Nat->List Ex)(EO NO:Nat->Option Addr)(EC NC:Nat->Nat)(k i:Nat)(hi:i<k):(dg_ D EO NO EC NC k)[i*2]? =some (.slice (EO i) (D i).length (EC i))/\(dg_ D EO NO EC NC k)[i*2+1]? =some (.slice (NO i) (D i).length (NC i)):=by
 induction k with
 |zero=>omega
 |succ k ih=>
  have hl:=ur_ D EO NO EC NC k;simp only[dg_];by_cases e:i=k
  . subst e;constructor
    . rw[List.getElem?_append_right o_,hl,Nat.sub_self];rfl
    . rw[List.getElem?_append_right o_,hl,show i*2+1 - i*2=1 by omega];rfl
  . obtain⟨h1,h2⟩:=ih o_;constructor
    . rw[List.getElem?_append_left o_];exact h1
    . rw[List.getElem?_append_left o_];exact h2
theorem jh_ {W w:World}{b:Nat}{va vn:Value}{ka kn:Nat}{A:Nat->Bool}{R C:Nat->Nat}{X:Nat->Nat->Nat}(h:au_ W b w va vn ka kn A R C X):au_ w b w va vn ka kn A R C X:=
 ⟨⟨br__,h.two.blk,h.two.own0,h.two.own1,h.two.dis⟩,h.rows⟩
theorem acn_ {A A':Nat->Bool}{k:Nat}(h:∀i,i<k->A i=A' i):a0_ A k=a0_ A' k:=by
 induction k with
 |zero=>rfl
 |succ k ih=>simp only[a0_];rw[ih (fun i hi=>h i o_),h k o_]
theorem tf_ {X Y:Nat->Nat}{k:Nat}(h:∀i,i<k->X i=Y i):am_ X k=am_ Y k:=by
 simp only[am_];apply List.map_congr_left;intro i hi;rw[h i (by simpa using hi)]
theorem aco_ {W w:World}{b:Nat}{va vn:Value}{ka kn:Nat}{A:Nat->Bool}{R C:Nat->Nat}{X:Nat->Nat->Nat}(h:au_ W b w va vn ka kn A R C X){A':Nat->Bool}{X':Nat->Nat->Nat}(ha:∀i,i<ka->A i=A' i)(hx:∀i c,i<kn->c<8->X i c=X' i c):au_ W b w va vn ka kn A' R C X':=
 ⟨by have:=h.two;rw[acn_ ha]at this;exact this,fun i hi=>by have:=h.rows i hi;rw[tf_ (fun c hc=>hx i c hi hc)]at this;exact this⟩
structure ct_ (W:World)(B b:Nat)(w:World)(n:Nat)(D:Nat->List Ex)(EO NO:Nat->Option Addr)(EC NC:Nat->Nat)(vs va vn:Value)(ka kn:Nat)(A:Nat->Bool)(R C:Nat->Nat)(X:Nat->Nat->Nat):Prop where
 blw:Below B W w
 own:w.ownsRow B 146 2 vs n (dg_ D EO NO EC NC n)
 sts:∀i,i<n->RsAt w (EO i) (EC i) (NO i) (NC i) (D i)
 bm:au_ w b w va vn ka kn A R C X
 hb:B<=b
structure cr_ (W:World)(B b:Nat)(w:World)(n:Nat)(D:Nat->List Ex)(EO NO:Nat->Option Addr)(EC NC:Nat->Nat)(vs va vn vr:Value)(ka kn c:Nat)(A:Nat->Bool)(R C:Nat->Nat)(X:Nat->Nat->Nat):Prop where
 mem:ct_ W B b w n D EO NO EC NC vs va vn ka kn A R C X
 row:w.ownsRow (b+1) 3 1 vr c (am_ (X kn) c)
 dr:∀i,i<kn->vr.ownBlock≠some (R i)
section
variable {W:World} {B b:Nat} {w w1 w2:World} {n:Nat} {D:Nat->List Ex} {EO NO:Nat->Option Addr} {EC NC:Nat->Nat} {vs va vn vr:Value} {ka kn c:Nat} {A:Nat->Bool} {R C:Nat->Nat} {X:Nat->Nat->Nat}
theorem ct_.siz (h:ct_ W B b w n D EO NO EC NC vs va vn ka kn A R C X):b<w.heap.size:=ac_ h.bm.two.blk
theorem ct_.below (h:ct_ W B b w n D EO NO EC NC vs va vn ka kn A R C X)(hb:Below w.heap.size w w1):ct_ W B b w1 n D EO NO EC NC vs va vn ka kn A R C X:=
 ⟨h.blw.trans (hb.mono (by have:=h.siz;have:=h.hb;omega)),al_ h.own hb,fun i hi=>(h.sts i hi).below hb,jh_ (h.bm.below hb),h.hb⟩
theorem cr_.below (h:cr_ W B b w n D EO NO EC NC vs va vn vr ka kn c A R C X)(hb:Below w.heap.size w w1):cr_ W B b w1 n D EO NO EC NC vs va vn vr ka kn c A R C X:=
 ⟨h.mem.below hb,al_ h.row hb,h.dr⟩
theorem ct_.congr (h:ct_ W B b w n D EO NO EC NC vs va vn ka kn A R C X){A':Nat->Bool}{X':Nat->Nat->Nat}{D':Nat->List Ex}(hd:∀i,i<n->D i=D' i)(ha:∀i,i<ka->A i=A' i)(hx:∀i c,i<kn->c<8->X i c=X' i c):ct_ W B b w n D' EO NO EC NC vs va vn ka kn A' R C X':=
 ⟨h.blw,by have:=h.own;rw[lj_ (fun i hi=>⟨hd i hi,rfl,rfl,rfl,rfl⟩)]at this;exact this,fun i hi=>by rw[<-hd i hi];exact h.sts i hi,aco_ h.bm ha hx,h.hb⟩
theorem cr_.congr (h:cr_ W B b w n D EO NO EC NC vs va vn vr ka kn c A R C X){A':Nat->Bool}{X':Nat->Nat->Nat}{D':Nat->List Ex}(hd:∀i,i<n->D i=D' i)(ha:∀i,i<ka->A i=A' i)(hx:∀i c,i<kn->c<8->X i c=X' i c)(hr:∀d,d<c->X kn d=X' kn d):cr_ W B b w n D' EO NO EC NC vs va vn vr ka kn c A' R C X':=
 ⟨h.mem.congr hd ha hx,by have:=h.row;rw[tf_ hr]at this;exact this,h.dr⟩
theorem ct_.row0 (h:ct_ W B b w n D EO NO EC NC vs va vn ka kn A R C X):cr_ W B b w n D EO NO EC NC vs va vn (.slice none 0 0) ka kn 0 A R C X:=
 ⟨h,on__,by intro i _ e;simp[Value.ownBlock]at e⟩
theorem ct_.acc (h:ct_ W B b w n D EO NO EC NC vs va vn ka kn A R C X){g cap:Nat}(hown:w2.ownsRow (b+1) 4 1 (.slice (some ⟨g,0,none⟩) (ka+1) cap) (ka+1) (a0_ A ka++ [.bool (A ka)]))(hg:w.grownBy w2 va.ownBlock)(hf:va.ownBlock=some g\/g=w.heap.size):
 ct_ W B b (w2.setCell ⟨b,0,none⟩ (.slice (some ⟨g,0,none⟩) (ka+1) cap)) n D EO NO EC NC vs (.slice (some ⟨g,0,none⟩) (ka+1) cap) vn (ka+1) kn A R C X:=by
 have hs:=h.siz;have hB:=h.hb;have h0:=h.bm.two.own0;have hown':=gr_ h.own h0 d_ hg;have hblk:=h.bm.two.grown0 hg;exact⟨(h.blw.grown hg o_ (fun k e=>by have:=(h0.lt k e).1;omega)).setCell s_ _,bb_ hown' _ _ (fun g' hg'=>me_ hown' hblk d_ g' hg'),fun i hi=>(h.sts i hi).keeps ((ee_.grown h0 d_ d_ d_ hg).trans (ee_.set hblk d_ d_ d_)),jh_ (h.bm.acc hown hg hf),h.hb⟩
theorem cr_.put (h:cr_ W B b w n D EO NO EC NC vs va vn vr ka kn c A R C X){g cap:Nat}(hown:w2.ownsRow (b+1) 3 1 (.slice (some ⟨g,0,none⟩) (c+1) cap) (c+1) (am_ (X kn) c++ [.int .i64 ((X kn c:Nat):Int)]))(hg:w.grownBy w2 vr.ownBlock)(hf:vr.ownBlock=some g\/g=w.heap.size):
 cr_ W B b w2 n D EO NO EC NC vs va vn (.slice (some ⟨g,0,none⟩) (c+1) cap) ka kn (c+1) A R C X:=by
 have hm:=h.mem;have hs:=hm.siz;have hB:=hm.hb;rw[<-e3_]at hown;refine⟨⟨hm.blw.grown hg o_ (fun k e=>by have:=(h.row.lt k e).1;omega),gr_ hm.own h.row d_ hg,fun i hi=>(hm.sts i hi).keeps (ee_.grown h.row d_ d_ d_ hg),jh_ (hm.bm.grown h.row h.dr hg),hm.hb⟩,hown, ?_⟩;intro i hi e;simp only[Value.ownBlock,Option.some.injEq]at e;rcases hf with hf|hf
 . exact h.dr i hi (by rw[hf,e])
 . have:=((hm.bm.rows i hi).lt (R i) rfl).2;omega
theorem cr_.state (h:cr_ W B b w n D EO NO EC NC vs va vn vr ka kn c A R C X){g cap ec nc:Nat}{eo no:Option Addr}(hnew:RsAt w eo ec no nc (D n))
 (hown:w2.ownsRow B 146 2 (.slice (some ⟨g,0,none⟩) (n+1) cap) (n+1) (dg_ D EO NO EC NC n++ [.slice eo (D n).length ec,.slice no (D n).length nc])) (hg:w.grownBy w2 vs.ownBlock):
 cr_ W B b w2 (n+1) D (fun i=>if i=n then eo else EO i) (fun i=>if i=n then no else NO i) (fun i=>if i=n then ec else EC i) (fun i=>if i=n then nc else NC i) (.slice (some ⟨g,0,none⟩) (n+1) cap) va vn vr ka kn c A R C X:=by
 have hm:=h.mem;have hs:=hm.siz;have hB:=hm.hb;have hK:ee_ w w2:=ee_.grown hm.own d_ d_ d_ hg;have es:dg_ D EO NO EC NC n++ [Value.slice eo (D n).length ec,Value.slice no (D n).length nc]=dg_ D (fun i=>if i=n then eo else EO i) (fun i=>if i=n then no else NO i) (fun i=>if i=n then ec else EC i) (fun i=>if i=n then nc else NC i) (n+1):=by
  simp only[dg_,if_true];rw[lj_ (D':=D) (EO':=fun i=>if i=n then eo else EO i) (NO':=fun i=>if i=n then no else NO i) (EC':=fun i=>if i=n then ec else EC i) (NC':=fun i=>if i=n then nc else NC i) ?_];intro i hi;have:i≠n:=o_;simp[this]
 rw[es]at hown;refine⟨⟨hm.blw.grown hg o_ (fun k e=>(hm.own.lt k e).1),hown,fun i hi=> ?_, ?_,hm.hb⟩,gr_ h.row hm.own d_ hg,h.dr⟩
 . by_cases e:i=n
   . subst e;simp only[if_true];exact hnew.keeps hK
   . simp only[if_neg e];exact(hm.sts i o_).keeps hK
 . have hbm:=hm.bm;refine⟨⟨br__, ?_,gr_ hbm.two.own0 hm.own d_ hg,gr_ hbm.two.own1 hm.own d_ hg,hbm.two.dis⟩,fun i hi=>gr_ (hbm.rows i hi) hm.own d_ hg⟩;rw[hg.block b hs (fun e=>me_ hm.own hbm.two.blk d_ b e.symm rfl)];exact hbm.two.blk
theorem cr_.done {gr cr:Nat}(h:cr_ W B b w n D EO NO EC NC vs va vn (.slice (some ⟨gr,0,none⟩) 8 cr) ka kn 8 A R C X){g cap:Nat}
 (hown:w2.ownsRow (b+1) 24 1 (.slice (some ⟨g,0,none⟩) (kn+1) cap) (kn+1) (eb_ R C kn++ [.slice (some ⟨gr,0,none⟩) 8 cr])) (hg:w.grownBy w2 vn.ownBlock) (hf:vn.ownBlock=some g\/g=w.heap.size):
 ct_ W B b (w2.setCell ⟨b,1,none⟩ (.slice (some ⟨g,0,none⟩) (kn+1) cap)) n D EO NO EC NC vs va (.slice (some ⟨g,0,none⟩) (kn+1) cap) ka (kn+1) A (fun i=>if i=kn then gr else R i) (fun i=>if i=kn then cr else C i) X:=by
 have hm:=h.mem;have hs:=hm.siz;have hB:=hm.hb;have h1:=hm.bm.two.own1;have hown':=gr_ hm.own h1 d_ hg;have hblk:=hm.bm.two.grown1 hg;exact⟨(hm.blw.grown hg o_ (fun k e=>by have:=(h1.lt k e).1;omega)).setCell s_ _,bb_ hown' _ _ (fun g' hg'=>me_ hown' hblk d_ g' hg'),fun i hi=>(hm.sts i hi).keeps ((ee_.grown h1 d_ d_ d_ hg).trans (ee_.set hblk d_ d_ d_)),jh_ (hm.bm.nxt h.row hown hg hf),hm.hb⟩
end
theorem w6_:(prog.info? 146).map (fun i=>(i.zero,i.size,i.bytes))=some (some (.agg #[.slice none 0 0,.slice none 0 0]),2,48):=k_
def vr_ (E:Ex)(w:World)(r:Ending)(w':World):Prop:=∃(Z:Lay) (ps:List Nat),PRel (ei_ E) (sucE E) ps (8*ps.length)/\r= .returned (.agg #[.slice (some ⟨Z.ba,Z.oa,none⟩) ps.length Z.ca,.slice (some ⟨Z.bn,Z.on,none⟩) ps.length Z.cn])/\av_ w' Z (tabE E ps)/\Z.From w.heap.size ps.length/\Below w.heap.size w w'
theorem pp_ {w:World}{base a n cap:Nat}{D:Nat->List Ex}{EO NO:Nat->Option Addr}{EC NC:Nat->Nat}(h:w.ownsRow base 146 2 (.slice (some ⟨a,0,none⟩) n cap) n (dg_ D EO NO EC NC n)){i:Nat}(hi:i<n):
 a<w.heap.size/\w.cell? ⟨a,i*2,none⟩=some (.slice (EO i) (D i).length (EC i))/\w.cell? ⟨a,i*2+1,none⟩=some (.slice (NO i) (D i).length (NC i)):=by
 obtain⟨e1,e2⟩:=w5_ D EO NO EC NC n i hi;obtain⟨ao,cp,hv,hc⟩:=af_ h;obtain⟨g,rfl,hg⟩:=hc o_;simp only[Value.slice.injEq,Option.some.injEq,Addr.mk.injEq]at hv;obtain⟨⟨rfl,_⟩,_⟩:=hv;have c0:=(hg (i*2) o_).trans e1;have c1:=(hg (i*2+1) o_).trans e2;exact⟨an_ c0,c0,c1⟩
theorem zv_ {E:Ex}{qs:List Nat}{r p q c:Nat}(hR:PRel (ei_ E) (sucE E) qs r)(hp:p<qs.length)(h:decE E (qs.getD p 0)=fd_ (decE E q) c):sucE E q c∈qs/\qs.idxOf (sucE E q c)=p:=by
 have hm:=ds_ qs p hp;have e:sucE E q c=qs.getD p 0:=by
  unfold sucE;rw[<-h];exact(hR.inr _ hm).2
 have hmem:sucE E q c∈qs:=by rw[e];exact hm
 refine⟨hmem, ?_⟩;have h1:=List.idxOf_lt_length_of_mem hmem;have h3:qs[p]'hp=sucE E q c:=by rw[e,List.getD_eq_getElem?_getD,List.getElem?_eq_getElem hp];rfl
 have h4:qs[qs.idxOf (sucE E q c)]'h1=sucE E q c:=by simp[List.getElem_idxOf]
 exact(List.getElem_inj hR.nd).1 (h4.trans h3.symm)
theorem zw_ {E:Ex}(hE:E.can){qs:List Nat}{q c:Nat}(hq:ei_ E q)(h:∀j,j<qs.length->decE E (qs.getD j 0)≠fd_ (decE E q) c):sucE E q c∉qs:=by
 intro hmem;have h1:=h _ (List.idxOf_lt_length_of_mem hmem);rw[e1_ qs _ hmem,nk_ hE hq c]at h1;exact h1 rfl
theorem q8_ (E:Ex)(g:Nat)(w:World)(hE:ExAt w g E)(hM:Mild E):Calls prog 72 #[.pointer (some ⟨g,0,none⟩)] w (vr_ E w):=by
 obtain⟨i3,hi3,hz3,hz31,hz32⟩:=info_parts du_;obtain⟨i4,hi4,hz4,hz41,hz42⟩:=info_parts fa_;obtain⟨iR,hiR,hzR,hzR1,hzR2⟩:=info_parts ke_;obtain⟨iT,hiT,hzT,hzT1,hzT2⟩:=info_parts w6_;obtain⟨W,hW,BW,d0,d1⟩:=n2__ w #[.slice none 0 0,.slice none 0 0] 41 #[.slice none 0 0,.slice none 0 0] 146;have hWs:W.heap.size=w.heap.size+1+1:=by rw[hW];simp
 obtain⟨x0,x1,_,_⟩:=aa_ d1;have HC:=te_ W none none 0 0 [] g E (RsAt.nil W) (hE.below BW) List.Pairwise.nil i_ (by have:=hM.wt;omega);rw[show insE [] E=[E]from rfl]at HC;simp only[List.length_nil]at HC;have HM:=hi__ hM;clear hM hE d1;go_enter func72,ntmps72;go_upto_region 2 with fail;rw[<-hW];clear hW;go_wp2_with fail;refine HC.mono ?_;clear HC;rintro r w3 ⟨eo,ec,no,nc,rfl,hRs,hB3⟩;simp only[List.length_singleton];have hs3:=hB3.size;have P0:ct_ W W.heap.size (w3.heap.size+1) ((w3.alloc (.cells #[.slice eo 1 ec,.slice no 1 nc] 146)).alloc (.cells #[.slice none 0 0,.slice none 0 0] 41)) [0].length (fun i=>decE E ([0].getD i 0)) (fun _=>eo) (fun _=>no) (fun _=>ec) (fun _=>nc) (.slice (some ⟨w3.heap.size,0,none⟩) 1 1) (.slice none 0 0) (.slice none 0 0) 0 0 (tabE E [0]).acc (fun _=>0) (fun _=>0) (pn (sucE E) [0]):=by
  refine⟨(hB3.alloc o_ _).alloc s_ _, ?_,fun i hi=> ?_,au_.start br__ (ag_ i_),o_⟩
  . have h:=World.ownsRow_lit (base:=W.heap.size) (e:=146) (size:=2) w3 #[.slice eo 1 ec,.slice no 1 nc] 1 o_ d_ rfl;exact h.alloc (.cells #[.slice none 0 0,.slice none 0 0] 41)
  . have hi0:i=0:=by simpa using hi
    subst hi0;exact hRs.below (ba__.alloc i_ _)
 have hbig:∀qs r,PRel (ei_ E) (sucE E) qs r->qs.length<=2049:=fun qs r h=>yb_ HM.out.let_ h
 clear hRs;go_wp2_with fail;go_loopw [4,6,7,8,9,10,11,12] (fun vs k' _ _ _ _ _ _ wr=>∃(k:Nat) (ps:List Nat) (EO NO:Nat->Option Addr) (EC NC:Nat->Nat) (va vn:Value) (R C:Nat->Nat),k<=ps.length/\k'= .int .i64 (k:Int)/\PRel (ei_ E) (sucE E) ps (8*k)/\ct_ W W.heap.size (w3.heap.size+1) wr ps.length (fun i=>decE E (ps.getD i 0)) EO NO EC NC vs va vn k k (tabE E ps).acc R C (pn (sucE E) ps))
  (fun _ k' _ _ _ _ _ _ _=>2049 - (intOf k').toNat)
 case atStart=>exact⟨0,[0],_,_,_,_,_,_,_,_,i_,rfl,PRel.start (wa_ E),P0⟩
 case round=>
  obtain⟨k,ps,EO,NO,EC,NC,va,vn,R,C,hk,rfl,hR,hP⟩:=hrel;clear P0;have hbd:=hbig _ _ hR;have hlen:=hR.len;have hbw:Below w.heap.size w wr:=BW.trans (hP.blw.mono o_);obtain⟨y0,y1,z0,z1⟩:=aa_ hP.bm.two.blk;obtain⟨ap,cp,rfl,hap⟩:=af_ hP.own;obtain⟨gp,rfl,_⟩:=hap o_;have hszs:=hP.siz;clear hap;by_cases hlt:k<ps.length
  . obtain⟨hgp,c0,c1⟩:=pp_ hP.own hlt;have hk14:(k:Int)<(ps.length:Int):=o_;obtain⟨q,HQ⟩:=hx__ (ps.getD k 0);have hgq:ei_ E q:=by rw[<-HQ.out];exact hR.inr _ (ds_ ps k hlt)
    have HST:Hid (StE E (decE E q)):=mu_ HM.out.can q hgq.1;have hsk:=hP.sts k hlt;simp only[HQ.out]at c0 c1 hsk;have HC:=uq_ wr (EO k) (NO k) (EC k) (NC k) (decE E q) hsk (by have:=HST.out.len HM.out;omega);obtain⟨bb,HBB⟩:=hx__ ((decE E q).any Ex.empty);obtain⟨lk,HLK⟩:=hx__ ((decE E q).length);rw[HBB.out]at HC;rw[HLK.out]at HC c0 c1;have HAK:Hid ((tabE E ps).acc k=bb):=by
     unfold Hid;show accE (decE E (ps.getD k 0))=bb
     rw[HQ.out];exact HBB.out
    have HP:Hid (ct_ W W.heap.size (w3.heap.size+1) wr ps.length (fun i=>decE E (ps.getD i 0)) EO NO EC NC (.slice (some ⟨gp,0,none⟩) ps.length cp) va vn k k (tabE E ps).acc R C (pn (sucE E) ps)):=hP;have HR:Hid (PRel (ei_ E) (sucE E) ps (8*k)):=hR;clear hP hR hsk y0 y1 z0 z1;have HBIG:=hi__ hbig;have HGQ:=hi__ hgq;have HWS:=hi__ hWs;obtain⟨eok,HEOK⟩:=hx__ (EO k);obtain⟨nok,HNOK⟩:=hx__ (NO k);obtain⟨eck,HECK⟩:=hx__ (EC k);obtain⟨nck,HNCK⟩:=hx__ (NC k);rw[HEOK.out,HECK.out]at c0;rw[HNOK.out,HNCK.out]at c1;rw[HEOK.out,HECK.out,HNOK.out,HNCK.out]at HC;clear hbig hgq hWs;obtain⟨o2,hko⟩:∃x,k*2=x:=⟨_,rfl⟩;rw[hko]at c0 c1;go_wp2_with fail;refine HC.mono ?_;clear HC;rintro r w5 ⟨rfl,hB5⟩;have hs5:=hB5.size;have hP5:=HP.out.below hB5;obtain⟨y0,y1,z0,z1⟩:=aa_ hP5.bm.two.blk;have HBa:Hid (ct_ W W.heap.size (w3.heap.size+1) (w5.alloc (.cells #[.bool bb] 4)) ps.length (fun i=>decE E (ps.getD i 0)) EO NO EC NC (.slice (some ⟨gp,0,none⟩) ps.length cp) va vn k k (tabE E ps).acc R C (pn (sucE E) ps)):=hP5.below ba__;have hna:=HBa.out.bm.two.own0;clear hP5 hB5 c0 c1 hbw;go_upto_region 8 with fail;go_cut [] (fun wc=>∃va',Hid (ct_ W W.heap.size (w3.heap.size+1) wc ps.length (fun i=>decE E (ps.getD i 0)) EO NO EC NC (.slice (some ⟨gp,0,none⟩) ps.length cp) va' vn (k+1) k (tabE E ps).acc R C (pn (sucE E) ps)))
    case first=>
     go_wp2_with (at_builtin;refine ae_ _ rfl _ _ 38 rfl ((w3.heap.size+1)+1) 4 i4 (.bool false) 1 1 underlying38 hi4 hz4 hz41 hz42 rfl d_ va k (a0_ (tabE E ps).acc k) rfl hna ⟨w5.heap.size,0,none⟩ 1 1 [.bool bb] rfl rfl (cell_one_new _ _ _) (oc__ rfl) d_ u_ o_ s_ ?_;intro g' cap' w6 hown hgr hfr;obtain⟨f0,f1,f2,f3⟩:=aa_ (HBa.out.bm.two.grown0 hgr);have HF:Hid (ct_ W W.heap.size (w3.heap.size+1) (w6.setCell ⟨w3.heap.size+1,0,none⟩ (.slice (some ⟨g',0,none⟩) (k+1) cap')) ps.length (fun i=>decE E (ps.getD i 0)) EO NO EC NC (.slice (some ⟨gp,0,none⟩) ps.length cp) (.slice (some ⟨g',0,none⟩) (k+1) cap') vn (k+1) k (tabE E ps).acc R C (pn (sucE E) ps)):=(HBa.out.acc (by rw[HAK.out];exact hown) hgr hfr);clear hown hgr hfr);go_meet
     exact⟨_,HF⟩
    case rest=>
     obtain⟨va',HP6⟩:=hcut;clear HBa hna y0 y1 z0 z1 HP;have R0:Hid (cr_ W W.heap.size (w3.heap.size+1) wc ps.length (fun i=>decE E (ps.getD i 0)) EO NO EC NC (.slice (some ⟨gp,0,none⟩) ps.length cp) va' vn (.slice none 0 0) (k+1) k 0 (tabE E ps).acc R C (pn (sucE E) ps)):=HP6.out.row0;clear HP6;go_wp2_with fail;go_loopw [4,8,9,10,11,12] (fun vs vr c' _ _ _ wr=>∃(c:Nat) (qs:List Nat) (EO NO:Nat->Option Addr) (EC NC:Nat->Nat),c<=8/\c'= .int .i64 (c:Int)/\k<qs.length/\Hid (qs.getD k 0=q)/\Hid (PRel (ei_ E) (sucE E) qs (8*k+c))/\cr_ W W.heap.size (w3.heap.size+1) wr qs.length (fun i=>decE E (qs.getD i 0)) EO NO EC NC vs va' vn vr (k+1) k c (tabE E qs).acc R C (pn (sucE E) qs))
      (fun _ _ c' _ _ _ _=>8 - (intOf c').toNat)
     case atStart=>exact⟨0,ps,EO,NO,EC,NC,o_,rfl,hlt,HQ,HR,R0.out⟩
     case round=>
      clear R0 HR HQ hlt hbd hlen hszs HAK HBB hk14 hgp HLK HEOK HNOK HECK HNCK hko hk;obtain⟨c,qs,EO,NO,EC,NC,hc,rfl,hlt,HQ,HR,hP⟩:=hrel;have hbd:=HBIG.out _ _ HR.out;have hlen:=HR.out.len;obtain⟨ap,cp,rfl,hap⟩:=af_ hP.mem.own;obtain⟨gq,rfl,_⟩:=hap o_;clear hap;have hszs:=hP.mem.siz;obtain⟨ar,cr,rfl,har⟩:=af_ hP.row;by_cases hl8:c<8
      . obtain⟨hgq2,c0,c1⟩:=pp_ hP.mem.own hlt;have hk14:(k:Int)<(qs.length:Int):=o_;have hc8:(c:Int)<8:=o_;have hsk:=hP.mem.sts k hlt;simp only[HQ.out]at c0 c1 hsk;obtain⟨ha1,ha2,ha3⟩:=HST.out.asks HM.out c;have HC:=acl_ wr (EO k) (NO k) (EC k) (NC k) c (decE E q) hsk hl8 ha1 ha2 ha3;obtain⟨lk,HLK⟩:=hx__ ((decE E q).length);obtain⟨L2,HL2⟩:=hx__ (fd_ (decE E q) c);rw[HL2.out]at HC;rw[HLK.out]at HC c0 c1;obtain⟨eok,HEOK⟩:=hx__ (EO k);obtain⟨nok,HNOK⟩:=hx__ (NO k);obtain⟨eck,HECK⟩:=hx__ (EC k);obtain⟨nck,HNCK⟩:=hx__ (NC k);rw[HEOK.out,HECK.out]at c0;rw[HNOK.out,HNCK.out]at c1;rw[HEOK.out,HECK.out,HNOK.out,HNCK.out]at HC;obtain⟨o2,hko⟩:∃x,k*2=x:=⟨_,rfl⟩;rw[hko]at c0 c1;have HP:Hid (cr_ W W.heap.size (w3.heap.size+1) wr qs.length (fun i=>decE E (qs.getD i 0)) EO NO EC NC (.slice (some ⟨gq,0,none⟩) qs.length cp) va' vn (.slice ar c cr) (k+1) k c (tabE E qs).acc R C (pn (sucE E) qs)):=hP;clear hP hsk ha1 ha2 ha3 har;go_wp2_with fail;refine HC.mono ?_;clear HC c0 c1 hko HEOK HNOK HECK HNCK HLK;rintro r w5 ⟨eo5,ec5,no5,nc5,rfl,hRs5,hB5⟩;have hs5:=hB5.size;obtain⟨l2,HL2L⟩:=hx__ (L2.length);rw[HL2L.out];obtain⟨W6,hW6,B6,-,k6⟩:=nw__ w5 #[.slice eo5 l2 ec5,.slice no5 l2 nc5] 146;go_upto_region 14 with fail;rw[<-hW6];have HP6:Hid (cr_ W W.heap.size (w3.heap.size+1) W6 qs.length (fun i=>decE E (qs.getD i 0)) EO NO EC NC (.slice (some ⟨gq,0,none⟩) qs.length cp) va' vn (.slice ar c cr) (k+1) k c (tabE E qs).acc R C (pn (sucE E) qs)):=(HP.out.below hB5).below B6;have HRs6:Hid (RsAt W6 eo5 ec5 no5 nc5 L2):=hRs5.below B6;have hs6:=ac_ k6;have HGS:Hid (∀x∈qs,ei_ E x):=HR.out.inr;have HST2:Hid (StE E L2):=by unfold Hid;rw[<-HL2.out];exact HST.out.step HM.out.can c
        clear hW6 hRs5 hB5 B6 HP;go_wp2_with fail;go_loopw [11,12] (fun p' s' wi=>∃(p:Nat) (b:Bool),p<=qs.length/\p'= .int .i64 (p:Int)/\s'= .bool b/\Hid (∀j,j<p->decE E (qs.getD j 0)≠L2)/\Hid (b=true->p<qs.length/\decE E (qs.getD p 0)=L2)/\Below W6.heap.size W6 wi) (fun p' s' _=>2*(qs.length - (intOf p').toNat)+(match s' with| .bool true=>0|_=>1))
        case atStart=>exact⟨0,false,o_,rfl,rfl,fun j hj=>absurd hj o_,fun h=>by simp at h,br__⟩
        case round=>
         obtain⟨p,b,hp,rfl,rfl,HNF,HF,hB7⟩:=hrel;have hs7:=hB7.size;cases b
         . by_cases hlp:p<qs.length
           . have hlp2:(p:Int)<(qs.length:Int):=o_;obtain⟨r0,r1,_,_⟩:=aa_ ((hB7.block _ hs6).trans k6);have hP7:=HP6.out.below hB7;obtain⟨hgq7,c0,c1⟩:=pp_ hP7.mem.own hlp;have hsp:=hP7.mem.sts p hlp;have hstp:StE E (decE E (qs.getD p 0)):=mu_ HM.out.can _ (HGS.out _ (ds_ qs p hlp)).1;try simp only at c0 c1 hsp
             have hBd:Below wr.heap.size wr wr.drew:=br__.drew;have HC:=tc_ wr.drew (EO p) (NO p) eo5 no5 (EC p) (NC p) ec5 nc5 (decE E (qs.getD p 0)) L2 (hsp.below hBd) ((HRs6.out.below hB7).below hBd) (by have:=hstp.len HM.out;omega) (by have:=HST2.out.len HM.out;omega);have HSB:Hid (hl_ (decE E (qs.getD p 0)) L2=true↔decE E (qs.getD p 0)=L2):=zu_ (hstp.can HM.out.can) (HST2.out.can HM.out.can);obtain⟨Dp,HDP⟩:=hx__ (decE E (qs.getD p 0));rw[HDP.out]at HC HSB c0 c1;obtain⟨lp,HLP⟩:=hx__ (Dp.length);rw[HLP.out]at HC c0 c1;rw[HL2L.out]at HC;obtain⟨sb,HSBE⟩:=hx__ (hl_ Dp L2);rw[HSBE.out]at HC HSB;obtain⟨eok,HEOK⟩:=hx__ (EO p);obtain⟨nok,HNOK⟩:=hx__ (NO p);obtain⟨eck,HECK⟩:=hx__ (EC p);obtain⟨nck,HNCK⟩:=hx__ (NC p);rw[HEOK.out,HECK.out]at c0;rw[HNOK.out,HNCK.out]at c1;rw[HEOK.out,HECK.out,HNOK.out,HNCK.out]at HC;obtain⟨o2,hko⟩:∃x,p*2=x:=⟨_,rfl⟩;rw[hko]at c0 c1;have HB7:Hid (Below W6.heap.size W6 wr):=hB7;clear hP7 hsp hstp hBd hB7;go_wp2_with fail;go_region_with (go_at_call 117;refine HC.mono ?_;rintro r w8 ⟨rfl,hB8'⟩;have hB8:Below W6.heap.size W6 w8:=(HB7.out.drew).trans (hB8'.mono hs7);clear hB8' HC)
             all_goals
              cases sb
              . go_wp2_with fail;go_roundw
                case rel=>
                 refine⟨p+1,false,o_,by go_num,rfl,fun j hj=> ?_,fun h=>by simp at h,hB8⟩;by_cases e:j=p
                 . subst e;rw[HDP.out];intro e2;have:=HSB.out.2 e2;simp at this
                 . exact HNF.out j o_
                case measure=>simp[intOf];omega
              . go_wp2_with fail;go_roundw
                case rel=>exact⟨p,true,o_,rfl,rfl,HNF.out,fun _=>⟨hlp,by rw[HDP.out];exact HSB.out.1 rfl⟩,hB8⟩
                case measure=>simp[intOf]
           . have hpe:p=qs.length:=o_;have hlp2:¬(p:Int)<(qs.length:Int):=o_;subst hpe;have HN:Hid (sucE E q c∉qs):=zw_ HM.out.can HGQ.out (fun j hj=>by rw[HL2.out];exact HNF.out j hj);obtain⟨r0,r1,_,_⟩:=aa_ ((hB7.block _ hs6).trans k6);have hpb:((qs.length:Int)==(qs.length:Int))=true:=i_;have hs8:w3.heap.size+1<wr.heap.size:=by have:=HP6.out.mem.siz;omega
             have HSQ:Hid (sucE E (qs.getD ((8*k+c)/8) 0) ((8*k+c)%8)=sucE E q c):=by
              unfold Hid;rw[show(8*k+c)/8=k by omega,show(8*k+c)%8=c by omega,HQ.out]
             have HDN:Hid ((fun i=>decE E ((qs++ [sucE E q c]).getD i 0)) qs.length=L2):=by
              unfold Hid;show decE E ((qs++ [sucE E q c]).getD qs.length 0)=L2
              rw[show(qs++ [sucE E q c]).getD qs.length 0=sucE E q c by simp[List.getD_eq_getElem?_getD],nk_ HM.out.can HGQ.out c];exact HL2.out
             have HPa0:Hid (cr_ W W.heap.size (w3.heap.size+1) (wr.alloc (.cells #[.slice eo5 l2 ec5,.slice no5 l2 nc5] 146)) qs.length (fun i=>decE E ((qs++ [sucE E q c]).getD i 0)) EO NO EC NC (.slice (some ⟨gq,0,none⟩) qs.length cp) va' vn (.slice ar c cr) (k+1) k c (tabE E (qs++ [sucE E q c])).acc R C (pn (sucE E) (qs++ [sucE E q c]))):=by
              refine((HP6.out.below hB7).below ba__).congr (fun i hi=> ?_) (fun i hi=> ?_) (fun i d hi hd=>(hn_ HR.out i d hd o_).symm) (fun d hd=>(hn_ HR.out k d o_ o_).symm)
              . show decE E (qs.getD i 0)=decE E ((qs++ [sucE E q c]).getD i 0)
                rw[ce_ _ _ _ hi]
              . show accE (decE E (qs.getD i 0))=accE (decE E ((qs++ [sucE E q c]).getD i 0))
                rw[ce_ _ _ _ o_]
             have hna0:=HPa0.out.mem.own;have HNS:Hid (RsAt (wr.alloc (.cells #[.slice eo5 l2 ec5,.slice no5 l2 nc5] 146)) eo5 ec5 no5 nc5 ((fun i=>decE E ((qs++ [sucE E q c]).getD i 0)) qs.length)):=by
              unfold Hid;rw[HDN.out];exact(HRs6.out.below hB7).below ba__
             clear HF HNF hB7;go_upto_region 22 with (at_builtin;refine ae_ _ rfl _ _ 148 rfl W.heap.size 146 iT (.agg #[.slice none 0 0,.slice none 0 0]) 2 48 underlying148 hiT hzT hzT1 hzT2 rfl d_ (.slice (some ⟨gq,0,none⟩) qs.length cp) qs.length (dg_ (fun i=>decE E ((qs++ [sucE E q c]).getD i 0)) EO NO EC NC qs.length) rfl hna0 ⟨wr.heap.size,0,none⟩ 1 1 [.slice eo5 l2 ec5,.slice no5 l2 nc5] rfl rfl (jp_ _ _ _) (by intro u hu;simp at hu;rcases hu with rfl|rfl<;>rfl) d_ u_ o_ s_ ?_;intro g6 cap6 w9 hown hgr hfr;have HO6:Hid (w9.ownsRow W.heap.size 146 2 (.slice (some ⟨g6,0,none⟩) (qs.length+1) cap6) (qs.length+1) (dg_ (fun i=>decE E ((qs++ [sucE E q c]).getD i 0)) EO NO EC NC qs.length++ [.slice eo5 l2 ec5,.slice no5 l2 nc5])):=hown;have HG6:Hid ((wr.alloc (.cells #[.slice eo5 l2 ec5,.slice no5 l2 nc5] 146)).grownBy w9 (Value.slice (some ⟨gq,0,none⟩) qs.length cp).ownBlock):=hgr;clear hown hgr hfr);have hP9:=HPa0.out.state HNS.out (by have e:decE E ((qs++ [sucE E q c]).getD qs.length 0)=L2:=HDN.out;rw[e,HL2L.out];exact HO6.out) HG6.out;have hs9:=hP9.mem.siz;have HPa:Hid (cr_ W W.heap.size (w3.heap.size+1) (w9.alloc (.cells #[.int .i64 (qs.length:Int)] 3)) (qs.length+1) (fun i=>decE E ((qs++ [sucE E q c]).getD i 0)) (fun i=>if i=qs.length then eo5 else EO i) (fun i=>if i=qs.length then no5 else NO i) (fun i=>if i=qs.length then ec5 else EC i) (fun i=>if i=qs.length then nc5 else NC i) (.slice (some ⟨g6,0,none⟩) (qs.length+1) cap6) va' vn (.slice ar c cr) (k+1) k c (tabE E (qs++ [sucE E q c])).acc R C (pn (sucE E) (qs++ [sucE E q c]))):=hP9.below ba__;have hna:=HPa.out.row;clear hP9 hna0 HPa0 HNS HO6 HG6 r0 r1;go_wp2_with (at_builtin;refine ae_ _ rfl _ _ 24 rfl ((w3.heap.size+1)+1) 3 i3 (.int .i64 0) 1 8 underlying24 hi3 hz3 hz31 hz32 rfl d_ (.slice ar c cr) c (am_ (pn (sucE E) (qs++ [sucE E q c]) k) c) rfl hna ⟨w9.heap.size,0,none⟩ 1 1 [.int .i64 (qs.length:Int)] rfl rfl (cell_one_new _ _ _) (oc__ rfl) d_ u_ o_ s_ ?_;intro g' cap' w10 hown hgr hfr;have HO:Hid (w10.ownsRow ((w3.heap.size+1)+1) 3 1 (.slice (some ⟨g',0,none⟩) (c+1) cap') (c+1) (am_ (pn (sucE E) (qs++ [sucE E q c]) k) c++ [.int .i64 (qs.length:Int)])):=hown;have HG:Hid ((w9.alloc (.cells #[.int .i64 (qs.length:Int)] 3)).grownBy w10 (Value.slice ar c cr).ownBlock):=hgr;have HFR:Hid ((Value.slice ar c cr).ownBlock=some g'\/g'=(w9.alloc (.cells #[.int .i64 (qs.length:Int)] 3)).heap.size):=hfr;clear hown hgr hfr);go_roundw
             case rel=>
              have hnew:=HR.out.new o_ (by rw[HSQ.out];exact HN.out) (by rw[HSQ.out];exact ya_ HM.out.can HGQ.out c);rw[HSQ.out]at hnew;have hpnew:pn (sucE E) (qs++ [sucE E q c]) k c=qs.length:=by
               simp only[pn];rw[ce_ _ _ _ hlt,HQ.out,List.idxOf_append,if_neg HN.out];simp
              have ho:=HO.out;rw[<-hpnew]at ho;have hfin:=HPa.out.put ho HG.out HFR.out;refine⟨c+1,(qs++ [sucE E q c]),(fun i=>if i=qs.length then eo5 else EO i),(fun i=>if i=qs.length then no5 else NO i),(fun i=>if i=qs.length then ec5 else EC i),(fun i=>if i=qs.length then nc5 else NC i),o_,by go_num,s_,by unfold Hid;rw[ce_ _ _ _ hlt];exact HQ.out,hnew, ?_⟩;rw[show(qs++ [sucE E q c]).length=qs.length+1 by simp];exact hfin
             case measure=>simp[intOf];omega
         . obtain⟨hlp,hfd⟩:=HF.out rfl;have hlp2:(p:Int)<(qs.length:Int):=o_;have hpb:((p:Int)==(qs.length:Int))=false:=by rw[beq_eq_false_iff_ne];omega
           have HOL:Hid (sucE E q c∈qs/\qs.idxOf (sucE E q c)=p):=zv_ HR.out hlp (by rw[HL2.out];exact hfd);have HSQ:Hid (sucE E (qs.getD ((8*k+c)/8) 0) ((8*k+c)%8)=sucE E q c):=by
            unfold Hid;rw[show(8*k+c)/8=k by omega,show(8*k+c)%8=c by omega,HQ.out]
           have HPa:Hid (cr_ W W.heap.size (w3.heap.size+1) (wr.alloc (.cells #[.int .i64 (p:Int)] 3)) qs.length (fun i=>decE E (qs.getD i 0)) EO NO EC NC (.slice (some ⟨gq,0,none⟩) qs.length cp) va' vn (.slice ar c cr) (k+1) k c (tabE E qs).acc R C (pn (sucE E) qs)):=(HP6.out.below hB7).below ba__;have hna:=HPa.out.row;have hs8:w3.heap.size+1<wr.heap.size:=by have:=HP6.out.mem.siz;omega
           clear hfd HF HNF hB7;go_wp2_with (at_builtin;refine ae_ _ rfl _ _ 24 rfl ((w3.heap.size+1)+1) 3 i3 (.int .i64 0) 1 8 underlying24 hi3 hz3 hz31 hz32 rfl d_ (.slice ar c cr) c (am_ (pn (sucE E) qs k) c) rfl hna ⟨wr.heap.size,0,none⟩ 1 1 [.int .i64 (p:Int)] rfl rfl (cell_one_new _ _ _) (oc__ rfl) d_ u_ o_ s_ ?_;intro g' cap' w9 hown hgr hfr;have HO:Hid (w9.ownsRow ((w3.heap.size+1)+1) 3 1 (.slice (some ⟨g',0,none⟩) (c+1) cap') (c+1) (am_ (pn (sucE E) qs k) c++ [.int .i64 (p:Int)])):=hown;have HG:Hid ((wr.alloc (.cells #[.int .i64 (p:Int)] 3)).grownBy w9 (Value.slice ar c cr).ownBlock):=hgr;have HFR:Hid ((Value.slice ar c cr).ownBlock=some g'\/g'=(wr.alloc (.cells #[.int .i64 (p:Int)] 3)).heap.size):=hfr;clear hown hgr hfr);go_roundw
           case rel=>
            have hpnc:pn (sucE E) qs k c=p:=by
             unfold pn;rw[HQ.out];exact HOL.out.2
            have ho:=HO.out;rw[<-hpnc]at ho;exact⟨c+1,qs,EO,NO,EC,NC,o_,by go_num,hlt,HQ,HR.out.old o_ (by rw[HSQ.out];exact HOL.out.1),HPa.out.put ho HG.out HFR.out⟩
           case measure=>simp[intOf];omega
      . have he:c=8:=o_;subst he;obtain⟨gr,rfl,_⟩:=har o_;obtain⟨y0,y1,_,_⟩:=aa_ hP.mem.bm.two.blk;have HBi:Hid (cr_ W W.heap.size (w3.heap.size+1) (wr.alloc (.cells #[.slice (some ⟨gr,0,none⟩) 8 cr] 24)) qs.length (fun i=>decE E (qs.getD i 0)) EO NO EC NC (.slice (some ⟨gq,0,none⟩) qs.length cp) va' vn (.slice (some ⟨gr,0,none⟩) 8 cr) (k+1) k 8 (tabE E qs).acc R C (pn (sucE E) qs)):=hP.below ba__;have hna1:=HBi.out.mem.bm.two.own1;clear hP har;go_wp2_with (at_builtin;refine ae_ _ rfl _ _ 39 rfl ((w3.heap.size+1)+1) 24 iR (.slice none 0 0) 1 24 underlying39 hiR hzR hzR1 hzR2 rfl d_ vn k (eb_ R C k) rfl hna1 ⟨wr.heap.size,0,none⟩ 1 1 [.slice (some ⟨gr,0,none⟩) 8 cr] rfl rfl (cell_one_new _ _ _) (oc__ rfl) d_ u_ o_ s_ ?_;intro g' cap' w6 hown hgr hfr;obtain⟨f0,f1,f2,f3⟩:=aa_ (HBi.out.mem.bm.two.grown1 hgr);have HF:Hid (ct_ W W.heap.size (w3.heap.size+1) (w6.setCell ⟨w3.heap.size+1,1,none⟩ (.slice (some ⟨g',0,none⟩) (k+1) cap')) qs.length (fun i=>decE E (qs.getD i 0)) EO NO EC NC (.slice (some ⟨gq,0,none⟩) qs.length cp) va' (.slice (some ⟨g',0,none⟩) (k+1) cap') (k+1) (k+1) (tabE E qs).acc (fun i=>if i=k then gr else R i) (fun i=>if i=k then cr else C i) (pn (sucE E) qs)):=HBi.out.done hown hgr hfr;clear hown hgr hfr);go_roundw
        case rel=>
         exact⟨k+1,qs,EO,NO,EC,NC,_,_,_,_,o_,by go_num,by rw[show 8*(k+1)=8*k+8 by omega];exact HR.out,HF.out⟩
        case measure=>simp[intOf];omega
  . have he:k=ps.length:=o_;subst he;obtain⟨Z,rfl,rfl,hT,hFr⟩:=hP.bm.done (N:=tabE E ps) o_ rfl (fun i hi=>rfl) (fun i c hi hc=>rfl);have k1:=(hP.blw.block _ o_).trans d0;obtain⟨r0,r1,r2,r3⟩:=aa_ k1;obtain⟨s0,s1,s2,s3⟩:=aa_ (bg_ (u:= .slice (some ⟨Z.ba,Z.oa,none⟩) ps.length Z.ca) k1);obtain⟨t0,t1,t2,t3⟩:=aa_ (c7_ (u:= .slice (some ⟨Z.bn,Z.on,none⟩) ps.length Z.cn) (bg_ (u:= .slice (some ⟨Z.ba,Z.oa,none⟩) ps.length Z.ca) k1));have HPO:Hid (vr_ E w (.returned (.agg #[.slice (some ⟨Z.ba,Z.oa,none⟩) ps.length Z.ca,.slice (some ⟨Z.bn,Z.on,none⟩) ps.length Z.cn])) ((wr.setCell ⟨w.heap.size,0,none⟩ (.slice (some ⟨Z.ba,Z.oa,none⟩) ps.length Z.ca)).setCell ⟨w.heap.size,1,none⟩ (.slice (some ⟨Z.bn,Z.on,none⟩) ps.length Z.cn))):=
     ⟨Z,ps,hR,rfl,hT.res hFr (b:=w.heap.size) o_ _ _,hFr.mono o_,az_ hbw (b:=w.heap.size) o_ _ _⟩
    clear hP hT hFr hR k1 hbig hWs;go_wp2_with fail;refine bodyPost_ret (v:= .agg #[.slice (some ⟨Z.ba,Z.oa,none⟩) ps.length Z.ca,.slice (some ⟨Z.bn,Z.on,none⟩) ps.length Z.cn]) (by simp[results,results72,go_sem,t0,t1]) rfl ?_;exact HPO.out
theorem q9_ (s:ByteArray)(b:Int)(w:World)(hss:s.size<=maxLen)(hs:40<s.size):Calls prog 31 #[.string s,.int .i64 b] w (ew_ 1 0 w):=by
 unfold maxLen at hss;obtain⟨W,hW,BW,-,b0⟩:=nw__ w #[.slice none 0 0,.slice none 0 0] 41;have hs2:(40:Int)<(s.size:Int):=o_;obtain⟨q0,q1,p0,p1⟩:=aa_ b0;go_enter func31,ntmps31;go_upto_region 1 with fail;rw[<-hW];clear hW;go_wp2_with fail;obtain⟨_,r2,r1⟩:=a7_ (u:= .slice none 0 0) (v:= .slice none 0 0) b0;refine bodyPost_ret (v:= .tuple #[.agg #[.slice none 0 0,.slice none 0 0],.int .i64 1,.int .i64 0]) (by simp[results,results31,go_sem,r1,r2]) rfl ?_;exact⟨rfl,az_ BW (b:=w.heap.size) o_ (.slice none 0 0) (.slice none 0 0)⟩
theorem tg_ (s:ByteArray)(b:Int)(w:World)(hs:s.size<=40){a:Nat}(ha:b6_ s a):Calls prog 31 #[.string s,.int .i64 b] w (ew_ 2 a w):=by
 obtain⟨W,hW,BW,-,b0⟩:=nw__ w #[.slice none 0 0,.slice none 0 0] 41;have hs2:¬(40:Int)<(s.size:Int):=o_;obtain⟨q0,q1,p0,p1⟩:=aa_ b0;have HP:Calls prog 69 #[.string s] W (fun e w'=>e= .returned (.int .i64 (a:Int))/\W=w'):=(g3_ s W hs).mono (fun e w' ⟨r,he,hP,hw⟩=>⟨by rw[he,uh_ hP ha],hw⟩);clear ha;go_enter func31,ntmps31;go_upto_region 1 with fail;rw[<-hW];clear hW;go_wp2_with fail;refine HP.mono ?_;clear HP;rintro e w1 ⟨rfl,rfl⟩;go_wp2_with fail;obtain⟨_,r2,r1⟩:=a7_ (u:= .slice none 0 0) (v:= .slice none 0 0) b0;refine bodyPost_ret (v:= .tuple #[.agg #[.slice none 0 0,.slice none 0 0],.int .i64 2,.int .i64 (a:Int)]) (by simp[results,results31,go_sem,r1,r2]) rfl ?_;exact⟨rfl,az_ BW (b:=w.heap.size) o_ (.slice none 0 0) (.slice none 0 0)⟩
theorem ra_ (s:ByteArray)(b:Int)(w:World)(hs:s.size<=40){p:Pat}{t:Sp}(hp:co_ s= .ok p t)(hta:t.a=s.size)(hbk:t.bk=true):Calls prog 31 #[.string s,.int .i64 b] w (ew_ 3 t.sp w):=by
 obtain⟨W,hW,BW,-,-⟩:=nw__ w #[.slice none 0 0,.slice none 0 0] 41;have hWs:W.heap.size=w.heap.size+1:=by rw[hW];simp
 have b0:=hn__ hW;have hs2:¬(40:Int)<(s.size:Int):=o_;have HP:Calls prog 69 #[.string s] W (fun e w'=>e= .returned (.int .i64 (-1))/\W=w'):=(g3_ s W hs).mono (fun e w' ⟨r,he,hP,hw⟩=>⟨by rw[he,hk_ hP hp hta],hw⟩);have HB:Calls prog 70 #[.string s] W (fun e w'=>e= .returned (.int .i64 (t.sp:Int))/\Below W.heap.size W w'):=(gm_ s W hs).mono (fun e w' ⟨r,he,hP,hw⟩=>⟨by rw[he,ab1_ hP hp hta hbk],hw⟩);obtain⟨a,Ha⟩:=hx__ (t.sp);rw[Ha.out]at HB ⊢;clear hp hta hbk Ha;go_enter func31,ntmps31;go_upto_region 1 with fail;rw[<-hW];clear hW;go_wp2_with fail;refine HP.mono ?_;clear HP;rintro e w1 ⟨rfl,rfl⟩;go_wp2_with fail;refine HB.mono ?_;clear HB;rintro e w1 ⟨rfl,hB1⟩;have B1:Below w.heap.size w w1:=BW.trans (hB1.mono o_);have a0:=(hB1.block _ o_).trans b0;have hs1:=hB1.size;clear hB1 b0;obtain⟨q0,q1,p0,p1⟩:=aa_ a0;go_wp2_with fail;obtain⟨_,r2,r1⟩:=a7_ (u:= .slice none 0 0) (v:= .slice none 0 0) a0;refine bodyPost_ret (v:= .tuple #[.agg #[.slice none 0 0,.slice none 0 0],.int .i64 3,.int .i64 (a:Int)]) (by simp[results,results31,go_sem,r1,r2]) rfl ?_;exact⟨rfl,az_ B1 (b:=w.heap.size) o_ (.slice none 0 0) (.slice none 0 0)⟩
theorem rb_ (s:ByteArray)(b:Int)(w:World)(hs:s.size<=40){p:Pat}{t:Sp}(hp:co_ s= .ok p t)(hta:t.a=s.size)(hbk:t.bk=false)(hsz:10<p.size):Calls prog 31 #[.string s,.int .i64 b] w (ew_ 4 0 w):=by
 obtain⟨W,hW,BW,-,-⟩:=nw__ w #[.slice none 0 0,.slice none 0 0] 41;have hWs:W.heap.size=w.heap.size+1:=by rw[hW];simp
 have b0:=hn__ hW;have hs2:¬(40:Int)<(s.size:Int):=o_;have HP:Calls prog 69 #[.string s] W (fun e w'=>e= .returned (.int .i64 (-1))/\W=w'):=(g3_ s W hs).mono (fun e w' ⟨r,he,hP,hw⟩=>⟨by rw[he,hk_ hP hp hta],hw⟩);have HB:Calls prog 70 #[.string s] W (fun e w'=>e= .returned (.int .i64 (-1))/\Below W.heap.size W w'):=(gm_ s W hs).mono (fun e w' ⟨r,he,hP,hw⟩=>⟨by rw[he,pm_ hP hp hta hbk],hw⟩);have hPT:=ks_ hp hta hbk;have HS:Hid (∀w1,Calls prog 71 #[.string s] w1 fun e w'=>e= .returned (.int .i64 (p.size:Int))/\Below w1.heap.size w1 w'):=fun w1=>ot_ 6 o_ s p w1 hs hPT
 obtain⟨z,Hz⟩:=hx__ (p.size);rw[Hz.out]at HS hsz;have hz2:(10:Int)<(z:Int):=o_;clear hp hta hbk Hz hPT;go_enter func31,ntmps31;go_upto_region 1 with fail;rw[<-hW];clear hW;go_wp2_with fail;refine HP.mono ?_;clear HP;rintro e w1 ⟨rfl,rfl⟩;go_wp2_with fail;refine HB.mono ?_;clear HB;rintro e w1 ⟨rfl,hB1⟩;have HC:=HS.out w1;have hs1:=hB1.size;go_wp2_with fail;refine HC.mono ?_;clear HC HS;rintro e w2 ⟨rfl,hB2⟩;have B2:Below w.heap.size w w2:=(BW.trans (hB1.mono o_)).trans (hB2.mono o_);have a0:=(hB2.block _ o_).trans ((hB1.block _ o_).trans b0);have hs3:=hB2.size;clear hB1 hB2 b0;obtain⟨q0,q1,p0,p1⟩:=aa_ a0;go_wp2_with fail;obtain⟨_,r2,r1⟩:=a7_ (u:= .slice none 0 0) (v:= .slice none 0 0) a0;refine bodyPost_ret (v:= .tuple #[.agg #[.slice none 0 0,.slice none 0 0],.int .i64 4,.int .i64 0]) (by simp[results,results31,go_sem,r1,r2]) rfl ?_;exact⟨rfl,az_ B2 (b:=w.heap.size) o_ (.slice none 0 0) (.slice none 0 0)⟩
theorem th_ (s:ByteArray)(b:Int)(w:World)(hs:s.size<=40){p:Pat}{t:Sp}(hp:co_ s= .ok p t)(hta:t.a=s.size)(hbk:t.bk=false)(hsz:p.size<=10)(hb:b<1\/40<b):Calls prog 31 #[.string s,.int .i64 b] w (ew_ 8 0 w):=by
 obtain⟨W,hW,BW,-,-⟩:=nw__ w #[.slice none 0 0,.slice none 0 0] 41;have hWs:W.heap.size=w.heap.size+1:=by rw[hW];simp
 have b0:=hn__ hW;have hs2:¬(40:Int)<(s.size:Int):=o_;have HP:Calls prog 69 #[.string s] W (fun e w'=>e= .returned (.int .i64 (-1))/\W=w'):=(g3_ s W hs).mono (fun e w' ⟨r,he,hP,hw⟩=>⟨by rw[he,hk_ hP hp hta],hw⟩);have HB:Calls prog 70 #[.string s] W (fun e w'=>e= .returned (.int .i64 (-1))/\Below W.heap.size W w'):=(gm_ s W hs).mono (fun e w' ⟨r,he,hP,hw⟩=>⟨by rw[he,pm_ hP hp hta hbk],hw⟩);have hPT:=ks_ hp hta hbk;have HS:Hid (∀w1,Calls prog 71 #[.string s] w1 fun e w'=>e= .returned (.int .i64 (p.size:Int))/\Below w1.heap.size w1 w'):=fun w1=>ot_ 6 o_ s p w1 hs hPT
 obtain⟨z,Hz⟩:=hx__ (p.size);rw[Hz.out]at HS hsz;have hz2:¬(10:Int)<(z:Int):=o_;have HI:Hid (∀w1,Calls prog 62 #[.int .i64 b] w1 fun e w'=>e= .returned (.bool false)/\w'=w1):=fun w1=>(hg_ b w1).mono (fun e w' ⟨he,hw⟩=>⟨by rw[he,show(decide (1<=b)&&decide (b<=40))=false by simp;omega],hw⟩)
 clear hp hta hbk Hz hPT;go_enter func31,ntmps31;go_upto_region 1 with fail;rw[<-hW];clear hW;go_wp2_with fail;refine HP.mono ?_;clear HP;rintro e w1 ⟨rfl,rfl⟩;go_wp2_with fail;refine HB.mono ?_;clear HB;rintro e w1 ⟨rfl,hB1⟩;have HC:=HS.out w1;have hs1:=hB1.size;go_wp2_with fail;refine HC.mono ?_;clear HC HS;rintro e w2 ⟨rfl,hB2⟩;have B2:Below w.heap.size w w2:=(BW.trans (hB1.mono o_)).trans (hB2.mono o_);have a0:=(hB2.block _ o_).trans ((hB1.block _ o_).trans b0);have hs3:=hB2.size;clear hB1 hB2 b0;obtain⟨q0,q1,p0,p1⟩:=aa_ a0;have HC:=HI.out w2;go_wp2_with fail;refine HC.mono ?_;clear HC HI;rintro e w3 ⟨rfl,hw3⟩;obtain rfl:w2=w3:=hw3.symm;go_wp2_with fail;obtain⟨_,r2,r1⟩:=a7_ (u:= .slice none 0 0) (v:= .slice none 0 0) a0;refine bodyPost_ret (v:= .tuple #[.agg #[.slice none 0 0,.slice none 0 0],.int .i64 8,.int .i64 0]) (by simp[results,results31,go_sem,r1,r2]) rfl ?_;exact⟨rfl,az_ B2 (b:=w.heap.size) o_ (.slice none 0 0) (.slice none 0 0)⟩
theorem us_ (s:ByteArray)(b:Int)(w:World)(hss:s.size<=maxLen){er:Int}{pl:Nat}(h:gg_ s b=some (er,pl)):Calls prog 31 #[.string s,.int .i64 b] w (ew_ er pl w):=by
 rcases li_ h with ⟨h1,rfl,rfl⟩|⟨h1,h2,rfl⟩|⟨h1,p,t,hp,hta,⟨hb,rfl,rfl⟩|⟨hb,hz,rfl,rfl⟩|⟨hb,hz,hbu,rfl,rfl⟩⟩
 . exact q9_ s b w hss h1
 . exact tg_ s b w h1 h2
 . exact ra_ s b w h1 hp hta hb
 . exact rb_ s b w h1 hp hta hb hz
 . exact th_ s b w h1 hp hta hb hz hbu
end Go.Proofs.YtpngikmcjkjdaaaGreatDoor
