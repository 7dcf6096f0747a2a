import Derived.Test.YtpngikmcjkjdaaaGreatDoorC31
import Derived.Test.YtpngikmcjkjdaaaGreatDoorC32
set_option linter.unusedVariables false
set_option linter.unusedSimpArgs false
set_option maxRecDepth 20000
set_option maxHeartbeats 80000000
namespace Go.Proofs.YtpngikmcjkjdaaaGreatDoor
open Go.RowKit Tryz List Nat
variable {xs:List Value} {N b base bw cap e g i k m n n' p s:Nat} {t':Nat->ByteArray} {lab:Nat->Nat} {S:Nat->Prop} {o:Obj} {t:TypeId} {ry' u v cC vts cH x y z:Value} {Wo w w' w1 w2:World}
theorem kg_ {x:List Value}(ho:w.ownsRow base e s v n x)(hk:∀g,v.ownBlock=some g->w'.heap[g]? =w.heap[g]?):w'.ownsRow base e s v n x:=by
 refine⟨ho.1, ?_⟩;rcases ho.2 with ⟨rfl,f⟩|⟨g,a,b,rfl,c,d,r⟩
 . exact .inl ⟨rfl,f⟩
 . exact .inr ⟨g,a,b,rfl,c,by rw[hk g rfl];exact d,r⟩
def ρ.Has (V:ρ)(n k:Nat):Prop:=k=V.ba\/k=V.bn\/∃i,i<n/\k=V.rb i
theorem tb_ {o:Nat}(h:w.cell? ⟨b,o,none⟩=some v)(hk:w'.heap[b]? =w.heap[b]?):w'.cell? ⟨b,o,none⟩=some v:=by
 simp only[World.cell?]at h ⊢;rw[hk];exact h
theorem π.eH {V:ρ}{M:γ}(h:π w V M)(hk:∀k,V.Has M.n k->w'.heap[k]? =w.heap[k]?):π w' V M:=
 ⟨fun i hi=>tb_ (h.acc i hi) (hk _ (.inl rfl)),fun i hi=>tb_ (h.row i hi) (hk _ (.inr (.inl rfl))),fun i c hi hc=>tb_ (h.cT i c hi hc) (hk _ (.inr (.inr ⟨i,hi,rfl⟩)))⟩
theorem π.dZ {V:ρ}{M:γ}(h:π w V M)(hM:M.Ok)(hk:V.Has M.n k):k<w.heap.size:=by
 have:=hM.lo;rcases hk with rfl|rfl|⟨i,a,rfl⟩
 . exact Χ (h.acc 0 o_)
 . exact Χ (h.row 0 o_)
 . exact Χ (h.cT i 0 a o_)
structure kh_ (w:World)(x y:Cu)(V V':ρ)(M:γ):Prop where
 op:x.op=y.op
 bg:x.bg=y.bg
 la:x.la=y.la
 tab:x.op=true->M.Ok/\π w V M/\π w V' M/\(x.vA= .slice (some ⟨V.ba,V.oa,none⟩) M.n V.ca/\x.vN= .slice (some ⟨V.bn,V.on,none⟩) M.n V.cn)/\(y.vA= .slice (some ⟨V'.ba,V'.oa,none⟩) M.n V'.ca/\y.vN= .slice (some ⟨V'.bn,V'.on,none⟩) M.n V'.cn)
theorem kh_.shut (w:World)(V V':ρ)(M:γ):kh_ w shut shut V V' M:=⟨rfl,rfl,rfl,fun h=>by cases h⟩
structure Bk where
 bp:Nat
 bx:Nat
 br:Nat
 t:Nat->ByteArray
 n:Nat
 ry:Value
 c:Nat->Cu
 c':Nat->Cu
 V:Nat->ρ
 V':Nat->ρ
 M:Nat->γ
def Bk.cx (d:Bk):Nat->Value:=Ι d.c
def Bk.cy (d:Bk):Nat->Value:=Ι d.c'
def Bk.more (d:Bk)(k:Nat):Prop:=∃i,i<4/\(d.c i).op=true/\((d.V i).Has (d.M i).n k\/(d.V' i).Has (d.M i).n k)
def Bk.cur (d:Bk)(w:World):Prop:=∀i,i<4->kh_ w (d.c i) (d.c' i) (d.V i) (d.V' i) (d.M i)
theorem Bk.fm (d:Bk)(w1 w2:World)(h:d.cur w1)(hk:∀k,d.more k->w2.heap[k]? =w1.heap[k]?):d.cur w2:=fun i hi=>by
 obtain⟨h1,h2,h3,h4⟩:=h i hi;refine⟨h1,h2,h3,fun ho=> ?_⟩;obtain⟨k1,k2,k3,k4,k5⟩:=h4 ho;exact⟨k1,k2.eH (fun k hh=>hk k ⟨i,hi,ho,.inl hh⟩),k3.eH (fun k hh=>hk k ⟨i,hi,ho,.inr hh⟩),k4,k5⟩
def Bk.db (d:Bk)(k:Nat):Prop:=k=d.bp\/k=d.bx\/k=d.br\/d.ry.ownBlock=some k\/d.more k
structure ct_ (w:World)(d:Bk):Prop where
 pr:w.heap[d.bp]? =some (.cells #[.pointer (some ⟨d.bx,0,none⟩),.pointer (some ⟨d.br,0,none⟩)] 51 (0,0))
 px:Θ w d.bx d.t d.n d.cx
 py:ad_ w d.br d.ry d.t d.n d.cy
 dx:d2_ d.t d.n
 le:d.n<=60
 ee:∀i,i<d.n->ci_ (d.t i)=true
 cu:d.cur w
 mo:∀k,d.more k->k<w.heap.size/\k≠d.bp/\k≠d.bx/\k≠d.br
theorem z9_ {t:Nat}{f:Nat->Value}(h:w.rowIs b t n f):∃c,w.heap[b]? =some (.cells c t (0,0)):=by
 obtain⟨c,a,_⟩:=h;exact⟨c,a⟩
theorem tc_ {x:List Value}(h:w.ownsRow base e s v n x)(hg:v.ownBlock=some g):∃c,w.heap[g]? =some (.cells c e (0,0)):=by
 rcases h.2 with ⟨rfl,_⟩|⟨f,b,d,rfl,_,a,_⟩
 . simp[Value.ownBlock]at hg
 . simp only[Value.ownBlock,Δ]at hg;subst hg;exact⟨_,a⟩
theorem mg_ {a t u:Nat}{c d:Array Value}(h1:w.heap[a]? =some (.cells c t (0,0)))(h2:w.heap[b]? =some (.cells d u (0,0)))(hne:t≠u):a≠b:=by
 rintro rfl;rw[h1]at h2;injection h2 with h2;injection h2 with _ h2;exact hne h2
theorem ct_.lt {d:Bk}(h:ct_ w d)(k:Nat)(hk:d.db k):k<w.heap.size:=by
 rcases hk with rfl|rfl|rfl|hk|hk
 . exact κ h.pr
 . exact World.rowIs.lt h.px
 . exact World.rowIs.lt h.py.1
 . exact(h.py.2.lt k hk).2
 . exact(h.mo k hk).1
theorem ct_.apart {d:Bk}(h:ct_ w d):d.bp≠d.bx/\d.bp≠d.br/\d.bx≠d.br/\d.ry.ownBlock≠some d.bp/\d.ry.ownBlock≠some d.bx/\d.ry.ownBlock≠some d.br:=by
 obtain⟨g,b⟩:=z9_ h.px;obtain⟨i,f⟩:=z9_ h.py.1;refine⟨mg_ h.pr b d_,mg_ h.pr f d_,mg_ b f d_,fun e=> ?_,fun e=> ?_,fun e=> ?_⟩
 . obtain⟨c,a⟩:=tc_ h.py.2 e;exact mg_ a h.pr d_ rfl
 . obtain⟨c,a⟩:=tc_ h.py.2 e;exact mg_ a b d_ rfl
 . obtain⟨c,a⟩:=tc_ h.py.2 e;exact mg_ a f d_ rfl
theorem ct_.cZ {d:Bk}(h:ct_ w d)(hk:∀k,d.db k->w'.heap[k]? =w.heap[k]?):ct_ w' d where
 pr:=by rw[hk _ (.inl rfl)];exact h.pr
 px:=World.rowIs.of_block h.px (hk _ (.inr (.inl rfl)))
 py:=⟨World.rowIs.of_block h.py.1 (hk _ (.inr (.inr (.inl rfl)))),kg_ h.py.2 (fun g e=>hk _ (.inr (.inr (.inr (.inl e)))))⟩
 dx:=h.dx
 le:=h.le
 ee:=h.ee
 cu:=d.fm w w' h.cu (fun k hm=>hk _ (.inr (.inr (.inr (.inr hm)))))
 mo:=fun k hm=>⟨κ ((hk k (.inr (.inr (.inr (.inr hm))))).trans (Array.getElem?_eq_getElem (h.mo k hm).1)),(h.mo k hm).2⟩
theorem ct_.below {d:Bk}(h:ct_ w d)(hb:Bl w w'):ct_ w' d:=h.cZ (fun k hk=>hb.block k (h.lt k hk))
theorem ct_.df {d:Bk}(h:ct_ w d)(ht:ε (fun k=>k=d.bx) w w1):w1.heap[d.bp]? =some (.cells #[.pointer (some ⟨d.bx,0,none⟩),.pointer (some ⟨d.br,0,none⟩)] 51 (0,0))/\ad_ w1 d.br d.ry d.t d.n d.cy:=by
 obtain⟨a,f,b,i,c,j⟩:=h.apart;exact⟨ht.heap h.pr a,World.rowIs.of_block h.py.1 (ht.block _ (World.rowIs.lt h.py.1) (fun e=>b e.symm)),kg_ h.py.2 (fun g e=>ht.block g (h.py.2.lt g e).2 (fun e'=>c (by rw[e,e'])))⟩
theorem ct_.step {d:Bk}(h:ct_ w d)(ht1:ε (fun k=>k=d.bx) w w1)(hx:Θ w1 d.bx t' n' d.cx)(ht2:ε (fun k=>k=d.br) w1 w2)(hy:ad_ w2 d.br ry' t' n' d.cy)
 (hs:d2_ t' n') (hl:n'<=60) (htu:∀i,i<n'->ci_ (t' i)=true):ct_ w2 {d with t:=t',n:=n',ry:=ry'} where
 pr:=ht2.heap (h.df ht1).1 h.apart.2.1
 px:=World.rowIs.of_block hx (ht2.block _ (World.rowIs.lt hx) h.apart.2.2.1)
 py:=hy
 dx:=hs
 le:=hl
 ee:=htu
 cu:=d.fm w w2 h.cu (fun k hm=>(ht2.block k (Nat.lt_of_lt_of_le (h.mo k hm).1 ht1.size) (h.mo k hm).2.2.2).trans (ht1.block k (h.mo k hm).1 (h.mo k hm).2.2.1))
 mo:=fun k hm=>⟨Nat.lt_of_lt_of_le (h.mo k hm).1 (Nat.le_trans ht1.size ht2.size),(h.mo k hm).2⟩
def lg_ (w:World)(v:Value)(k:Nat):Prop:=v= .slice none 0 0\/∃g m,v= .slice (some ⟨g,0,none⟩) m m/\m<=maxLen/\w.rowIs g 9 m (fun _=> .string (hb_ k))
theorem lg_.cZ (h:lg_ w v k)(hk:∀g,v.ownBlock=some g->w'.heap[g]? =w.heap[g]?):lg_ w' v k:=by
 rcases h with h|⟨g,m,rfl,a,h⟩
 . exact .inl h
 . exact .inr ⟨g,m,rfl,a,World.rowIs.of_block h (hk g rfl)⟩
theorem lg_.lt (h:lg_ w v k)(hg:v.ownBlock=some g):g<w.heap.size:=by
 rcases h with rfl|⟨a,m,rfl,b,h⟩
 . simp[Value.ownBlock]at hg
 . simp only[Value.ownBlock,Δ]at hg;subst hg;exact World.rowIs.lt h
def dv_ (ps:List Bk):List Value:=ps.map fun d=> .pointer (some ⟨d.bp,0,none⟩)
theorem mh_ (ps:List Bk)(i:Nat)(h:i<ps.length):(dv_ ps)[i]? =some (.pointer (some ⟨ps[i].bp,0,none⟩)):=by simp[dv_,h]
theorem amf_ (ps:List Bk)(d:Bk):dv_ ps++ [.pointer (some ⟨d.bp,0,none⟩)]=dv_ (ps++ [d]):=by simp[dv_]
def g9_ (Wo w:World)(cC cH:Value)(lab:Nat->Nat):Fw:=⟨Wo,cC,cH,fun k=>if lab k=0 then none else w.heap[k]?⟩
structure an_ (Wo w:World)(bw:Nat)(vts cC cH:Value)(hs:List Hd)(ps:List Bk)(xs:List Value)(lab:Nat->Nat):Prop where
 wd:bj_ (g9_ Wo w cC cH lab) w bw vts hs
 dD:w.ownsRow (bw+1) 45 1 cC ps.length (dv_ ps)
 dE:w.ownsRow (bw+1) 56 1 cH xs.length xs
 dy:∀i (h:i<ps.length),ct_ w ps[i]/\∀k,ps[i].db k->lab k=3+2*i
 eQ:∀i (h:i<xs.length),lg_ w xs[i] i/\∀g,xs[i].ownBlock=some g->lab g=4+2*i
 lB:∀g,cC.ownBlock=some g->lab g=1
 lX:∀g,cH.ownBlock=some g->lab g=2
 lt:∀k,lab k≠0->k<w.heap.size
theorem an_.tables {vts':Value}{hs hs':List Hd}{ps:List Bk}(h:an_ Wo w bw vts cC cH hs ps xs lab)(h':bj_ (g9_ Wo w cC cH lab) w' bw vts' hs'):
 an_ Wo w' bw vts' cC cH hs' ps xs lab:=by
 have a:∀k,lab k≠0->w'.heap[k]? =w.heap[k]? :=by
  intro k b;have f:=h.lt k b;obtain⟨o,c⟩:∃o,w.heap[k]? =some o:=⟨_,Array.getElem?_eq_getElem f⟩;have:=(h'.eK k o (by simp[g9_,b,c])).1;rw[this,c]
 have d:g9_ Wo w' cC cH lab=g9_ Wo w cC cH lab:=by
  unfold g9_;congr 1
  funext k;by_cases e:lab k=0
  . simp[e]
  . simp[e,a k e]
 refine⟨by rw[d];exact h',kg_ h.dD (fun g e=>a g (by rw[h.lB g e];omega)),kg_ h.dE (fun g e=>a g (by rw[h.lX g e];omega)),fun i hi=> ?_,fun i hi=> ?_,h.lB,h.lX,fun k b=>κ ((a k b).trans (Array.getElem?_eq_getElem (h.lt k b)))⟩
 . exact⟨(h.dy i hi).1.cZ (fun k hf=>a k (by rw[(h.dy i hi).2 k hf];omega)),(h.dy i hi).2⟩
 . exact⟨(h.eQ i hi).1.cZ (fun g e=>a g (by rw[(h.eQ i hi).2 g e];omega)),(h.eQ i hi).2⟩
theorem an_.below {hs:List Hd}{ps:List Bk}(h:an_ Wo w bw vts cC cH hs ps xs lab)(hb:Bl w w'):an_ Wo w' bw vts cC cH hs ps xs lab:=
 h.tables (h.wd.below hb)
theorem bj_.ek {F F':Fw}{hs:List Hd}(h:bj_ F w bw vts hs)(hT:ε S w w')(hS:∀k,S k->k=bw\/(bw<k/\vts.ownBlock≠some k/\∀d∈hs,k<d.lo\/d.hi<=k))(hwo:F'.wo=F.wo)
 (hblk:w'.heap[bw]? =some (.cells #[vts,F'.cC,F'.cH] 31 (0,0))) (hfr:∀k o,F'.fr k=some o->w'.heap[k]? =some o/\(F.fr k≠none\/w.heap.size<=k)):bj_ F' w' bw vts hs:=by
 have j:=κ h.cg;refine⟨by rw[hwo];exact hT.below h.cz o_ (fun k hk=>by rcases hS k hk with e|⟨e,_⟩<;>omega),hblk,hT.own h.own (fun g e hg=> ?_),fun d hd=> ?_,h.lo,h.ord,h.eP,fun k o hk=> ?_⟩
 . rcases hS g hg with a|⟨_,a,_⟩
   . have:=(h.own.lt g e).1;omega
   . exact a e
 . refine(h.dJ d hd).cZ (fun k hk1 hk2=>hT.block k (Nat.lt_of_lt_of_le hk2 (h.dJ d hd).cQ) (fun hk=> ?_)) hT.size;have:=h.lo d hd;rcases hS k hk with a|⟨_,_,a⟩
   . omega
   . have:=a d hd;omega
 . obtain⟨c,b⟩:=hfr k o hk;refine⟨c, ?_⟩;rcases b with b|b
   . obtain⟨i,f⟩:=Option.ne_none_iff_exists'.1 b;exact(h.eK k i f).2
   . refine⟨o_,fun e=> ?_,fun d hd=> ?_⟩
     . have:=(h.own.lt k e).2;omega
     . right;have:=(h.dJ d hd).cQ;omega
theorem amg_ (h:w.heap[b]? =some (.cells #[x,y,z] t (0,0))):(w.setCell ⟨b,1,none⟩ u).heap[b]? =some (.cells #[x,u,z] t (0,0)):=by
 simp[World.setCell,Array.getElem?_modify,h]
theorem amh_ (h:w.heap[b]? =some (.cells #[x,y,z] t (0,0))):(w.setCell ⟨b,2,none⟩ u).heap[b]? =some (.cells #[x,y,u] t (0,0)):=by
 simp[World.setCell,Array.getElem?_modify,h]
section
variable {Wo w w1 w2 w':World} {bw:Nat} {vts cC cH:Value} {hs:List Hd} {ps:List Bk} {xs:List Value} {lab:Nat->Nat}
theorem an_.out (h:an_ Wo w bw vts cC cH hs ps xs lab)(k:Nat)(hl:lab k≠0):bw<k/\vts.ownBlock≠some k/\∀d∈hs,k<d.lo\/d.hi<=k:=by
 obtain⟨o,a⟩:∃o,w.heap[k]? =some o:=⟨_,Array.getElem?_eq_getElem (h.lt k hl)⟩;exact(h.wd.eK k o (by simp[g9_,hl,a])).2
theorem an_.fr (h:an_ Wo w bw vts cC cH hs ps xs lab)(k:Nat)(hl:lab k≠0):(g9_ Wo w cC cH lab).fr k≠none:=by
 simp only[g9_,if_neg hl,ne_eq,Array.getElem?_eq_none_iff];have:=h.lt k hl;omega
theorem an_.relabel (h:an_ Wo w bw vts cC cH hs ps xs lab)(hT:ε S w w')(hS:∀k,S k->k=bw\/lab k≠0){vbs' vtx':Value}{lab':Nat->Nat}(hblk:w'.heap[bw]? =some (.cells #[vts,vbs',vtx'] 31 (0,0)))(hl:∀k,lab' k≠0->lab k≠0\/w.heap.size<=k):
 bj_ (g9_ Wo w' vbs' vtx' lab') w' bw vts hs:=by
 refine h.wd.ek hT (fun k hk=> ?_) rfl hblk (fun k o hk=> ?_)
 . rcases hS k hk with e|e
   . exact .inl e
   . exact .inr (h.out k e)
 . by_cases e:lab' k=0
   . simp[g9_,e]at hk
   . simp only[g9_,if_neg e]at hk;exact⟨hk,(hl k e).imp (h.fr k) id⟩
open Classical in
theorem an_.eJ (h:an_ Wo w bw vts cC cH hs ps xs lab)(hi:i<ps.length){d':Bk}(hT:ε (fun k=>lab k=3+2*i) w w')(hd:ct_ w' d')(hbp:d'.bp=ps[i].bp)(hf:∀k,d'.db k->lab k=3+2*i\/w.heap.size<=k):
 ∃lab',an_ Wo w' bw vts cC cH hs (ps.set i d') xs lab'/\∀k,lab' k≠0->lab k≠0\/w.heap.size<=k:=by
 refine⟨fun k=>if w.heap.size<=k/\d'.db k then 3+2*i else lab k, ?_,fun k a=> ?_⟩;rotate_left
 . by_cases e:w.heap.size<=k/\d'.db k
   . exact .inr e.1
   . simp only[if_neg e]at a;exact .inl a
 have d:∀k,lab k≠0->(if w.heap.size<=k/\d'.db k then 3+2*i else lab k)=lab k:=by
  intro k a;have:=h.lt k a;rw[if_neg o_]
 have f:∀k,lab k≠0->lab k≠3+2*i->w'.heap[k]? =w.heap[k]? :=fun k a hne=>hT.block k (h.lt k a) hne
 have n:lab bw=0:=by
  by_cases e:lab bw=0
  . exact e
  . have:=(h.out bw e).1;omega
 have m:=hT.heap h.wd.cg (by rw[n];omega);have p:dv_ (ps.set i d')=dv_ ps:=by
  apply ext_getElem?;intro j;by_cases c:j<ps.length
  . rw[mh_ ps j c,mh_ _ j (by simpa using c)];by_cases e:i=j
    . subst e;simp[hbp]
    . rw[getElem_set_ne e]
  . rw[getElem?_eq_none (by simp[dv_];omega),getElem?_eq_none (by simp[dv_];omega)]
 refine⟨h.relabel hT (fun k hk=> .inr (by rw[hk];omega)) m (fun k a=> ?_), ?_,kg_ h.dE (fun g e=>f g (by rw[h.lX g e];omega) (by rw[h.lX g e];omega)),fun j c=> ?_,fun j c=> ?_,fun g e=> ?_,fun g e=> ?_,fun k a=> ?_⟩
 . by_cases e:w.heap.size<=k/\d'.db k
   . exact .inr e.1
   . rw[if_neg e]at a;exact .inl a
 . rw[p,length_set];exact kg_ h.dD (fun g e=>f g (by rw[h.lB g e];omega) (by rw[h.lB g e];omega))
 . have o:j<ps.length:=by simpa using c
   by_cases e:i=j
   . subst e;rw[getElem_set_self];refine⟨hd,fun k hk=> ?_⟩;rcases hf k hk with e|e
     . rw[d k (by rw[e];omega),e]
     . rw[if_pos ⟨e,hk⟩]
   . rw[getElem_set_ne e];obtain⟨l,b⟩:=h.dy j o;refine⟨l.cZ (fun k hk=>f k (by rw[b k hk];omega) (by rw[b k hk];omega)),fun k hk=> ?_⟩;rw[d k (by rw[b k hk];omega),b k hk]
 . obtain⟨l,b⟩:=h.eQ j c;refine⟨l.cZ (fun g e=>f g (by rw[b g e];omega) (by rw[b g e];omega)),fun g e=> ?_⟩;rw[d g (by rw[b g e];omega),b g e]
 . rw[d g (by rw[h.lB g e];omega),h.lB g e]
 . rw[d g (by rw[h.lX g e];omega),h.lX g e]
 . by_cases e:w.heap.size<=k/\d'.db k
   . exact hd.lt k e.2
   . rw[if_neg e]at a;exact Nat.lt_of_lt_of_le (h.lt k a) hT.size
theorem an_.book (h:an_ Wo w bw vts cC cH hs ps xs lab)(hi:i<ps.length){d':Bk}(hT:ε (fun k=>lab k=3+2*i) w w')(hd:ct_ w' d')(hbp:d'.bp=ps[i].bp)(hf:∀k,d'.db k->lab k=3+2*i\/w.heap.size<=k):
 ∃lab',an_ Wo w' bw vts cC cH hs (ps.set i d') xs lab':=by
 obtain⟨lab',a,_⟩:=h.eJ hi hT hd hbp hf;exact⟨lab',a⟩
theorem ik_ {S':Nat->Prop}{w w1:World}(h:ε S w w1)(hs:∀k,S k->S' k):ε S' w w1:=⟨h.os,h.tape,h.output,h.size,fun k hk hn=>h.block k hk (fun e=>hn (hs k e))⟩
theorem i4_ {w w1:World}(hB:Bl w w1):ε S w w1:=⟨hB.os,hB.tape,hB.output,hB.size,fun k hk _=>hB.block k hk⟩
open Classical in
theorem an_.newText (h:an_ Wo w bw vts cC cH hs ps xs lab)(hB:Bl w w1)(hx:lg_ w1 x xs.length)(hxn:∀g,x.ownBlock=some g->w.heap.size<=g)
 (hown:w2.ownsRow (bw+1) 56 1 (.slice (some ⟨g,0,none⟩) (xs.length+1) cap) (xs.length+1) (xs++ [x]))  (hg:(w1.alloc o).grownBy w2 cH.ownBlock) (hf:cH.ownBlock=some g\/g=(w1.alloc o).heap.size):
 w2.heap[bw]? =some (.cells #[vts,cC,cH] 31 (0,0))/\ε (fun k=>k=bw\/lab k≠0) w (w2.setCell ⟨bw,2,none⟩ (.slice (some ⟨g,0,none⟩) (xs.length+1) cap))/\∃lab',an_ Wo (w2.setCell ⟨bw,2,none⟩ (.slice (some ⟨g,0,none⟩) (xs.length+1) cap)) bw vts cC (.slice (some ⟨g,0,none⟩) (xs.length+1) cap) hs ps (xs++ [x]) lab':=by
 have v:=κ h.wd.cg;have C:=hB.size;have D:=hown.lt;have y:lab bw=0:=by
  by_cases e:lab bw=0
  . exact e
  . have:=(h.out bw e).1;omega
 have u:ε (fun k=>k=bw\/lab k=2) w w2:=((i4_ hB).alloc o).grown hg (fun k e=> .inl (.inr (h.lX k e)));have q:w2.heap[bw]? =some (.cells #[vts,cC,cH] 31 (0,0)):=by
  rw[hg.block bw s_ (fun e=>by have:=(h.dE.lt bw e.symm).1;omega),Below.heap_alloc w1 o bw o_,hB.block bw v];exact h.wd.cg
 have i:ε (fun k=>k=bw\/lab k=2) w (w2.setCell ⟨bw,2,none⟩ (.slice (some ⟨g,0,none⟩) (xs.length+1) cap)):=u.set _ _ (.inl (.inl rfl));refine⟨q,ik_ i (fun k hk=>hk.imp id (fun e=>by rw[e];omega)),fun k=>if k=g then 2 else if x.ownBlock=some k then 4+2*xs.length else lab k, ?_⟩;have r:lab g=2\/(lab g=0/\w.heap.size<=g):=by
  rcases hf with e|e
  . exact .inl (h.lX g e)
  . right;have z:w.heap.size<=g:=by rw[e];simp;omega
    refine⟨?_,z⟩;by_cases a:lab g=0
    . exact a
    . have:=h.lt g a;omega
 have B:∀k,x.ownBlock=some k->lab k=0:=by
  intro k e;by_cases a:lab k=0
  . exact a
  . have:=h.lt k a;have:=hxn k e;omega
 have A:x.ownBlock≠some g:=by
  intro e;have f:=hx.lt e;have m:=hxn g e;rcases hf with a|a
  . have:=h.lt g (by rw[h.lX g a];omega);omega
  . rw[a]at f;simp at f;omega
 have p:∀k,lab k≠0->lab k≠2->(if k=g then 2 else if x.ownBlock=some k then 4+2*xs.length else lab k)=lab k:=by
  intro k b s;rw[if_neg (fun e=>by subst e;rcases r with e|e<;>omega),if_neg (fun e=>b (B k e))]
 have n:∀k,lab k≠0->lab k≠2->(w2.setCell ⟨bw,2,none⟩ (.slice (some ⟨g,0,none⟩) (xs.length+1) cap)).heap[k]? =w.heap[k]? :=fun k b s=>i.block k (h.lt k b) (by
  rintro(e|e)
  . subst e;exact b y
  . exact s e)
 refine⟨h.relabel i (fun k hk=>hk.imp id (fun e=>by rw[e];omega)) (amh_ q) (fun k b=> ?_),kg_ h.dD (fun k e=>n k (by rw[h.lB k e];omega) (by rw[h.lB k e];omega)), ?_,fun j hj=> ?_,fun j hj=> ?_,fun k e=> ?_,fun k e=> ?_,fun k b=> ?_⟩
 . by_cases e:k=g
   . subst e;rcases r with e|e
     . exact .inl o_
     . exact .inr e.2
   . rw[if_neg e]at b;by_cases d:x.ownBlock=some k
     . exact .inr (hxn k d)
     . rw[if_neg d]at b;exact .inl b
 . simp only[Μ,ls_];exact ownsRow_setCell_below hown i_ _
 . obtain⟨l,c⟩:=h.dy j hj;refine⟨l.cZ (fun k hk=>n k (by rw[c k hk];omega) (by rw[c k hk];omega)),fun k hk=> ?_⟩;rw[p k (by rw[c k hk];omega) (by rw[c k hk];omega),c k hk]
 . simp only[Μ,ls_]at hj;by_cases e:j<xs.length
   . rw[getElem_append_left e];obtain⟨l,c⟩:=h.eQ j e;refine⟨l.cZ (fun k hk=>n k (by rw[c k hk];omega) (by rw[c k hk];omega)),fun k hk=> ?_⟩;rw[p k (by rw[c k hk];omega) (by rw[c k hk];omega),c k hk]
   . have t:j=xs.length:=o_;subst t;rw[getElem_append_right ι];simp only[Nat.sub_self,getElem_singleton];refine⟨hx.cZ (fun k hk=> ?_),fun k hk=> ?_⟩
     . have f:=hx.lt hk;have m:=hxn k hk;rw[Below.heap_setCell _ _ _ k s_,hg.block k s_ (fun a=>by have:=h.lt k (by rw[h.lX k a.symm];omega);omega),Below.heap_alloc w1 o k f]
     . rw[if_neg (fun a=>A (by rw[<-a];exact hk)),if_pos hk]
 . rw[p k (by rw[h.lB k e];omega) (by rw[h.lB k e];omega),h.lB k e]
 . simp only[Value.ownBlock,Δ]at e;rw[if_pos e.symm]
 . by_cases e:k=g
   . subst e;have:=(hown.lt k rfl).2;simpa using this
   . rw[if_neg e]at b;by_cases d:x.ownBlock=some k
     . have f:=hx.lt d;have m:=hg.size;simp at m ⊢;omega
     . rw[if_neg d]at b;exact Nat.lt_of_lt_of_le (h.lt k b) i.size
open Classical in
theorem an_.ez (h:an_ Wo w bw vts cC cH hs ps xs lab)(hB:Bl w w1){d:Bk}(hd:ct_ w1 d)(hxn:∀k,d.db k->w.heap.size<=k)
 (hown:w2.ownsRow (bw+1) 45 1 (.slice (some ⟨g,0,none⟩) (ps.length+1) cap) (ps.length+1) (dv_ ps++ [.pointer (some ⟨d.bp,0,none⟩)]))  (hg:(w1.alloc o).grownBy w2 cC.ownBlock) (hf:cC.ownBlock=some g\/g=(w1.alloc o).heap.size):
 w2.heap[bw]? =some (.cells #[vts,cC,cH] 31 (0,0))/\∃lab',an_ Wo (w2.setCell ⟨bw,1,none⟩ (.slice (some ⟨g,0,none⟩) (ps.length+1) cap)) bw vts (.slice (some ⟨g,0,none⟩) (ps.length+1) cap) cH hs (ps++ [d]) xs lab':=by
 have x:=κ h.wd.cg;have C:=hB.size;have y:lab bw=0:=by
  by_cases e:lab bw=0
  . exact e
  . have:=(h.out bw e).1;omega
 have v:ε (fun k=>k=bw\/lab k=1) w w2:=((i4_ hB).alloc o).grown hg (fun k e=> .inl (.inr (h.lB k e)));have r:w2.heap[bw]? =some (.cells #[vts,cC,cH] 31 (0,0)):=by
  rw[hg.block bw s_ (fun e=>by have:=(h.dD.lt bw e.symm).1;omega),Below.heap_alloc w1 o bw o_,hB.block bw x];exact h.wd.cg
 have n:ε (fun k=>k=bw\/lab k=1) w (w2.setCell ⟨bw,1,none⟩ (.slice (some ⟨g,0,none⟩) (ps.length+1) cap)):=v.set _ _ (.inl (.inl rfl));refine⟨r,fun k=>if k=g then 1 else if d.db k then 3+2*ps.length else lab k, ?_⟩;have s:lab g=1\/(lab g=0/\w.heap.size<=g):=by
  rcases hf with e|e
  . exact .inl (h.lB g e)
  . right;have z:w.heap.size<=g:=by rw[e];simp;omega
    refine⟨?_,z⟩;by_cases a:lab g=0
    . exact a
    . have:=h.lt g a;omega
 have B:∀k,d.db k->lab k=0:=by
  intro k e;by_cases a:lab k=0
  . exact a
  . have:=h.lt k a;have:=hxn k e;omega
 have A:¬d.db g:=by
  intro e;have i:=hd.lt g e;have m:=hxn g e;rcases hf with a|a
  . have:=h.lt g (by rw[h.lB g a];omega);omega
  . rw[a]at i;simp at i;omega
 have q:∀k,lab k≠0->lab k≠1->(if k=g then 1 else if d.db k then 3+2*ps.length else lab k)=lab k:=by
  intro k b t;rw[if_neg (fun e=>by subst e;rcases s with e|e<;>omega),if_neg (fun e=>b (B k e))]
 have p:∀k,lab k≠0->lab k≠1->(w2.setCell ⟨bw,1,none⟩ (.slice (some ⟨g,0,none⟩) (ps.length+1) cap)).heap[k]? =w.heap[k]? :=fun k b t=>n.block k (h.lt k b) (by
  rintro(e|e)
  . subst e;exact b y
  . exact t e)
 refine⟨h.relabel n (fun k hk=>hk.imp id (fun e=>by rw[e];omega)) (amg_ r) (fun k b=> ?_), ?_,kg_ h.dE (fun k e=>p k (by rw[h.lX k e];omega) (by rw[h.lX k e];omega)),fun j hj=> ?_,fun j hj=> ?_,fun k e=> ?_,fun k e=> ?_,fun k b=> ?_⟩
 . by_cases e:k=g
   . subst e;rcases s with e|e
     . exact .inl o_
     . exact .inr e.2
   . rw[if_neg e]at b;by_cases f:d.db k
     . exact .inr (hxn k f)
     . rw[if_neg f]at b;exact .inl b
 . rw[amf_]at hown;simp only[Μ,ls_];exact ownsRow_setCell_below hown i_ _
 . simp only[Μ,ls_]at hj;by_cases e:j<ps.length
   . rw[getElem_append_left e];obtain⟨l,c⟩:=h.dy j e;refine⟨l.cZ (fun k hk=>p k (by rw[c k hk];omega) (by rw[c k hk];omega)),fun k hk=> ?_⟩;rw[q k (by rw[c k hk];omega) (by rw[c k hk];omega),c k hk]
   . have u:j=ps.length:=o_;subst u;rw[getElem_append_right ι];simp only[Nat.sub_self,getElem_singleton];refine⟨hd.cZ (fun k hk=> ?_),fun k hk=> ?_⟩
     . have i:=hd.lt k hk;have m:=hxn k hk;rw[Below.heap_setCell _ _ _ k s_,hg.block k s_ (fun a=>by have:=h.lt k (by rw[h.lB k a.symm];omega);omega),Below.heap_alloc w1 o k i]
     . rw[if_neg (fun a=>A (by rw[<-a];exact hk)),if_pos hk]
 . obtain⟨l,c⟩:=h.eQ j hj;refine⟨l.cZ (fun k hk=>p k (by rw[c k hk];omega) (by rw[c k hk];omega)),fun k hk=> ?_⟩;rw[q k (by rw[c k hk];omega) (by rw[c k hk];omega),c k hk]
 . simp only[Value.ownBlock,Δ]at e;rw[if_pos e.symm]
 . rw[q k (by rw[h.lX k e];omega) (by rw[h.lX k e];omega),h.lX k e]
 . by_cases e:k=g
   . subst e;have:=(hown.lt k rfl).2;simpa using this
   . rw[if_neg e]at b;by_cases f:d.db k
     . have i:=hd.lt k f;have m:=hg.size;simp at m ⊢;omega
     . rw[if_neg f]at b;exact Nat.lt_of_lt_of_le (h.lt k b) n.size
end
theorem ei_.cJ (h:ei_ w)(hT:ε S w w')(hS:∀k,S k->3<=k)(hsz:3<=w.heap.size):ei_ w':=by
 unfold ei_ Go.Lib.TabIs at h ⊢;unfold World.var? at h ⊢;obtain⟨g,b,a⟩:=Option.map_eq_some_iff.1 aag_;have a:g<3:=of_decide_eq_true a;rw[b]at h ⊢;simp only[Option.bind_some]at h ⊢;rw[hT.block g o_ (fun e=>by have:=hS g e;omega)];exact h
theorem ami_ (h:ε S w w1)(hb:Bl w1 w2):ε S w w2:=
 ⟨hb.os.trans h.os,hb.tape.trans h.tape,hb.output.trans h.output,Nat.le_trans h.size hb.size,fun k hk hs=>(hb.block k (Nat.lt_of_lt_of_le hk h.size)).trans (h.block k hk hs)⟩
theorem td_ (h:w.heap[b]? =some (.cells #[x,y,z] t (0,0))):w.frozen? ⟨b,1,none⟩=false/\w.frozen? ⟨b,2,none⟩=false:=by
 simp[World.frozen?,h]
def jr_ (w:World)(g m i k:Nat):Prop:=∃c:Array Value,w.heap[g]? =some (.cells c 9 (0,0))/\c.size=m/\∀j,j<i->c[j]? =some (.string (hb_ k))
theorem jr_.block (h:jr_ w g m i k)(e:w'.heap[g]? =w.heap[g]?):jr_ w' g m i k:=by
 obtain⟨c,a,b⟩:=h;exact⟨c,e.trans a,b⟩
theorem jr_.put (h:jr_ w g m i k)(hi:i<m):jr_ (w.setCell ⟨g,i,none⟩ (.string (hb_ k))) g m (i+1) k:=by
 obtain⟨c,a,b,d⟩:=h;refine⟨c.setIfInBounds i (.string (hb_ k)), ?_,by simpa using b,fun j hj=> ?_⟩
 . simp[World.setCell,Array.getElem?_modify,a]
 . rw[Array.getElem?_setIfInBounds];by_cases e:i=j
   . subst e;rw[if_pos rfl,if_pos o_]
   . rw[if_neg e];exact d j o_
theorem jr_.cell {j:Nat}(h:jr_ w g m i k)(hj:j<m):(∃x,w.cell? ⟨g,j,none⟩=some x)/\w.frozen? ⟨g,j,none⟩=false:=by
 obtain⟨c,a,b,d⟩:=h;refine⟨⟨c[j], ?_⟩,by simp[World.frozen?,a]⟩;simp[World.cell?,a,b,hj]
theorem amj_ (w:World)(g n cap k:Nat)(cur:Array Value)(hg:w.heap[g]? =some (.cells cur 9 (0,0)))(hcur:cur.size=cap)(hn:n<=cap)(hcap:cap<=maxLen)(hk:k<=4398046511104)(h3:3<=g)(hsz:3<=w.heap.size)(ht:ei_ w):
 Calls prog 91 #[.slice (some ⟨g,0,none⟩) n cap,.int .i64 (k:Int)] w fun e w'=>e= .returned (.slice (some ⟨g,0,none⟩) cap cap)/\w'.rowIs g 9 cap (fun _=> .string (hb_ k))/\ε (fun j=>j=g) w w':=by
 unfold maxLen at hcap;go_enter func91,ntmps91;go_wp2_with fail;go_loopw [6] (fun i' wr=>∃i:Nat,i<=cap/\i'= .int .i64 (i:Int)/\jr_ wr g cap i k/\ε (fun j=>j=g) w wr) (fun i' _=>cap - (intOf i').toNat)
 case atStart=>exact⟨0,o_,rfl,⟨cur,hg,hcur,fun j hj=>o_⟩,ε.refl _ _⟩
 case round=>
  obtain⟨i,y,rfl,a,d⟩:=hrel;by_cases q:i<cap
  . have u:(i:Int)<(cap:Int):=o_;have s:=aah_ k hk wr (ht.cJ d (fun j e=>o_) hsz);have f:=α a;have h:=α d;have r:g<wr.heap.size:=by obtain⟨c,l,_⟩:=a;exact κ l
    have p:∀b,Bl wr b->(∃x,b.cell? ⟨g,i,none⟩=some x)/\b.frozen? ⟨g,i,none⟩=false:=fun b hb=>(a.block (hb.block g r)).cell q
    clear a d ht;go_wp2_with (go_at_call 24;refine s.mono ?_;rintro e b ⟨rfl,m⟩;obtain⟨⟨x,v⟩,fx⟩:=p b m;have o:=α m;clear m p);go_roundw
    case rel=>
     refine⟨i+1,o_,by go_num,(f.out.block (o.out.block g r)).put q, ?_⟩;exact(ami_ h.out o.out).set ⟨g,i,none⟩ _ (.inl rfl)
    case measure=>exact c_
  . have e:i=cap:=o_;have u:¬(i:Int)<(cap:Int):=o_;have f:=α a;have h:=α d;subst e;clear a d ht;go_wp2_with fail;go_ret;obtain⟨c,l,t,h3⟩:=f.out;exact⟨rfl,⟨c,l,t,h3⟩,h.out⟩
theorem aaa_ (w:World)(va vb:Value)(ba bb:Nat)(l:List ByteArray)(hl:l.length<=100000)(ha:w.ownsRow ba 9 1 va l.length (Ζ l))(hb:w.ownsRow bb 9 1 vb l.length (Ζ l)):
 Calls prog 90 #[va,vb] w fun e w'=>e= .returned (.bool true)/\Below w.heap.size w w':=by
 obtain⟨aa,ca,rfl,sa⟩:=Β ha;obtain⟨ab,cb,rfl,sb⟩:=Β hb;obtain⟨n,HN⟩:=δ (l.length);have hc:∀i,i<n->∃g1 g2 x,aa=some ⟨g1,0,none⟩/\ab=some ⟨g2,0,none⟩/\w.cell? ⟨g1,i,none⟩=some (.string x)/\w.cell? ⟨g2,i,none⟩=some (.string x):=by
  intro i hi;rw[<-HN.out]at hi;obtain⟨g1,e1,c1⟩:=sa o_;obtain⟨g2,e2,c2⟩:=sb o_;have hx:(Ζ l)[i]? =some (.string l[i]):=by simp[Ζ,hi]
  exact⟨g1,g2,l[i],e1,e2,(c1 i o_).trans hx,(c2 i o_).trans hx⟩
 rw[HN.out]at hl ⊢;clear ha hb sa sb;go_enter func90,ntmps90;go_wp2_with fail;go_loopw [5] (fun i' wr=>∃i:Nat,i<=n/\i'= .int .i64 (i:Int)/\Below w.heap.size w wr) (fun i' _=>n - (intOf i').toNat)
 case atStart=>exact⟨0,o_,rfl,μ⟩
 case round=>
  obtain⟨i,hi,rfl,hb⟩:=hrel;have HB:Hid (Below w.heap.size w wr):=hb;by_cases hlt:i<n
  . obtain⟨g1,g2,x,rfl,rfl,c1,c2⟩:=hc i hlt;have d1:=((bc_ hb).1 g1 i (Χ c1)).trans c1;have d2:=((bc_ hb).1 g2 i (Χ c2)).trans c2;have q1:(i:Int)<(n:Int):=o_;have q2:(x.toList==x.toList)=true:=by rw[g3_];simp
    clear hb c1 c2 hc;go_wp2_with fail;go_quiet (fail);go_wp2_with fail;go_roundw
    case rel=>exact⟨i+1,o_,by go_num,below_drewN HB.out nq⟩
    case measure=>simp[intOf];omega
  . have q1:¬(i:Int)<(n:Int):=o_;have e:i=n:=o_;subst e;clear hb hc;go_wp2_with fail;go_ret;exact⟨rfl,HB.out⟩
theorem aab_:(prog.info? 56).map (fun i=>(i.zero,i.size,i.bytes))=some (some (.slice none 0 0),1,24):=k_
theorem aac_ (Wo w0 w:World)(bw:Nat)(vts cC cH:Value)(hs:List Hd)(ps:List Bk)(xs:List Value)(lab:Nat->Nat)(h:an_ Wo w0 bw vts cC cH hs ps xs lab)(hB:Bl w0 w)(hx:xs.length<=4398046511104)(h3:3<=bw)(ht:ei_ w0)
 (l:List ByteArray) (hl:l.length<=100000) (v u:Value) (hne:v≠ .slice none 0 0) (hv:w.ownsRow w0.heap.size 9 1 v l.length (Ζ l)) (hu:w.ownsRow w0.heap.size 9 1 u l.length (Ζ l)):
 Calls prog 51 #[.pointer (some ⟨bw,0,none⟩),v,u] w fun e w'=>e= .returned (.bool true)/\ε (fun k=>k=bw\/lab k≠0) w0 w'/\∃vtx' x lab',an_ Wo w' bw vts cC vtx' hs ps (xs++ [x]) lab':=by
 obtain⟨i0,T,aa,ab,ac⟩:=info_parts aab_;have ae:=κ h.wd.cg;have E:=aaa_ w v u _ _ l hl hv hu;rcases hv.2 with ⟨rfl,e⟩|⟨g,b,P,rfl,af,C,U,B,I,_⟩
 . exact absurd rfl hne
 rw[Nat.mul_one]at I;have Z:=hB.size;have r:∀c,Bl w c->Calls prog 91 #[.slice (some ⟨g,0,none⟩) l.length b,.int .i64 (xs.length:Int)] c fun e w'=>e= .returned (.slice (some ⟨g,0,none⟩) b b)/\w'.rowIs g 9 b (fun _=> .string (hb_ xs.length))/\ε (fun j=>j=g) c w':=fun c d=>
  amj_ c g l.length b xs.length P (by rw[d.block g (κ C)];exact C) I U B hx o_ (by have:=d.size;omega) ((ht.below o_ hB).below o_ d)
 have s:∀c,Bl w c->c.cell? ⟨bw,2,none⟩=some cH/\(∀a,ε (fun j=>j=g) c a->a.cell? ⟨bw,2,none⟩=some cH/\Bl w0 a/\an_ Wo a bw vts cC cH hs ps xs lab):=by
  intro c d;have t:=hB.trans (d.mono Z);refine⟨(ev_ (h.below t).wd.cg).2.2.1,fun a hT=> ?_⟩;have y:Bl w0 a:=hT.below t (by have:=t.size;omega) (fun k e=>o_);exact⟨(ev_ (h.below y).wd.cg).2.2.1,y,h.below y⟩
 obtain⟨n,M⟩:=δ (l.length);obtain⟨ad,ct,Y,_⟩:=Β h.dE;rw[M.out]at r E ⊢;have q:∀a,Bl w0 a->a.rowIs g 9 b (fun _=> .string (hb_ xs.length))->∀f m i,i.ownsRow (bw+1) 56 1 (.slice (some ⟨f,0,none⟩) (xs.length+1) m) (xs.length+1) (xs++ [.slice (some ⟨g,0,none⟩) b b])->(a.alloc (.cells #[.slice (some ⟨g,0,none⟩) b b] 56)).grownBy i cH.ownBlock->(cH.ownBlock=some f\/f=(a.alloc (.cells #[.slice (some ⟨g,0,none⟩) b b] 56)).heap.size)->
  i.heap[bw]? =some (.cells #[vts,cC,cH] 31 (0,0))/\Hid (ε (fun k=>k=bw\/lab k≠0) w0 (i.setCell ⟨bw,2,none⟩ (.slice (some ⟨f,0,none⟩) (xs.length+1) m))/\∃lab',an_ Wo (i.setCell ⟨bw,2,none⟩ (.slice (some ⟨f,0,none⟩) (xs.length+1) m)) bw vts cC (.slice (some ⟨f,0,none⟩) (xs.length+1) m) hs ps (xs++ [.slice (some ⟨g,0,none⟩) b b]) lab'):=by
  intro a d X f m i W o S;exact h.newText d (.inr ⟨g,b,rfl,B,X⟩) (fun j e=>by simp only[Value.ownBlock,Δ]at e;omega) W o S
 have p:∀a,Bl w0 a->(a.alloc (.cells #[.slice (some ⟨g,0,none⟩) b b] 56)).ownsRow (bw+1) 56 1 cH xs.length xs/\bw+1<=a.heap.size:=fun a d=>⟨(h.below d).dE.alloc _,by have:=d.size;omega⟩
 rw[Y]at s p q;unfold maxLen at B;clear h hu hv C hB ht;go_enter func51,ntmps51;go_wp2_with (first
  |(go_at_call 90;refine E.mono ?_;rintro e c ⟨rfl,z⟩;obtain⟨O,G⟩:=s c z;have N:=r c z;clear s r z)
  |(go_at_call 91;refine N.mono ?_;rintro e a ⟨rfl,L,H⟩;obtain⟨c2,A,_⟩:=G a H;obtain⟨V,ag⟩:=p a A;have D:=q a A L;clear G p q L H A O)
  |(at_builtin;refine Υ underlying29 T aa ab ac V ?_;intro f m i K o J;obtain⟨f0,F⟩:=D f m i K o J;obtain⟨f1,f2,f3,f4⟩:=ev_ f0;have f5:=td_ f0;clear D K o J f0))
 go_ret;obtain⟨R,lab',Q⟩:=F.out;exact⟨rfl,R,_,_,lab',Q⟩
theorem amk_ (Wo w0 w:World)(bw:Nat)(vts cC cH:Value)(hs:List Hd)(ps:List Bk)(xs:List Value)(lab:Nat->Nat)(h:an_ Wo w0 bw vts cC cH hs ps xs lab)(hB:Bl w0 w)(hx:xs.length<=4398046511104)(h3:3<=bw)(ht:ei_ w0)
 (l:List ByteArray) (hl:l.length<=100000) (hl0:0<l.length) (v u:Value) (hv:w.ownsRow w0.heap.size 9 1 v l.length (Ζ l)) (hu:w.ownsRow w0.heap.size 9 1 u l.length (Ζ l)):
 Calls prog 51 #[.pointer (some ⟨bw,0,none⟩),v,u] w fun e w'=>e= .returned (.bool true)/\ε (fun k=>k=bw\/lab k≠0) w0 w'/\∃vtx' x lab',an_ Wo w' bw vts cC vtx' hs ps (xs++ [x]) lab':=by
 refine aac_ Wo w0 w bw vts cC cH hs ps xs lab h hB hx h3 ht l hl v u ?_ hv hu;rintro rfl;rcases hv.2 with ⟨_,e⟩|⟨g,a,b,e,_⟩
 . omega
 . simp at e
theorem aml_ (Wo w:World)(bw:Nat)(vts cC cH:Value)(hs:List Hd)(ps:List Bk)(xs:List Value)(lab:Nat->Nat)(h:an_ Wo w bw vts cC cH hs ps xs lab)(hn:hs.length<=4398046511104)(hx:xs.length<=4398046511104)(h3:3<=bw)(ht:ei_ w):
 Calls prog 13 #[.pointer (some ⟨bw,0,none⟩)] w fun e w'=>e= .returned (.bool true)/\Below w.heap.size w w':=by
 obtain⟨al,cl,rfl,hal⟩:=Β h.wd.own;obtain⟨at',ct,rfl,hat⟩:=Β h.dE;have hbs:=κ h.wd.cg;go_enter func13,ntmps13;go_wp2_with fail;go_loopw [3,4] (fun i' _ wr=>∃i:Nat,i<=hs.length/\i'= .int .i64 i/\Below w.heap.size w wr) (fun i' _ _=>hs.length - (intOf i').toNat)
 case atStart=>exact⟨0,o_,rfl,μ⟩
 case round=>
  obtain⟨i,hi,rfl,hb⟩:=hrel;have hr:=h.below hb;obtain⟨y0,y1,y2,y3⟩:=ev_ hr.wd.cg;replace y2:wr.cell? ⟨bw,2,none⟩=some (.slice at' xs.length ct):=y2;by_cases hlt:i<hs.length
  . obtain⟨gl,rfl,hcl⟩:=hal o_;have z0:wr.cell? ⟨gl,i,none⟩=some (.pointer (some ⟨hs[i].bh,0,none⟩)):=by
     have:=(hcl i o_).trans (lf_ hs i hlt);rw[(bc_ hb).1 _ _ (Χ this)];exact this
    have HC:=ah8_ hs[i] wr (hr.wd.dJ _ (List.getElem_mem hlt));obtain⟨dd,HDD⟩:∃x,Hid (hs[i]=x):=⟨hs[i],by unfold Hid;rfl⟩;rw[HDD.out]at z0 HC;have HB:Hid (Below w.heap.size w wr):=hb;have hbs2:=hb.size;clear hr hcl hal hb hat h;go_wp2_with fail;refine HC.mono ?_;rintro e w1 ⟨rfl,hB1⟩;clear HC;go_wp2_with fail;go_roundw
    case rel=>exact⟨i+1,o_,by go_num,HB.out.trans (hB1.mono hbs2)⟩
    case measure=>simp[intOf];omega
  . have he:i=hs.length:=o_;subst he;have HB:Hid (Below w.heap.size w wr):=hb;clear hr hal hb y0 y1 y2 y3;have y2:∀w2,Below w.heap.size w w2->w2.cell? ⟨bw,2,none⟩=some (.slice at' xs.length ct)/\w2.cell? ⟨bw,0,none⟩=some (.slice al hs.length cl):=fun w2 hb2=>⟨(ev_ (h.below hb2).wd.cg).2.2.1,(ev_ (h.below hb2).wd.cg).1⟩
    obtain⟨d2,d0⟩:=y2 wr HB.out;go_wp2_with fail;go_loopw [5,6] (fun i' _ wi=>∃j:Nat,j<=xs.length/\i'= .int .i64 (j:Int)/\Below w.heap.size w wi) (fun i' _ _=>xs.length - (intOf i').toNat)
    case atStart=>exact⟨0,o_,rfl,HB.out⟩
    case round=>
     obtain⟨j,hj,rfl,hbi⟩:=hrel;rename World=>wi
     obtain⟨c2,c0⟩:=y2 wi hbi;have HBI:Hid (Below w.heap.size w wi):=hbi;by_cases hlt:j<xs.length
     . obtain⟨gx,rfl,hcx⟩:=hat o_;have hxj:=(h.eQ j hlt).1;have hcj:=(hcx j o_).trans (List.getElem?_eq_getElem hlt);have q1:(j:Int)<(xs.length:Int):=o_;have HAT:∀w2,Below w.heap.size w w2->w2.cell? ⟨gx,j,none⟩=some xs[j]:=fun w2 hb2=>((bc_ hb2).1 _ _ (Χ hcj)).trans hcj
       have HMK:∀w2,Below w.heap.size w w2->Calls prog 24 #[.int .i64 (j:Int)] w2 fun e w'=>e= .returned (.string (hb_ j))/\Below w2.heap.size w2 w':=fun w2 hb2=>aah_ j o_ w2 (ht.below o_ hb2)
       have HSZ:∀w2,Below w.heap.size w w2->w.heap.size<=w2.heap.size:=fun w2 hb2=>hb2.size
       rcases hxj with hnil|⟨g,m,hv,hm,hrow⟩
       . have e0:=HAT wi hbi;rw[hnil]at e0;clear hcx hcj h ht hbi hat;go_wp2_with fail;go_loopw [6] (fun k' wk=>k'= .int .i64 0/\Below w.heap.size w wk) (fun _ _=>0)
         case atStart=>exact⟨rfl,HBI.out⟩
         case round=>
          obtain⟨rfl,hbk⟩:=hrel;rename World=>wk
          have e1:=HAT wk hbk;rw[hnil]at e1;obtain⟨k2,k0⟩:=y2 wk hbk;have HBK:Hid (Below w.heap.size w wk):=hbk;clear hbk;go_wp2_with fail;go_roundw
          case rel=>exact⟨j+1,o_,by go_num,HBK.out⟩
          case measure=>simp[intOf];omega
       . rw[hv]at HAT;have e0:=HAT wi hbi;have HRW:∀w2,Below w.heap.size w w2->∀k,k<m->w2.cell? ⟨g,k,none⟩=some (.string (hb_ j)):=fun w2 hb2 k hk=>((bc_ hb2).1 _ _ (World.rowIs.lt hrow)).trans (World.rowIs.cell hrow hk)
         unfold maxLen at hm;clear hcx hcj h ht hbi hat hrow;go_wp2_with fail;go_loopw [6] (fun k' wk=>∃k:Nat,k<=m/\k'= .int .i64 (k:Int)/\Below w.heap.size w wk) (fun k' _=>m - (intOf k').toNat)
         case atStart=>exact⟨0,o_,rfl,HBI.out⟩
         case round=>
          obtain⟨k,hk,rfl,hbk⟩:=hrel;rename World=>wk
          have e1:=HAT wk hbk;obtain⟨k2,k0⟩:=y2 wk hbk;have HBK:Hid (Below w.heap.size w wk):=hbk;have hsk:=hbk.size;by_cases hkm:k<m
          . have e2:=HRW wk hbk k hkm;have HM:=HMK wk hbk;have q2:(k:Int)<(m:Int):=o_;have q3:((hb_ j).toList==(hb_ j).toList)=true:=by rw[g3_];simp
            have hbd:Below w.heap.size w wk.drew:=hbk.drew;have HMd:=HMK wk.drew hbd;have HTR:∀w2,Below wk.drew.heap.size wk.drew w2->Below w.heap.size w w2:=fun w2 h2=>hbd.trans (h2.mono hbd.size)
            clear hbk HM hbd;go_upto_region 13 with fail;go_region_held3 (fun w'=>w'.cell? ⟨bw,2,none⟩=some (.slice (some ⟨gx,0,none⟩) xs.length ct)/\w'.cell? ⟨gx,j,none⟩=some (.slice (some ⟨g,0,none⟩) m m)/\w'.cell? ⟨g,k,none⟩=some (.string (hb_ j))) (go_keep)
             ((go_at_call 24;refine HMd.mono ?_;rintro e w' ⟨rfl,hb'⟩;have hbw:=HTR w' hb';have u0:=(y2 w' hbw).1;have u1:=HAT w' hbw;have u2:=HRW w' hbw k hkm;have HBN:Hid (Below w.heap.size w w'):=hbw;clear hb' hbw))
            all_goals go_wp2_with fail
            all_goals go_roundw
            case rel=>exact⟨k+1,o_,by go_num,HBN.out⟩
            case measure=>simp[intOf];omega
          . have q2:¬(k:Int)<(m:Int):=o_;clear hbk;go_wp2_with fail;go_roundw
            case rel=>exact⟨j+1,o_,by go_num,HBK.out⟩
            case measure=>simp[intOf];omega
     . have q1:¬(j:Int)<(xs.length:Int):=o_;clear h ht hbi hat;go_wp2_with fail;go_ret;exact⟨rfl,HBI.out⟩
theorem mi_ (h1:ε S w w1)(h2:ε S w1 w2):ε S w w2:=
 ⟨h2.os.trans h1.os,h2.tape.trans h1.tape,h2.output.trans h1.output,Nat.le_trans h1.size h2.size,fun k hk hs=>(h2.block k (Nat.lt_of_lt_of_le hk h1.size) hs).trans (h1.block k hk hs)⟩
theorem te_ {b1 b2:Nat}{x:List Value}(h:w.ownsRow b1 e s v n x)(hb:b2<=b1):w.ownsRow b2 e s v n x:=by
 refine⟨h.1, ?_⟩;rcases h.2 with a|⟨g,b,c,a,d,r⟩
 . exact .inl a
 . exact .inr ⟨g,b,c,a,Nat.le_trans hb d,r⟩
theorem amm_ {t:Nat->ByteArray}{s:ByteArray}(hs:d2_ t n)(hn:n<=60)(htu:∀i,i<n->ci_ (t i)=true)(hp:d3_ t n s p):d2_ (f5_ t n s p) (fx_ t n s p)/\fx_ t n s p<=60/\∀i,i<fx_ t n s p->ci_ (f5_ t n s p i)=true:=by
 unfold f5_ fx_;cases h:dw_ t n s p with
 |false=>exact⟨hs,hn,htu⟩
 |true=>
  simp only[dw_,Bool.and_eq_true,Bool.not_eq_true',decide_eq_true_eq,decide_eq_false_iff_not]at h;obtain⟨⟨a,b⟩,h3⟩:=h;simp only[if_true];refine⟨hp.ey hs b,o_,fun i hi=> ?_⟩;unfold ins;split
  . have:=hp.le;exact htu i o_
  . split
    . exact a
    . exact htu (i - 1) o_
theorem amn_ {t:Nat->ByteArray}{s:ByteArray}(hs:d2_ t n)(hn:n<=60)(htu:∀i,i<n->ci_ (t i)=true)(hp:d3_ t n s p):d2_ (hr_ t n s p) (hd_ t n s p)/\hd_ t n s p<=60/\∀i,i<hd_ t n s p->ci_ (hr_ t n s p i)=true:=by
 unfold hr_ hd_;cases h:cu_ t n s p with
 |false=>exact⟨hs,hn,htu⟩
 |true=>
  simp only[cu_,Bool.and_eq_true,decide_eq_true_eq]at h;obtain⟨b,a,c⟩:=h;simp only[if_true];refine⟨age_ hs a,o_,fun i hi=> ?_⟩;unfold del;split
  . exact htu i o_
  . exact htu (i+1) o_
def c3_ (Wo:World)(bw:Nat)(vts cC:Value)(hs:List Hd)(ps:List Bk)(n:Nat)(lab:Nat->Nat)(w:World)(e:Ending)(w':World):Prop:=
 e= .returned (.bool true)/\ε (fun k=>k=bw\/lab k≠0) w w'/\∃vtx' ps' xs' lab',an_ Wo w' bw vts cC vtx' hs ps' xs' lab'/\dv_ ps'=dv_ ps/\xs'.length<=n+1
theorem qh_ {ps:List Bk}(hi:i<ps.length){d':Bk}(hbp:d'.bp=ps[i].bp):dv_ (ps.set i d')=dv_ ps:=by
 apply ext_getElem?;intro j;by_cases a:j<ps.length
 . rw[mh_ ps j a,mh_ _ j (by simpa using a)];by_cases e:i=j
   . subst e;simp[hbp]
   . rw[getElem_set_ne e]
 . rw[getElem?_eq_none (by simp[dv_];omega),getElem?_eq_none (by simp[dv_];omega)]
theorem aad_ {W:World}{hs:List Hd}{ps:List Bk}(h:an_ Wo w bw vts cC cH hs ps xs lab)(hi:i<ps.length)(BW:Bl w W)
    (ht1:ε (fun k=>k=ps[i].bx) W w1) (hx:Θ w1 ps[i].bx t' n' ps[i].cx) (ht2:ε (fun k=>k=ps[i].br) w1 w2) (hy:ad_ w2 ps[i].br ry' t' n' ps[i].cy) (hry:∀g,ry'.ownBlock=some g->ps[i].ry.ownBlock=some g\/w1.heap.size<=g)
 (hg:d2_ t' n'/\n'<=60/\∀j,j<n'->ci_ (t' j)=true):c3_ Wo bw vts cC hs ps xs.length lab w (.returned (.bool true)) w2:=by
 obtain⟨c,a⟩:=h.dy i hi;have b:ε (fun k=>lab k=3+2*i) w w2:=
  mi_ (i4_ BW) (mi_ (ik_ ht1 (fun k e=>by rw[e];exact a _ (.inr (.inl rfl)))) (ik_ ht2 (fun k e=>by rw[e];exact a _ (.inr (.inr (.inl rfl))))))
 have d:=(c.below BW).step ht1 hx ht2 hy hg.1 hg.2.1 hg.2.2;obtain⟨l,f⟩:=h.book hi b d rfl (fun k hk=>by
  rcases hk with e|e|e|e|e
  . exact .inl (a k (.inl e))
  . exact .inl (a k (.inr (.inl e)))
  . exact .inl (a k (.inr (.inr (.inl e))))
  . rcases hry k e with e|e
    . exact .inl (a k (.inr (.inr (.inr (.inl e)))))
    . right;have:=BW.size;have:=ht1.size;omega
  . exact .inl (a k (.inr (.inr (.inr (.inr e))))))
 exact⟨rfl,ik_ b (fun k e=> .inr (by rw[e];omega)),cH,_,xs,l,f,qh_ hi rfl,o_⟩
theorem mj_ {hs:List Hd}{ps:List Bk}(h:an_ Wo w bw vts cC cH hs ps xs lab)(BW:Bl w w2):c3_ Wo bw vts cC hs ps xs.length lab w (.returned (.bool true)) w2:=
 ⟨rfl,i4_ BW,cH,ps,xs,lab,h.below BW,rfl,o_⟩
theorem amo_ (Wo w:World)(bw:Nat)(vts cC cH:Value)(hs:List Hd)(ps:List Bk)(xs:List Value)(lab:Nat->Nat)(h:an_ Wo w bw vts cC cH hs ps xs lab)(i:Nat)(hi:i<ps.length)(a b c d:Int)(s:ByteArray)(lo:Option Addr)(ll lc:Nat)(hss:s.size<=maxLen):
 Calls prog 22 #[.pointer (some ⟨bw,0,none⟩),.agg #[.int .i64 11,.int .i64 a,.int .i64 b,.int .i64 c,.int .i64 d,.string s,.slice lo ll lc],.pointer (some ⟨ps[i].bp,0,none⟩)] w (c3_ Wo bw vts cC hs ps xs.length lab w):=by
 obtain⟨W,K,F,U,T⟩:=ν w #[.int .i64 11,.int .i64 a,.int .i64 b,.int .i64 c,.int .i64 d,.string s,.slice lo ll lc] 33;obtain⟨x0,x1,x2,x3,x4,Y,x6⟩:=bo_ T;have l:=(h.dy i hi).1;have u:=l.below F;obtain⟨V,X,_,_⟩:=β u.pr;obtain⟨p,y⟩:=ts_ ps[i].t s ps[i].n;have J:=anx_ W.drew ps[i].bx ps[i].n ps[i].t ps[i].cx s p u.px l.le hss y;have E:∀f,ε (fun k=>k=ps[i].bx) W f->_:=fun f ht=>afm_ f.drew ps[i].br ps[i].n ps[i].ry ps[i].t ps[i].cy s p (u.df ht).2 l.le hss l.dx y
 have D:∀f,ε (fun k=>k=ps[i].bx) W f->f.cell? ⟨ps[i].bp,0,none⟩=some (.pointer (some ⟨ps[i].bx,0,none⟩))/\f.cell? ⟨ps[i].bp,1,none⟩=some (.pointer (some ⟨ps[i].br,0,none⟩))/\f.cell? ⟨w.heap.size,5,none⟩=some (.string s)/\∀j,ε (fun k=>k=ps[i].br) f j->j.cell? ⟨ps[i].bp,1,none⟩=some (.pointer (some ⟨ps[i].br,0,none⟩))/\j.cell? ⟨w.heap.size,5,none⟩=some (.string s):=fun f ht=>by
  obtain⟨O,A,_,_⟩:=β (u.df ht).1;have aa:=World.rowIs.lt l.px;have Z:=World.rowIs.lt l.py.1;have B:=(World.cell?_of_block (a:=⟨w.heap.size,5,none⟩) (ht.block _ U (fun e=>by simp at e;omega))).trans Y;refine⟨O,A,B,fun j q=>⟨?_, ?_⟩⟩
  . exact(World.cell?_of_block (a:=⟨ps[i].bp,1,none⟩) (q.block _ (Χ A) (fun e=>l.apart.2.1 e))).trans A
  . exact(World.cell?_of_block (a:=⟨w.heap.size,5,none⟩) (q.block _ (Χ B) (fun e=>by simp at e;omega))).trans B
 have C:∀f j v,ε (fun k=>k=ps[i].bx) W f->Θ f ps[i].bx (f5_ ps[i].t ps[i].n s p) (fx_ ps[i].t ps[i].n s p) ps[i].cx->ε (fun k=>k=ps[i].br) f j->ad_ j ps[i].br v (f5_ ps[i].t ps[i].n s p) (fx_ ps[i].t ps[i].n s p) ps[i].cy->(∀g,v.ownBlock=some g->ps[i].ry.ownBlock=some g\/f.heap.size<=g)->Hid (c3_ Wo bw vts cC hs ps xs.length lab w (.returned (.bool true)) j):=fun f j v k1 k2 k3 k4 k5=>aad_ h hi F k1 k2 k3 k4 k5 (amm_ l.dx l.le l.ee y)
 obtain⟨m,H⟩:∃x,Hid (ps[i]=x):=⟨ps[i],by unfold Hid;rfl⟩;rw[H.out]at J E D C V X ⊢;generalize dw_ m.t m.n s p=rb at*;generalize e6_ m.t m.n s p=re at*
 clear h l u y H;go_enter func22,ntmps22;go_upto_region 1 with fail;rw[<-K];clear K;go_upto_region 3 with fail;go_region_held3 (fun w'=>w'.cell? ⟨m.bp,0,none⟩=some (.pointer (some ⟨m.bx,0,none⟩))/\w'.cell? ⟨w.heap.size,5,none⟩=some (.string s)) (go_keep)
  ((go_at_call 42;refine J.mono ?_;rintro e f ⟨rfl,M,o⟩;have z:ε (fun k=>k=m.bx) W f:=⟨o.os,o.tape,o.output,o.size,o.block⟩;have S:=E f z;obtain⟨O,A,B,I⟩:=D f z;have G:=C f;have R:=α M;have Q:=α z;clear E D C M z o))
 all_goals go_upto_region 4 with fail
 all_goals go_region_held3 (fun w'=>w'.cell? ⟨m.bp,1,none⟩=some (.pointer (some ⟨m.br,0,none⟩))/\w'.cell? ⟨w.heap.size,5,none⟩=some (.string s)) (go_keep)
  ((go_at_call 43;refine S.mono ?_;rintro e j ⟨rfl,v,N,r,L⟩;have q:ε (fun k=>k=m.br) f j:=⟨r.os,r.tape,r.output,r.size,r.block⟩;obtain⟨s1,s5⟩:=I j q;have P:=G j v Q.out R.out q N L;clear G N q L I r))
 all_goals go_wp2_with fail
 all_goals go_ret
 all_goals exact P.out
theorem amp_ (Wo w:World)(bw:Nat)(vts cC cH:Value)(hs:List Hd)(ps:List Bk)(xs:List Value)(lab:Nat->Nat)(h:an_ Wo w bw vts cC cH hs ps xs lab)(i:Nat)(hi:i<ps.length)(a b c d:Int)(s:ByteArray)(lo:Option Addr)(ll lc:Nat)(hss:s.size<=maxLen):
 Calls prog 22 #[.pointer (some ⟨bw,0,none⟩),.agg #[.int .i64 12,.int .i64 a,.int .i64 b,.int .i64 c,.int .i64 d,.string s,.slice lo ll lc],.pointer (some ⟨ps[i].bp,0,none⟩)] w (c3_ Wo bw vts cC hs ps xs.length lab w):=by
 obtain⟨W,K,F,U,T⟩:=ν w #[.int .i64 12,.int .i64 a,.int .i64 b,.int .i64 c,.int .i64 d,.string s,.slice lo ll lc] 33;obtain⟨x0,x1,x2,x3,x4,Y,x6⟩:=bo_ T;have l:=(h.dy i hi).1;have u:=l.below F;obtain⟨V,X,_,_⟩:=β u.pr;obtain⟨p,y⟩:=ts_ ps[i].t s ps[i].n;have J:=any_ W.drew ps[i].bx ps[i].n ps[i].t ps[i].cx s p u.px l.le hss y;have E:∀f,ε (fun k=>k=ps[i].bx) W f->_:=fun f ht=>afp_ f.drew ps[i].br ps[i].n ps[i].ry ps[i].t ps[i].cy s p (u.df ht).2 l.le hss l.dx y
 have D:∀f,ε (fun k=>k=ps[i].bx) W f->f.cell? ⟨ps[i].bp,0,none⟩=some (.pointer (some ⟨ps[i].bx,0,none⟩))/\f.cell? ⟨ps[i].bp,1,none⟩=some (.pointer (some ⟨ps[i].br,0,none⟩))/\f.cell? ⟨w.heap.size,5,none⟩=some (.string s)/\∀j,ε (fun k=>k=ps[i].br) f j->j.cell? ⟨ps[i].bp,1,none⟩=some (.pointer (some ⟨ps[i].br,0,none⟩))/\j.cell? ⟨w.heap.size,5,none⟩=some (.string s):=fun f ht=>by
  obtain⟨O,A,_,_⟩:=β (u.df ht).1;have aa:=World.rowIs.lt l.px;have Z:=World.rowIs.lt l.py.1;have B:=(World.cell?_of_block (a:=⟨w.heap.size,5,none⟩) (ht.block _ U (fun e=>by simp at e;omega))).trans Y;refine⟨O,A,B,fun j q=>⟨?_, ?_⟩⟩
  . exact(World.cell?_of_block (a:=⟨ps[i].bp,1,none⟩) (q.block _ (Χ A) (fun e=>l.apart.2.1 e))).trans A
  . exact(World.cell?_of_block (a:=⟨w.heap.size,5,none⟩) (q.block _ (Χ B) (fun e=>by simp at e;omega))).trans B
 have C:∀f j v,ε (fun k=>k=ps[i].bx) W f->Θ f ps[i].bx (hr_ ps[i].t ps[i].n s p) (hd_ ps[i].t ps[i].n s p) ps[i].cx->ε (fun k=>k=ps[i].br) f j->ad_ j ps[i].br v (hr_ ps[i].t ps[i].n s p) (hd_ ps[i].t ps[i].n s p) ps[i].cy->(∀g,v.ownBlock=some g->ps[i].ry.ownBlock=some g\/f.heap.size<=g)->Hid (c3_ Wo bw vts cC hs ps xs.length lab w (.returned (.bool true)) j):=fun f j v k1 k2 k3 k4 k5=>aad_ h hi F k1 k2 k3 k4 k5 (amn_ l.dx l.le l.ee y)
 obtain⟨m,H⟩:∃x,Hid (ps[i]=x):=⟨ps[i],by unfold Hid;rfl⟩;rw[H.out]at J E D C V X ⊢;generalize cu_ m.t m.n s p=rb at*;generalize dx_ s=re at*
 clear h l u y H;go_enter func22,ntmps22;go_upto_region 1 with fail;rw[<-K];clear K;go_upto_region 7 with fail;go_region_held3 (fun w'=>w'.cell? ⟨m.bp,0,none⟩=some (.pointer (some ⟨m.bx,0,none⟩))/\w'.cell? ⟨w.heap.size,5,none⟩=some (.string s)) (go_keep)
  ((go_at_call 44;refine J.mono ?_;rintro e f ⟨rfl,M,o⟩;have z:ε (fun k=>k=m.bx) W f:=⟨o.os,o.tape,o.output,o.size,o.block⟩;have S:=E f z;obtain⟨O,A,B,I⟩:=D f z;have G:=C f;have R:=α M;have Q:=α z;clear E D C M z o))
 all_goals go_upto_region 8 with fail
 all_goals go_region_held3 (fun w'=>w'.cell? ⟨m.bp,1,none⟩=some (.pointer (some ⟨m.br,0,none⟩))/\w'.cell? ⟨w.heap.size,5,none⟩=some (.string s)) (go_keep)
  ((go_at_call 45;refine S.mono ?_;rintro e j ⟨rfl,v,N,r,L⟩;have q:ε (fun k=>k=m.br) f j:=⟨r.os,r.tape,r.output,r.size,r.block⟩;obtain⟨s1,s5⟩:=I j q;have P:=G j v Q.out R.out q N L;clear G N q L I r))
 all_goals go_wp2_with fail
 all_goals go_ret
 all_goals exact P.out
theorem amq_ (Wo w:World)(bw:Nat)(vts cC cH:Value)(hs:List Hd)(ps:List Bk)(xs:List Value)(lab:Nat->Nat)(h:an_ Wo w bw vts cC cH hs ps xs lab)(i:Nat)(hi:i<ps.length)(a b c d:Int)(s:ByteArray)(lo:Option Addr)(ll lc:Nat)(hss:s.size<=maxLen):
 Calls prog 22 #[.pointer (some ⟨bw,0,none⟩),.agg #[.int .i64 13,.int .i64 a,.int .i64 b,.int .i64 c,.int .i64 d,.string s,.slice lo ll lc],.pointer (some ⟨ps[i].bp,0,none⟩)] w (c3_ Wo bw vts cC hs ps xs.length lab w):=by
 obtain⟨W,r,l,E,v⟩:=ν w #[.int .i64 13,.int .i64 a,.int .i64 b,.int .i64 c,.int .i64 d,.string s,.slice lo ll lc] 33;obtain⟨F,G,H,I,J,K,L⟩:=bo_ v;have g:=(h.dy i hi).1;have j:=g.below l;obtain⟨A,B,_,_⟩:=β j.pr;obtain⟨p,k⟩:=ts_ ps[i].t s ps[i].n;have o:=anz_ W.drew ps[i].bx ps[i].n ps[i].t ps[i].cx s p j.px g.le hss k;have q:=afk_ W.drew.drew ps[i].br ps[i].n ps[i].ry ps[i].t ps[i].cy s p j.py g.le hss g.dx k;have u:Hid (c3_ Wo bw vts cC hs ps xs.length lab w (.returned (.bool true)) W.drew.drew):=mj_ h l.drew.drew;obtain⟨f,m⟩:∃x,Hid (ps[i]=x):=⟨ps[i],by unfold Hid;rfl⟩;rw[m.out]at o q A B ⊢;generalize cu_ f.t f.n s p=rb at*;generalize dx_ s=re at*
 clear h g j k m;go_enter func22,ntmps22;go_upto_region 1 with fail;rw[<-r];clear r;go_upto_region 11 with fail;go_region_held3 (fun w'=>w'.cell? ⟨f.bp,0,none⟩=some (.pointer (some ⟨f.bx,0,none⟩))/\w'.cell? ⟨w.heap.size,5,none⟩=some (.string s)) (go_keep)
  ((go_at_call 46;refine o.mono ?_;rintro e C ⟨rfl,y⟩;obtain rfl:W.drew=C:=y.symm))
 all_goals go_upto_region 12 with fail
 all_goals go_region_held3 (fun w'=>w'.cell? ⟨f.bp,1,none⟩=some (.pointer (some ⟨f.br,0,none⟩))/\w'.cell? ⟨w.heap.size,5,none⟩=some (.string s)) (go_keep)
  ((go_at_call 47;refine q.mono ?_;rintro e D ⟨rfl,z⟩;obtain rfl:W.drew.drew=D:=z.symm))
 all_goals go_wp2_with fail
 all_goals go_ret
 all_goals exact u.out
theorem amr_ (Wo w:World)(bw:Nat)(vts cC cH:Value)(hs:List Hd)(ps:List Bk)(xs:List Value)(lab:Nat->Nat)(h:an_ Wo w bw vts cC cH hs ps xs lab)(i:Nat)(hi:i<ps.length)(a b c d:Int)(s:ByteArray)(lo:Option Addr)(ll lc:Nat)(hss:s.size<=maxLen):
 Calls prog 22 #[.pointer (some ⟨bw,0,none⟩),.agg #[.int .i64 14,.int .i64 a,.int .i64 b,.int .i64 c,.int .i64 d,.string s,.slice lo ll lc],.pointer (some ⟨ps[i].bp,0,none⟩)] w (c3_ Wo bw vts cC hs ps xs.length lab w):=by
 obtain⟨W,l,g,B,r⟩:=ν w #[.int .i64 14,.int .i64 a,.int .i64 b,.int .i64 c,.int .i64 d,.string s,.slice lo ll lc] 33;obtain⟨E,F,G,H,I,J,K⟩:=bo_ r;have m:=(h.dy i hi).1;have f:=m.below g;obtain⟨v,y,_,_⟩:=β f.pr;have k:=an0_ W ps[i].bx ps[i].n ps[i].t ps[i].cx f.px;have q:Hid (c3_ Wo bw vts cC hs ps xs.length lab w (.returned (.bool true)) W):=mj_ h g;have p:=f.py.row;obtain⟨C,D,o,_⟩:=f.py.shape;rw[o]at p;obtain⟨A,j⟩:∃x,Hid (ps[i]=x):=⟨ps[i],by unfold Hid;rfl⟩;rw[j.out]at k v y p ⊢;clear h m f j o;go_enter func22,ntmps22;go_upto_region 1 with fail;rw[<-l];clear l;go_wp2_with (go_at_call 48;refine k.mono ?_;rintro e z ⟨rfl,u⟩;obtain rfl:W=z:=u.symm);go_ret;exact q.out
theorem ams_ (Wo w:World)(bw:Nat)(vts cC cH:Value)(hs:List Hd)(ps:List Bk)(xs:List Value)(lab:Nat->Nat)(h:an_ Wo w bw vts cC cH hs ps xs lab)(i:Nat)(hi:i<ps.length)(a b c d:Int)(s:ByteArray)(lo:Option Addr)(ll lc:Nat)(hss:s.size<=maxLen)(hx:xs.length<=4398046511104)(h3:3<=bw)(ht:ei_ w):
 Calls prog 22 #[.pointer (some ⟨bw,0,none⟩),.agg #[.int .i64 15,.int .i64 a,.int .i64 b,.int .i64 c,.int .i64 d,.string s,.slice lo ll lc],.pointer (some ⟨ps[i].bp,0,none⟩)] w (c3_ Wo bw vts cC hs ps xs.length lab w):=by
 obtain⟨W,F,r,Z,O⟩:=ν w #[.int .i64 15,.int .i64 a,.int .i64 b,.int .i64 c,.int .i64 d,.string s,.slice lo ll lc] 33;obtain⟨x0,x1,x2,x3,x4,x5,x6⟩:=bo_ O;have k:=(h.dy i hi).1;have p:=k.below r;obtain⟨U,V,_,_⟩:=β p.pr;have B:∀j,j<ps[i].n->(ps[i].t j).size<=12:=fun j hj=>by have:=k.ee j hj;simp[ci_]at this;exact this.1
 have E:=an1_ W ps[i].bx ps[i].n ps[i].t ps[i].cx p.px k.le B;have A:∀f,Bl W f->_:=fun f hb=>afs_ f ps[i].br ps[i].n ps[i].ry ps[i].t ps[i].cy (p.py.below hb) k.le k.ee k.dx
 have G:(am_ ps[i].t ps[i].n ps[i].n).length<=100000:=by have:=pr_ ps[i].t ps[i].n B ps[i].n ι;have:=k.le;omega
 have H:0<(am_ ps[i].t ps[i].n ps[i].n).length:=by
  have:ByteArray.empty∈am_ ps[i].t ps[i].n ps[i].n:=by
   have P:∀m,ByteArray.empty∈am_ ps[i].t ps[i].n m:=fun m=>by
    induction m with
    |zero=>simp[am_]
    |succ m ih=>rw[am_];exact mem_append_left _ ih
   exact P _
  exact length_pos_of_mem this
 have z:∀f,Bl W f->f.cell? ⟨ps[i].bp,0,none⟩=some (.pointer (some ⟨ps[i].bx,0,none⟩))/\f.cell? ⟨ps[i].bp,1,none⟩=some (.pointer (some ⟨ps[i].br,0,none⟩)):=fun f hb=>by
  obtain⟨J,K,_,_⟩:=β (p.below hb).pr;exact⟨J,K⟩
 have y:∀f g v u,Bl W f->f.ownsRow W.heap.size 9 1 v (am_ ps[i].t ps[i].n ps[i].n).length (Ζ (am_ ps[i].t ps[i].n ps[i].n))->Bl f g->g.ownsRow f.heap.size 9 1 u (am_ ps[i].t ps[i].n ps[i].n).length (Ζ (am_ ps[i].t ps[i].n ps[i].n))->Calls prog 51 #[.pointer (some ⟨bw,0,none⟩),v,u] g (c3_ Wo bw vts cC hs ps xs.length lab w):=fun f g v u l hv o q=>by
  have aa:=l.size;have I:=r.size;have Q:Bl w g:=(r.trans (l.mono I)).trans (o.mono o_);refine(amk_ Wo w g bw vts cC cH hs ps xs lab h Q hx h3 ht _ G H v u (te_ (ao_ hv o) I) (te_ q o_)).mono ?_;rintro e w' ⟨rfl,R,X,x,T,S⟩;exact⟨rfl,R,X,ps,xs++ [x],T,S,rfl,i_⟩
 obtain⟨Y,C⟩:∃x,Hid (ps[i]=x):=⟨ps[i],by unfold Hid;rfl⟩;rw[C.out]at E A z y U V ⊢;clear h k p C G H B ht;go_enter func22,ntmps22;go_upto_region 1 with fail;rw[<-F];clear F;go_wp2_with (first
  |(go_at_call 49;refine E.mono ?_;rintro e f ⟨l,v,rfl,hv⟩;have N:=A f l;obtain⟨J,K⟩:=z f l;have D:=fun g u=>y f g v u l hv;clear A z y l hv)
  |(go_at_call 50;refine N.mono ?_;rintro e g ⟨o,u,rfl,q⟩;have L:=D g u o q;clear D o q)
  |(go_at_call 51;refine L.mono ?_;rintro e w3 hP;have M:=α hP;obtain rfl:e= .returned (.bool true):=hP.1;clear hP))
 go_ret;exact M.out
def WbS (Wo w:World)(bw N:Nat):Prop:=∃vts cC cH hs ps xs lab,an_ Wo w bw vts cC cH hs ps xs lab/\hs.length<=N/\ps.length<=N/\xs.length<=N
def mk_ (Wo:World)(bw N:Nat)(e:Ending)(w':World):Prop:=e= .returned (.bool true)/\WbS Wo w' bw (N+1)
theorem js_ {hs:List Hd}{ps:List Bk}(h:an_ Wo w bw vts cC cH hs ps xs lab)(h1:hs.length<=N)(h2:ps.length<=N)(h3:xs.length<=N){e:Ending}(hp:hp_ (g9_ Wo w cC cH lab) bw hs.length e w'):mk_ Wo bw N e w':=by
 obtain⟨rfl,c,a,b,d⟩:=hp;exact⟨rfl,c,cC,cH,a,ps,xs,lab,h.tables b,o_,o_,o_⟩
theorem aae_ {ps ps':List Bk}(h:dv_ ps'=dv_ ps):ps'.length=ps.length:=by
 have:=congrArg List.length h;simpa [dv_] using this
theorem amt_:(prog.info? 45).map (fun i=>(i.zero,i.size,i.bytes))=some (some (.pointer none),1,8):=k_
theorem amu_ (Wo w:World)(bw N:Nat)(vts cC cH:Value)(hs:List Hd)(ps:List Bk)(xs:List Value)(lab:Nat->Nat)(h:an_ Wo w bw vts cC cH hs ps xs lab)(h1:hs.length<=N)(h2:ps.length<=N)(h3:xs.length<=N)(hN:N<=4398046511104)(a b c d:Int)(s:ByteArray)(lo:Option Addr)(ll lc:Nat):
 Calls prog 12 #[.pointer (some ⟨bw,0,none⟩),.agg #[.int .i64 10,.int .i64 a,.int .i64 b,.int .i64 c,.int .i64 d,.string s,.slice lo ll lc]] w (mk_ Wo bw N):=by
 obtain⟨i0,Y,aa,ac,ad⟩:=info_parts amt_;obtain⟨W,H,y,ah,D⟩:=ν w #[.int .i64 10,.int .i64 a,.int .i64 b,.int .i64 c,.int .i64 d,.string s,.slice lo ll lc] 33;obtain⟨x0,x1,x2,x3,x4,x5,x6⟩:=bo_ D;have R:=an4_ W (fun _=>ByteArray.empty);have S:∀l,_:=fun l=>al1_ l (fun _=>ByteArray.empty)
 have ai:=κ h.wd.cg;have z:∀l f bx br,Bl W l->W.heap.size<=bx->Θ l bx (fun _=>ByteArray.empty) 0 lh_->Bl l f->l.heap.size<=br->ad_ f br (.slice none 0 0) (fun _=>ByteArray.empty) 0 lh_->
  ((f.alloc (.cells #[.pointer (some ⟨bx,0,none⟩),.pointer (some ⟨br,0,none⟩)] 51)).alloc (.cells #[.pointer (some ⟨f.heap.size,0,none⟩)] 45)).ownsRow (bw+1) 45 1 cC ps.length (dv_ ps)/\bw+1<=f.heap.size/\
  ((f.alloc (.cells #[.pointer (some ⟨bx,0,none⟩),.pointer (some ⟨br,0,none⟩)] 51)).alloc (.cells #[.pointer (some ⟨f.heap.size,0,none⟩)] 45)).cell? ⟨bw,1,none⟩=some cC/\(f.alloc (.cells #[.pointer (some ⟨bx,0,none⟩),.pointer (some ⟨br,0,none⟩)] 51)).cell? ⟨bw,1,none⟩=some cC/\
  ∀g o m,m.ownsRow (bw+1) 45 1 (.slice (some ⟨g,0,none⟩) (ps.length+1) o) (ps.length+1) (dv_ ps++ [.pointer (some ⟨f.heap.size,0,none⟩)])->((f.alloc (.cells #[.pointer (some ⟨bx,0,none⟩),.pointer (some ⟨br,0,none⟩)] 51)).alloc (.cells #[.pointer (some ⟨f.heap.size,0,none⟩)] 45)).grownBy m cC.ownBlock->(cC.ownBlock=some g\/g=((f.alloc (.cells #[.pointer (some ⟨bx,0,none⟩),.pointer (some ⟨br,0,none⟩)] 51)).alloc (.cells #[.pointer (some ⟨f.heap.size,0,none⟩)] 45)).heap.size)->
   m.heap[bw]? =some (.cells #[vts,cC,cH] 31 (0,0))/\(m.setCell ⟨bw,1,none⟩ (.slice (some ⟨g,0,none⟩) (ps.length+1) o)).cell? ⟨f.heap.size,0,none⟩=some (.pointer (some ⟨bx,0,none⟩))/\Hid (mk_ Wo bw N (.returned (.bool true)) (m.setCell ⟨bw,1,none⟩ (.slice (some ⟨g,0,none⟩) (ps.length+1) o))):=by
  intro l f bx br q K v p J x;have s0:=y.size;have s1:=q.size;have s2:=p.size;have E:Bl w f:=(y.trans (q.mono s0)).trans (p.mono o_);have A:Bl w (f.alloc (.cells #[.pointer (some ⟨bx,0,none⟩),.pointer (some ⟨br,0,none⟩)] 51)):=E.alloc o_ _;have G:Bl w ((f.alloc (.cells #[.pointer (some ⟨bx,0,none⟩),.pointer (some ⟨br,0,none⟩)] 51)).alloc (.cells #[.pointer (some ⟨f.heap.size,0,none⟩)] 45)):=A.alloc s_ _;refine⟨(h.below G).dD,o_,(ev_ (h.below G).wd.cg).2.1,(ev_ (h.below A).wd.cg).2.1,fun g o m ho r hf=> ?_⟩;have P:(f.alloc (.cells #[.pointer (some ⟨bx,0,none⟩),.pointer (some ⟨br,0,none⟩)] 51)).heap[f.heap.size]? =some (.cells #[.pointer (some ⟨bx,0,none⟩),.pointer (some ⟨br,0,none⟩)] 51 (0,0)):=ο rfl;have I:Bl f (f.alloc (.cells #[.pointer (some ⟨bx,0,none⟩),.pointer (some ⟨br,0,none⟩)] 51)):=μ.alloc ι _;have X:ct_ (f.alloc (.cells #[.pointer (some ⟨bx,0,none⟩),.pointer (some ⟨br,0,none⟩)] 51)) {bp:=f.heap.size,bx:=bx,br:=br,t:=fun _=>ByteArray.empty,n:=0,ry:= .slice none 0 0,c:=fun _=>shut,c':=fun _=>shut,V:=fun _=>⟨0,0,0,0,0,0,fun _=>0,fun _=>0,fun _=>0⟩,V':=fun _=>⟨0,0,0,0,0,0,fun _=>0,fun _=>0,fun _=>0⟩,M:=fun _=>⟨0,fun _=>false,fun _ _=>0⟩}:=
   ⟨P,by show Θ _ _ _ _ (Ι fun _=>shut);rw[aam_];exact(v.below p).below I,by show ad_ _ _ _ _ _ (Ι fun _=>shut);rw[aam_];exact x.below I,fun i j _ hj=>absurd hj (not_lt_zero _),zero_le _,fun i hi=>absurd hi (not_lt_zero _),fun i _=>kh_.shut _ _ _ _,fun k ⟨_,_,u,_⟩=>by cases u⟩
  obtain⟨k1,ae,k2⟩:=h.ez A X (fun k u=>by
   rcases u with e|e|e|e|e
   . have:k=f.heap.size:=e;omega
   . have:k=bx:=e;omega
   . have:k=br:=e;omega
   . simp[Value.ownBlock]at e
   . obtain⟨_,_,u,_⟩:=e;cases u) ho r hf
  refine⟨k1, ?_,rfl,_,_,_,_,_,_,ae,k2,o_,s_,o_⟩;have T:m.heap[f.heap.size]? =some (.cells #[.pointer (some ⟨bx,0,none⟩),.pointer (some ⟨br,0,none⟩)] 51 (0,0)):=by
   rw[r.block _ s_ (fun e=>by have:=((h.below E).dD.lt _ e.symm).2;omega),Below.heap_alloc _ _ _ i_];exact P
  have U:(m.setCell ⟨bw,1,none⟩ (.slice (some ⟨g,0,none⟩) (ps.length+1) o)).heap[f.heap.size]? =some (.cells #[.pointer (some ⟨bx,0,none⟩),.pointer (some ⟨br,0,none⟩)] 51 (0,0)):=a3_ T s_;exact(β U).1
 obtain⟨ab,cb,Q,_⟩:=Β h.dD;rw[Q]at z;clear h y D Q;go_enter func12,ntmps12;go_upto_region 1 with fail;rw[<-H];clear H;go_wp2_with (first
  |(go_at_call 19;refine R.mono ?_;rintro e l ⟨q,bx,rfl,K,v⟩;have B:=fun f br=>z l f bx br q K v;clear z q v)
  |(go_at_call 20;refine(S l).mono ?_;rintro e f ⟨p,br,rfl,J,x⟩;obtain⟨Z,aj,af,ag,C⟩:=B f br p J x;clear B p x)
  |(at_builtin;refine jh_ _ rfl _ _ 28 rfl (bw+1) 45 i0 (.pointer none) 1 8 underlying28 Y aa ac ad rfl d_ _ ps.length (dv_ ps) rfl Z ⟨f.heap.size+1,0,none⟩ 1 1 [.pointer (some ⟨f.heap.size,0,none⟩)] rfl rfl (by have:=cell_one_new (f.alloc (.cells #[.pointer (some ⟨bx,0,none⟩),.pointer (some ⟨br,0,none⟩)] 51)) (.pointer (some ⟨f.heap.size,0,none⟩)) 45;simpa using this) (gt_ rfl) d_ u_ o_ s_ ?_;intro g o m O r L;obtain⟨f0,z0,F⟩:=C g o m O r L;obtain⟨f1,f2,f3,f4⟩:=ev_ f0;obtain⟨f5,f6⟩:=td_ f0;clear C O r L f0))
 go_ret;exact F.out
theorem tf_ {hs:List Hd}{ps:List Bk}(h:an_ Wo w bw vts cC cH hs ps xs lab){e:Ending}(hp:c3_ Wo bw vts cC hs ps n lab w e w'):
 w'.cell? ⟨bw,1,none⟩=some cC/\(∀k o,lab k=0->k≠bw->k<w.heap.size->w'.cell? ⟨k,o,none⟩=w.cell? ⟨k,o,none⟩)/\(∀g i,cC.ownBlock=some g->i<ps.length->w'.cell? ⟨g,i,none⟩=(dv_ ps)[i]?):=by
 obtain⟨_,d,r,q,s,p,c,b,_⟩:=hp;refine⟨(ev_ c.wd.cg).2.1,fun k o hl hne hk=>World.cell?_of_block (a:=⟨k,o,none⟩) (d.block k hk (by rintro(e|e);exact hne e;exact e hl)),fun g i hg hi=> ?_⟩;have m:=aae_ b;obtain⟨a,j,hv,hs⟩:=Β c.dD;obtain⟨l,e,f⟩:=hs o_;rw[hv,e]at hg;simp only[Value.ownBlock,Δ]at hg;subst hg;rw[<-b];exact f i o_
theorem ki_ (Wo w:World)(bw N:Nat)(vts cC cH:Value)(hs:List Hd)(ps:List Bk)(xs:List Value)(lab:Nat->Nat)(h:an_ Wo w bw vts cC cH hs ps xs lab)(h1:hs.length<=N)(h2:ps.length<=N)(h3:xs.length<=N)(hN:N<=4398046511104)(k:Int)(hk:11<=k/\k<=18)(a b c d:Int)(s:ByteArray)(lo:Option Addr)(ll lc:Nat)(ha:I64 a)
 (HB:∀(W:World) (vb:Value) (p:Nat) (hp:p<ps.length),Bl w W->an_ Wo W bw vts vb cH hs ps xs lab->Calls prog 22 #[.pointer (some ⟨bw,0,none⟩),.agg #[.int .i64 k,.int .i64 a,.int .i64 b,.int .i64 c,.int .i64 d,.string s,.slice lo ll lc],.pointer (some ⟨ps[p].bp,0,none⟩)] W (c3_ Wo bw vts vb hs ps xs.length lab W)):
 Calls prog 12 #[.pointer (some ⟨bw,0,none⟩),.agg #[.int .i64 k,.int .i64 a,.int .i64 b,.int .i64 c,.int .i64 d,.string s,.slice lo ll lc]] w (mk_ Wo bw N):=by
 obtain⟨W,C,t,M,B⟩:=ν w #[.int .i64 k,.int .i64 a,.int .i64 b,.int .i64 c,.int .i64 d,.string s,.slice lo ll lc] 33;obtain⟨R,S,T,U,V,X,Y⟩:=bo_ B;have n:=h.below t;obtain⟨y0,u,y2,y3⟩:=ev_ n.wd.cg;replace u:W.cell? ⟨bw,1,none⟩=some cC:=u;obtain⟨al,m,rfl,D⟩:=Β n.dD;have q1:(k==1)=false:=by rw[bq_];omega
 have q2:(k==2)=false:=by rw[bq_];omega
 have q8:(k==8)=false:=by rw[bq_];omega
 have q9:(k==9)=false:=by rw[bq_];omega
 have af:(k==10)=false:=by rw[bq_];omega
 have r0:3<=k:=o_;have r2:¬k<=7:=o_;go_enter func12,ntmps12;go_upto_region 1 with fail;rw[<-C];clear C;by_cases L:ps.length=0
 . rw[L]at u;have H:=α n;go_wp2_with fail;go_ret;exact⟨rfl,_,_,_,_,_,_,_,H.out,o_,o_,o_⟩
 . obtain⟨j,rfl,E⟩:=D o_;obtain⟨i,y⟩:=δ (f2_ a ps.length);have r:i<ps.length:=by rw[<-y.out];exact jo_ _ _ o_
   have v:=jp_ a ps.length W.drew o_ o_ ha.1 ha.2;rw[tn_,y.out]at v;have Z:=(E i o_).trans (mh_ ps i r);have q:an_ Wo W.drew bw vts (.slice (some ⟨j,0,none⟩) ps.length m) cH hs ps xs lab:=n.below (μ.drew);have z:=HB W.drew _ i r t.drew q;have F:lab w.heap.size=0:=by
    by_cases e:lab w.heap.size=0
    . exact e
    . have:=h.lt _ e;omega
   have aa:=κ h.wd.cg;have l:∀f,Hid (c3_ Wo bw vts (.slice (some ⟨j,0,none⟩) ps.length m) hs ps xs.length lab W.drew (.returned (.bool true)) f)->∀o,f.cell? ⟨w.heap.size,o,none⟩=W.cell? ⟨w.heap.size,o,none⟩:=fun f g o=>(tf_ q g.out).2.1 w.heap.size o F o_ M
   have A:∀f,Hid (c3_ Wo bw vts (.slice (some ⟨j,0,none⟩) ps.length m) hs ps xs.length lab W.drew (.returned (.bool true)) f)->f.cell? ⟨bw,1,none⟩=some (.slice (some ⟨j,0,none⟩) ps.length m)/\f.cell? ⟨j,i,none⟩=some (.pointer (some ⟨ps[i].bp,0,none⟩)):=fun f g=>⟨(tf_ q g.out).1,((tf_ q g.out).2.2 j i rfl r).trans (mh_ ps i r)⟩
   have J:∀f,Hid (c3_ Wo bw vts (.slice (some ⟨j,0,none⟩) ps.length m) hs ps xs.length lab W.drew (.returned (.bool true)) f)->Hid (mk_ Wo bw N (.returned (.bool true)) f):=fun f g=>by
    obtain⟨_,_,ag,ae,ah,ad,P,O,hx⟩:=g.out;exact⟨rfl,_,_,_,_,_,_,_,P,o_,by have:=aae_ O;omega,o_⟩
   obtain⟨K,G⟩:∃x,Hid (ps[i]=x):=⟨ps[i],by unfold Hid;rfl⟩;rw[G.out]at Z z A;have ac:((ps.length:Int)==0)=false:=by rw[bq_];omega
   have ab:(i:Int)<(ps.length:Int):=o_;clear HB h n q E D F t B;go_wp2_with fail;go_region_held3 (fun f=>f.cell? ⟨bw,1,none⟩=some (.slice (some ⟨j,0,none⟩) ps.length m)/\f.cell? ⟨w.heap.size,0,none⟩=some (.int .i64 k)/\f.cell? ⟨w.heap.size,1,none⟩=some (.int .i64 a)/\f.cell? ⟨w.heap.size,2,none⟩=some (.int .i64 b)/\f.cell? ⟨w.heap.size,3,none⟩=some (.int .i64 c)/\f.cell? ⟨w.heap.size,4,none⟩=some (.int .i64 d)/\f.cell? ⟨w.heap.size,5,none⟩=some (.string s)/\f.cell? ⟨w.heap.size,6,none⟩=some (.slice lo ll lc)/\f.cell? ⟨j,i,none⟩=some (.pointer (some ⟨K.bp,0,none⟩))) (go_keep)
    ((first
     |(go_at_call 16;refine v.mono ?_;rintro e f ⟨rfl,Q⟩;obtain rfl:W.drew=f:=Q.symm)
     |(go_at_call 22;refine z.mono ?_;rintro e f hP;obtain rfl:e= .returned (.bool true):=hP.1;have g:=α hP;have k0:=(l f g 0).trans R;have k1:=(l f g 1).trans S;have k2:=(l f g 2).trans T;have k3:=(l f g 3).trans U;have k4:=(l f g 4).trans V;have k5:=(l f g 5).trans X;have k6:=(l f g 6).trans Y;obtain⟨k7,k8⟩:=A f g;have I:=J f g;clear hP g)))
   all_goals go_wp2_with fail
   all_goals go_ret
   all_goals exact I.out
theorem WbS.eC (h:WbS Wo w bw N):Below bw Wo w:=by
 obtain⟨f,e,g,b,d,i,c,a,_⟩:=h;exact a.wd.cz
theorem WbS.below (h:WbS Wo w bw N)(hb:Bl w w'):WbS Wo w' bw N:=by
 obtain⟨f,e,g,a,d,i,c,b,l⟩:=h;exact⟨f,e,g,a,d,i,c,b.below hb,l⟩
theorem WbS.more (h:WbS Wo w bw N):WbS Wo w bw (N+1):=by
 obtain⟨f,e,g,a,d,i,c,b,j,k,l⟩:=h;exact⟨f,e,g,a,d,i,c,b,o_,o_,o_⟩
theorem WbS.looks (h:WbS Wo w Wo.heap.size N)(hN:N<=4398046511104)(h3:3<=Wo.heap.size)(ht:ei_ Wo):
 Calls prog 13 #[.pointer (some ⟨Wo.heap.size,0,none⟩)] w fun e w'=>e= .returned (.bool true)/\Bl w w':=by
 obtain⟨g,f,i,b,d,j,c,a,k,l,m⟩:=h;exact aml_ Wo w _ g f i b d j c a o_ o_ h3 (ht.below h3 a.wd.cz)
theorem amv_ (ao:Option Addr)(len cap:Nat)(kd fa fb fc fd:Nat->Int)(st:Nat->ByteArray)(lo:Nat->Option Addr)(ll lc:Nat->Nat)(z:Nat->Nat->Int)(w:World)(h:nz_ w ao len kd fa fb fc fd st lo ll lc z)
 (bk nk ck:Nat) (ks:Nat->Int) (hk:∀j,j<nk->w.cell? ⟨bk,j,none⟩=some (.int .i64 (ks j))) (hnk:nk<=100) (h3:3<=w.heap.size) (hpt:ei_ w)
 (HS:∀i,i<len->inB (kd i) ks nk=true->∀w':World,Bl w w'->WbS w w' w.heap.size i->
  Calls prog 12 #[.pointer (some ⟨w.heap.size,0,none⟩),.agg #[.int .i64 (kd i),.int .i64 (fa i),.int .i64 (fb i),.int .i64 (fc i),.int .i64 (fd i),.string (st i),.slice (lo i) (ll i) (lc i)]] w' (mk_ w w.heap.size i)):
 Calls prog 11 #[.slice ao len cap,.slice (some ⟨bk,0,none⟩) nk ck] w fun e w'=>e= .returned (.bool true)/\Bl w w':=by
 have V:=h.ln;have C:WbS w (w.alloc (.cells #[.slice none 0 0,.slice none 0 0,.slice none 0 0] 31)) w.heap.size 0:=
  ⟨.slice none 0 0,.slice none 0 0,.slice none 0 0,[],[],[],fun _=>0,⟨⟨μ.alloc ι _,ο rfl,a8_,fun d hd=>by simp at hd,fun d hd=>by simp at hd,List.Pairwise.nil,fun g e=>by simp[Value.ownBlock]at e,fun k o e=>by simp[g9_]at e⟩,a8_,a8_,fun i m=>by simp at m,fun i m=>by simp at m,fun g e=>by simp[Value.ownBlock]at e,fun g e=>by simp[Value.ownBlock]at e,fun k hl=>absurd rfl hl⟩,i_,i_,i_⟩
 go_enter func11,ntmps11;go_wp2_with fail;go_loopw [6,7,8,9] (fun i' _ _ _ wr=>∃i:Nat,i<=len/\i'= .int .i64 i/\WbS w wr w.heap.size i) (fun i' _ _ _ _=>len - (intOf i').toNat)
 case atStart=>exact⟨0,o_,rfl,C⟩
 case round=>
  obtain⟨i,m,rfl,a⟩:=hrel;clear C;by_cases D:i<len
  . obtain⟨b,o,rfl,J,P,Q,R,S,T,U⟩:=(h.below a.eC).cT i D;have F:Hid (∀j,j<nk->wr.cell? ⟨bk,j,none⟩=some (.int .i64 (ks j))):=fun j x=>by rw[(bc_ a.eC).1 _ _ (Χ (hk j x))];exact hk j x
    have r:=α a;have H:Hid _:=HS i D;clear a h HS hk;obtain⟨k,p⟩:=δ (kd i);rw[p.out]at J;rename World=>wo
    go_upto_region 5 with fail;go_cut [7] (fun v wc=>v= .bool (inB k ks 0)/\wc=wo)
    case first=>
     by_cases E:k=1
     . subst E;go_wp2_with fail;go_meet
       exact⟨rfl,rfl⟩
     . have L:(k==1)=false:=by simp[E]
       go_wp2_with fail;go_meet
       exact⟨by simp[inB,L],rfl⟩
    case rest=>
     obtain⟨rfl,N⟩:=hcut;obtain rfl:wo=wc:=N.symm;go_wp2_with fail;go_loopw [7,8] (fun v j' wr=>∃j q:Nat,j<=nk/\v= .bool (inB k ks j)/\j'= .int .i64 j/\wr=wo.drewN q) (fun _ j' _=>nk - (intOf j').toNat)
     case atStart=>exact⟨0,0,o_,rfl,rfl,rfl⟩
     case round=>
      obtain⟨j,q,x,rfl,rfl,rfl⟩:=hrel;by_cases M:j<nk
      . have d0:=F.out j M;obtain⟨O,A⟩:=δ (ks j);rw[A.out]at d0;obtain⟨l,c⟩:=δ (inB k ks j);rw[c.out];have B:Hid (inB k ks (j+1)=(l||(k==O))):=by unfold Hid;simp only[inB];rw[c.out,A.out]
        cases l
        . go_wp2_with fail;go_quiet (fail);go_wp2_with fail;go_roundw
          case rel=>exact⟨j+1,_,o_,by rw[B.out];simp,by go_num,rfl⟩
          case measure=>exact c_
        . go_wp2_with fail;go_quiet (fail);go_wp2_with fail;go_roundw
          case rel=>exact⟨j+1,_,o_,by rw[B.out];simp,by go_num,rfl⟩
          case measure=>exact c_
      . have u:j=nk:=o_;subst u;obtain⟨l,c⟩:=δ (inB k ks j);rw[c.out];have f:=r.out.below (below_drewN μ q);have s:Bl w (wo.drewN q):=f.eC;cases l
        . have G:=α f;clear f s;go_wp2_with fail;go_roundw
          case rel=>exact⟨i+1,o_,by go_num,G.out.more⟩
          case measure=>exact c_
        . have n:=H.out (by rw[p.out];exact c.out) (wo.drewN q) s f;rw[p.out]at n;clear f s;go_wp2_with fail;refine Calls.mono n ?_;rintro e W ⟨rfl,t⟩;have y:=t.looks o_ h3 hpt;have I:=α t;clear n t;go_wp2_with fail;refine y.mono ?_;rintro e X ⟨rfl,K⟩;clear y;go_wp2_with fail;go_roundw
          case rel=>exact⟨i+1,o_,by go_num,I.out.below K⟩
          case measure=>exact c_
  . have u:i=len:=o_;subst u;have r:=α a;clear a h HS hk;go_wp2_with fail;go_ret;exact⟨rfl,r.out.eC⟩
end Go.Proofs.YtpngikmcjkjdaaaGreatDoor
