import Derived.Test.YtpngikmcjkjdaaaGreatDoorG0
import Derived.Test.YtpngikmcjkjdaaaGreatDoorG40
import Derived.Test.YtpngikmcjkjdaaaGreatDoorG41
import Derived.Test.YtpngikmcjkjdaaaGreatDoorG9
set_option linter.unusedVariables false
set_option linter.unusedSimpArgs false
set_option maxRecDepth 20000
set_option maxHeartbeats 80000000
namespace Go.Proofs.YtpngikmcjkjdaaaGreatDoor
open Go.RowKit Tryz
theorem f8_ {w w':World}{base e s n:Nat}{v:Value}{x:List Value}(ho:w.ownsRow base e s v n x)(hk:∀g,v.ownBlock=some g->w'.heap[g]? =w.heap[g]?):w'.ownsRow base e s v n x:=by
 refine⟨ho.1, ?_⟩;rcases ho.2 with ⟨rfl,hn⟩|⟨g,cap,cur,rfl,hb,hg,r⟩
 . exact .inl ⟨rfl,hn⟩
 . exact .inr ⟨g,cap,cur,rfl,hb,by rw[hk g rfl];exact hg,r⟩
def Lay.Has (V:Lay)(n k:Nat):Prop:=k=V.ba\/k=V.bn\/∃i,i<n/\k=V.rb i
theorem lc_ {w w':World}{b o:Nat}{v:Value}(h:w.cell? ⟨b,o,none⟩=some v)(hk:w'.heap[b]? =w.heap[b]?):w'.cell? ⟨b,o,none⟩=some v:=by
 simp only[World.cell?]at h ⊢;rw[hk];exact h
theorem av_.keepB {w w':World}{V:Lay}{M:Tab}(h:av_ w V M)(hk:∀k,V.Has M.n k->w'.heap[k]? =w.heap[k]?):av_ w' V M:=
 ⟨fun i hi=>lc_ (h.acc i hi) (hk _ (.inl rfl)),fun i hi=>lc_ (h.row i hi) (hk _ (.inr (.inl rfl))),fun i c hi hc=>lc_ (h.cel i c hi hc) (hk _ (.inr (.inr ⟨i,hi,rfl⟩)))⟩
theorem av_.has_lt {w:World}{V:Lay}{M:Tab}(h:av_ w V M)(hM:M.Ok){k:Nat}(hk:V.Has M.n k):k<w.heap.size:=by
 have:=hM.lo;rcases hk with rfl|rfl|⟨i,hi,rfl⟩
 . exact an_ (h.acc 0 o_)
 . exact an_ (h.row 0 o_)
 . exact an_ (h.cel i 0 hi o_)
structure jl_ (w:World)(x y:Cu)(V V':Lay)(M:Tab):Prop where
 op:x.op=y.op
 bg:x.bg=y.bg
 la:x.la=y.la
 tab:x.op=true->M.Ok/\av_ w V M/\av_ w V' M/\(x.vA= .slice (some ⟨V.ba,V.oa,none⟩) M.n V.ca/\x.vN= .slice (some ⟨V.bn,V.on,none⟩) M.n V.cn)/\(y.vA= .slice (some ⟨V'.ba,V'.oa,none⟩) M.n V'.ca/\y.vN= .slice (some ⟨V'.bn,V'.on,none⟩) M.n V'.cn)
theorem jl_.shut (w:World)(V V':Lay)(M:Tab):jl_ w shut shut V V' M:=⟨rfl,rfl,rfl,fun h=>by cases h⟩
structure Bk where
 bp:Nat
 bx:Nat
 br:Nat
 t:Nat->ByteArray
 n:Nat
 ry:Value
 c:Nat->Cu
 c':Nat->Cu
 V:Nat->Lay
 V':Nat->Lay
 M:Nat->Tab
def Bk.cx (d:Bk):Nat->Value:=cuv d.c
def Bk.cy (d:Bk):Nat->Value:=cuv d.c'
def Bk.more (d:Bk)(k:Nat):Prop:=∃i,i<4/\(d.c i).op=true/\((d.V i).Has (d.M i).n k\/(d.V' i).Has (d.M i).n k)
def Bk.cur (d:Bk)(w:World):Prop:=∀i,i<4->jl_ w (d.c i) (d.c' i) (d.V i) (d.V' i) (d.M i)
theorem Bk.cst (d:Bk)(w1 w2:World)(h:d.cur w1)(hk:∀k,d.more k->w2.heap[k]? =w1.heap[k]?):d.cur w2:=fun i hi=>by
 obtain⟨h1,h2,h3,h4⟩:=h i hi;refine⟨h1,h2,h3,fun ho=> ?_⟩;obtain⟨k1,k2,k3,k4,k5⟩:=h4 ho;exact⟨k1,k2.keepB (fun k hh=>hk k ⟨i,hi,ho,.inl hh⟩),k3.keepB (fun k hh=>hk k ⟨i,hi,ho,.inr hh⟩),k4,k5⟩
def Bk.foot (d:Bk)(k:Nat):Prop:=k=d.bp\/k=d.bx\/k=d.br\/d.ry.ownBlock=some k\/d.more k
structure BkAt (w:World)(d:Bk):Prop where
 pr:w.heap[d.bp]? =some (.cells #[.pointer (some ⟨d.bx,0,none⟩),.pointer (some ⟨d.br,0,none⟩)] 51 (0,0))
 px:BxAt w d.bx d.t d.n d.cx
 py:ByAt w d.br d.ry d.t d.n d.cy
 srt:SrtB d.t d.n
 le:d.n<=60
 tun:∀i,i<d.n->de_ (d.t i)=true
 cu:d.cur w
 mo:∀k,d.more k->k<w.heap.size/\k≠d.bp/\k≠d.bx/\k≠d.br
theorem tr_ {w:World}{b t n:Nat}{f:Nat->Value}(h:w.rowIs b t n f):∃c,w.heap[b]? =some (.cells c t (0,0)):=by
 obtain⟨c,hb,_⟩:=h;exact⟨c,hb⟩
theorem n0_ {w:World}{base e s n g:Nat}{v:Value}{x:List Value}(h:w.ownsRow base e s v n x)(hg:v.ownBlock=some g):∃c,w.heap[g]? =some (.cells c e (0,0)):=by
 rcases h.2 with ⟨rfl,_⟩|⟨g',cap,cur,rfl,_,h2,_⟩
 . simp[Value.ownBlock]at hg
 . simp only[Value.ownBlock,Option.some.injEq]at hg;subst hg;exact⟨_,h2⟩
theorem ig_ {w:World}{a b t u:Nat}{c d:Array Value}(h1:w.heap[a]? =some (.cells c t (0,0)))(h2:w.heap[b]? =some (.cells d u (0,0)))(hne:t≠u):a≠b:=by
 rintro rfl;rw[h1]at h2;injection h2 with h2;injection h2 with _ h2;exact hne h2
theorem BkAt.lt {w:World}{d:Bk}(h:BkAt w d)(k:Nat)(hk:d.foot k):k<w.heap.size:=by
 rcases hk with rfl|rfl|rfl|hk|hk
 . exact ac_ h.pr
 . exact World.rowIs.lt h.px
 . exact World.rowIs.lt h.py.1
 . exact(h.py.2.lt k hk).2
 . exact(h.mo k hk).1
theorem BkAt.apart {w:World}{d:Bk}(h:BkAt w d):d.bp≠d.bx/\d.bp≠d.br/\d.bx≠d.br/\d.ry.ownBlock≠some d.bp/\d.ry.ownBlock≠some d.bx/\d.ry.ownBlock≠some d.br:=by
 obtain⟨c1,e1⟩:=tr_ h.px;obtain⟨c2,e2⟩:=tr_ h.py.1;refine⟨ig_ h.pr e1 d_,ig_ h.pr e2 d_,ig_ e1 e2 d_,fun e=> ?_,fun e=> ?_,fun e=> ?_⟩
 . obtain⟨c,e3⟩:=n0_ h.py.2 e;exact ig_ e3 h.pr d_ rfl
 . obtain⟨c,e3⟩:=n0_ h.py.2 e;exact ig_ e3 e1 d_ rfl
 . obtain⟨c,e3⟩:=n0_ h.py.2 e;exact ig_ e3 e2 d_ rfl
theorem BkAt.keep {w w':World}{d:Bk}(h:BkAt w d)(hk:∀k,d.foot k->w'.heap[k]? =w.heap[k]?):BkAt w' d where
 pr:=by rw[hk _ (.inl rfl)];exact h.pr
 px:=World.rowIs.of_block h.px (hk _ (.inr (.inl rfl)))
 py:=⟨World.rowIs.of_block h.py.1 (hk _ (.inr (.inr (.inl rfl)))),f8_ h.py.2 (fun g e=>hk _ (.inr (.inr (.inr (.inl e)))))⟩
 srt:=h.srt
 le:=h.le
 tun:=h.tun
 cu:=d.cst w w' h.cu (fun k hm=>hk _ (.inr (.inr (.inr (.inr hm)))))
 mo:=fun k hm=>⟨ac_ ((hk k (.inr (.inr (.inr (.inr hm))))).trans (Array.getElem?_eq_getElem (h.mo k hm).1)),(h.mo k hm).2⟩
theorem BkAt.below {w w':World}{d:Bk}(h:BkAt w d)(hb:Below w.heap.size w w'):BkAt w' d:=h.keep (fun k hk=>hb.block k (h.lt k hk))
theorem BkAt.stepX {w w1:World}{d:Bk}(h:BkAt w d)(ht:ab_ (fun k=>k=d.bx) w w1):w1.heap[d.bp]? =some (.cells #[.pointer (some ⟨d.bx,0,none⟩),.pointer (some ⟨d.br,0,none⟩)] 51 (0,0))/\ByAt w1 d.br d.ry d.t d.n d.cy:=by
 obtain⟨a1,a2,a3,a4,a5,a6⟩:=h.apart;exact⟨ht.heap h.pr a1,World.rowIs.of_block h.py.1 (ht.block _ (World.rowIs.lt h.py.1) (fun e=>a3 e.symm)),f8_ h.py.2 (fun g e=>ht.block g (h.py.2.lt g e).2 (fun e'=>a5 (by rw[e,e'])))⟩
theorem BkAt.step {w w1 w2:World}{d:Bk}(h:BkAt w d){t':Nat->ByteArray}{n':Nat}{ry':Value}(ht1:ab_ (fun k=>k=d.bx) w w1)(hx:BxAt w1 d.bx t' n' d.cx)(ht2:ab_ (fun k=>k=d.br) w1 w2)(hy:ByAt w2 d.br ry' t' n' d.cy)
 (hs:SrtB t' n') (hl:n'<=60) (htu:∀i,i<n'->de_ (t' i)=true):BkAt w2 {d with t:=t',n:=n',ry:=ry'} where
 pr:=ht2.heap (h.stepX ht1).1 h.apart.2.1
 px:=World.rowIs.of_block hx (ht2.block _ (World.rowIs.lt hx) h.apart.2.2.1)
 py:=hy
 srt:=hs
 le:=hl
 tun:=htu
 cu:=d.cst w w2 h.cu (fun k hm=>(ht2.block k (Nat.lt_of_lt_of_le (h.mo k hm).1 ht1.size) (h.mo k hm).2.2.2).trans (ht1.block k (h.mo k hm).1 (h.mo k hm).2.2.1))
 mo:=fun k hm=>⟨Nat.lt_of_lt_of_le (h.mo k hm).1 (Nat.le_trans ht1.size ht2.size),(h.mo k hm).2⟩
def TxAt (w:World)(v:Value)(k:Nat):Prop:=v= .slice none 0 0\/∃g m,v= .slice (some ⟨g,0,none⟩) m m/\m<=maxLen/\w.rowIs g 9 m (fun _=> .string (fw_ k))
theorem TxAt.keep {w w':World}{v:Value}{k:Nat}(h:TxAt w v k)(hk:∀g,v.ownBlock=some g->w'.heap[g]? =w.heap[g]?):TxAt w' v k:=by
 rcases h with h|⟨g,m,rfl,hm,h⟩
 . exact .inl h
 . exact .inr ⟨g,m,rfl,hm,World.rowIs.of_block h (hk g rfl)⟩
theorem TxAt.lt {w:World}{v:Value}{k g:Nat}(h:TxAt w v k)(hg:v.ownBlock=some g):g<w.heap.size:=by
 rcases h with rfl|⟨g',m,rfl,hm,h⟩
 . simp[Value.ownBlock]at hg
 . simp only[Value.ownBlock,Option.some.injEq]at hg;subst hg;exact World.rowIs.lt h
def dm_ (ps:List Bk):List Value:=ps.map fun d=> .pointer (some ⟨d.bp,0,none⟩)
theorem hc_ (ps:List Bk)(i:Nat)(h:i<ps.length):(dm_ ps)[i]? =some (.pointer (some ⟨ps[i].bp,0,none⟩)):=by simp[dm_,h]
theorem xg_ (ps:List Bk)(d:Bk):dm_ ps++ [.pointer (some ⟨d.bp,0,none⟩)]=dm_ (ps++ [d]):=by simp[dm_]
def frOf (Wo w:World)(vbs vtx:Value)(lab:Nat->Nat):Fw:=⟨Wo,vbs,vtx,fun k=>if lab k=0 then none else w.heap[k]?⟩
structure WbAt (Wo w:World)(bw:Nat)(vts vbs vtx:Value)(hs:List Hd)(ps:List Bk)(xs:List Value)(lab:Nat->Nat):Prop where
 wd:WdAt (frOf Wo w vbs vtx lab) w bw vts hs
 ownB:w.ownsRow (bw+1) 45 1 vbs ps.length (dm_ ps)
 ownX:w.ownsRow (bw+1) 56 1 vtx xs.length xs
 bks:∀i (h:i<ps.length),BkAt w ps[i]/\∀k,ps[i].foot k->lab k=3+2*i
 txs:∀i (h:i<xs.length),TxAt w xs[i] i/\∀g,xs[i].ownBlock=some g->lab g=4+2*i
 lB:∀g,vbs.ownBlock=some g->lab g=1
 lX:∀g,vtx.ownBlock=some g->lab g=2
 lt:∀k,lab k≠0->k<w.heap.size
theorem WbAt.tables {Wo w w':World}{bw:Nat}{vts vbs vtx vts':Value}{hs hs':List Hd}{ps:List Bk}{xs:List Value}{lab:Nat->Nat}(h:WbAt Wo w bw vts vbs vtx hs ps xs lab)(h':WdAt (frOf Wo w vbs vtx lab) w' bw vts' hs'):
 WbAt Wo w' bw vts' vbs vtx hs' ps xs lab:=by
 have hk:∀k,lab k≠0->w'.heap[k]? =w.heap[k]? :=by
  intro k hl;have hlt:=h.lt k hl;obtain⟨o,ho⟩:∃o,w.heap[k]? =some o:=⟨_,Array.getElem?_eq_getElem hlt⟩;have:=(h'.frm k o (by simp[frOf,hl,ho])).1;rw[this,ho]
 have hfr:frOf Wo w' vbs vtx lab=frOf Wo w vbs vtx lab:=by
  unfold frOf;congr 1
  funext k;by_cases e:lab k=0
  . simp[e]
  . simp[e,hk k e]
 refine⟨by rw[hfr];exact h',f8_ h.ownB (fun g e=>hk g (by rw[h.lB g e];omega)),f8_ h.ownX (fun g e=>hk g (by rw[h.lX g e];omega)),fun i hi=> ?_,fun i hi=> ?_,h.lB,h.lX,fun k hl=>ac_ ((hk k hl).trans (Array.getElem?_eq_getElem (h.lt k hl)))⟩
 . exact⟨(h.bks i hi).1.keep (fun k hf=>hk k (by rw[(h.bks i hi).2 k hf];omega)),(h.bks i hi).2⟩
 . exact⟨(h.txs i hi).1.keep (fun g e=>hk g (by rw[(h.txs i hi).2 g e];omega)),(h.txs i hi).2⟩
theorem WbAt.below {Wo w w':World}{bw:Nat}{vts vbs vtx:Value}{hs:List Hd}{ps:List Bk}{xs:List Value}{lab:Nat->Nat}(h:WbAt Wo w bw vts vbs vtx hs ps xs lab)(hb:Below w.heap.size w w'):WbAt Wo w' bw vts vbs vtx hs ps xs lab:=
 h.tables (h.wd.below hb)
theorem WdAt.reframe {F F':Fw}{w w':World}{bw:Nat}{vts:Value}{hs:List Hd}{S:Nat->Prop}(h:WdAt F w bw vts hs)(hT:ab_ S w w')(hS:∀k,S k->k=bw\/(bw<k/\vts.ownBlock≠some k/\∀d∈hs,k<d.lo\/d.hi<=k))(hwo:F'.wo=F.wo)
 (hblk:w'.heap[bw]? =some (.cells #[vts,F'.vbs,F'.vtx] 31 (0,0))) (hfr:∀k o,F'.fr k=some o->w'.heap[k]? =some o/\(F.fr k≠none\/w.heap.size<=k)):WdAt F' w' bw vts hs:=by
 have hsz:=ac_ h.blk;refine⟨by rw[hwo];exact hT.below h.blw o_ (fun k hk=>by rcases hS k hk with e|⟨e,_⟩<;>omega),hblk,hT.own h.own (fun g e hg=> ?_),fun d hd=> ?_,h.lo,h.ord,h.tsf,fun k o hk=> ?_⟩
 . rcases hS g hg with e'|⟨_,e',_⟩
   . have:=(h.own.lt g e).1;omega
   . exact e' e
 . refine(h.hds d hd).keep (fun k hk1 hk2=>hT.block k (Nat.lt_of_lt_of_le hk2 (h.hds d hd).siz) (fun hk=> ?_)) hT.size;have:=h.lo d hd;rcases hS k hk with e'|⟨_,_,e'⟩
   . omega
   . have:=e' d hd;omega
 . obtain⟨h1,h2⟩:=hfr k o hk;refine⟨h1, ?_⟩;rcases h2 with h2|h2
   . obtain⟨o',ho'⟩:=Option.ne_none_iff_exists'.1 h2;exact(h.frm k o' ho').2
   . refine⟨o_,fun e=> ?_,fun d hd=> ?_⟩
     . have:=(h.own.lt k e).2;omega
     . right;have:=(h.hds d hd).siz;omega
theorem xh_ {w:World}{b:Nat}{x y z u:Value}{t:TypeId}(h:w.heap[b]? =some (.cells #[x,y,z] t (0,0))):(w.setCell ⟨b,1,none⟩ u).heap[b]? =some (.cells #[x,u,z] t (0,0)):=by
 simp[World.setCell,Array.getElem?_modify,h]
theorem xi_ {w:World}{b:Nat}{x y z u:Value}{t:TypeId}(h:w.heap[b]? =some (.cells #[x,y,z] t (0,0))):(w.setCell ⟨b,2,none⟩ u).heap[b]? =some (.cells #[x,y,u] t (0,0)):=by
 simp[World.setCell,Array.getElem?_modify,h]
section
variable {Wo w w1 w2 w':World} {bw:Nat} {vts vbs vtx:Value} {hs:List Hd} {ps:List Bk} {xs:List Value} {lab:Nat->Nat}
theorem WbAt.out (h:WbAt Wo w bw vts vbs vtx hs ps xs lab)(k:Nat)(hl:lab k≠0):bw<k/\vts.ownBlock≠some k/\∀d∈hs,k<d.lo\/d.hi<=k:=by
 obtain⟨o,ho⟩:∃o,w.heap[k]? =some o:=⟨_,Array.getElem?_eq_getElem (h.lt k hl)⟩;exact(h.wd.frm k o (by simp[frOf,hl,ho])).2
theorem WbAt.fr (h:WbAt Wo w bw vts vbs vtx hs ps xs lab)(k:Nat)(hl:lab k≠0):(frOf Wo w vbs vtx lab).fr k≠none:=by
 simp only[frOf,if_neg hl,ne_eq,Array.getElem?_eq_none_iff];have:=h.lt k hl;omega
theorem WbAt.relabel (h:WbAt Wo w bw vts vbs vtx hs ps xs lab){S:Nat->Prop}(hT:ab_ S w w')(hS:∀k,S k->k=bw\/lab k≠0){vbs' vtx':Value}{lab':Nat->Nat}(hblk:w'.heap[bw]? =some (.cells #[vts,vbs',vtx'] 31 (0,0)))(hl:∀k,lab' k≠0->lab k≠0\/w.heap.size<=k):
 WdAt (frOf Wo w' vbs' vtx' lab') w' bw vts hs:=by
 refine h.wd.reframe hT (fun k hk=> ?_) rfl hblk (fun k o hk=> ?_)
 . rcases hS k hk with e|e
   . exact .inl e
   . exact .inr (h.out k e)
 . by_cases e:lab' k=0
   . simp[frOf,e]at hk
   . simp only[frOf,if_neg e]at hk;exact⟨hk,(hl k e).imp (h.fr k) id⟩
open Classical in
theorem WbAt.bookL (h:WbAt Wo w bw vts vbs vtx hs ps xs lab){i:Nat}(hi:i<ps.length){d':Bk}(hT:ab_ (fun k=>lab k=3+2*i) w w')(hd:BkAt w' d')(hbp:d'.bp=ps[i].bp)(hf:∀k,d'.foot k->lab k=3+2*i\/w.heap.size<=k):
 ∃lab',WbAt Wo w' bw vts vbs vtx hs (ps.set i d') xs lab'/\∀k,lab' k≠0->lab k≠0\/w.heap.size<=k:=by
 refine⟨fun k=>if w.heap.size<=k/\d'.foot k then 3+2*i else lab k, ?_,fun k hl=> ?_⟩;rotate_left
 . by_cases e:w.heap.size<=k/\d'.foot k
   . exact .inr e.1
   . simp only[if_neg e]at hl;exact .inl hl
 have hold:∀k,lab k≠0->(if w.heap.size<=k/\d'.foot k then 3+2*i else lab k)=lab k:=by
  intro k hl;have:=h.lt k hl;rw[if_neg o_]
 have hkeep:∀k,lab k≠0->lab k≠3+2*i->w'.heap[k]? =w.heap[k]? :=fun k hl hne=>hT.block k (h.lt k hl) hne
 have hbw:lab bw=0:=by
  by_cases e:lab bw=0
  . exact e
  . have:=(h.out bw e).1;omega
 have hblk:=hT.heap h.wd.blk (by rw[hbw];omega);have hp:dm_ (ps.set i d')=dm_ ps:=by
  apply List.ext_getElem?;intro j;by_cases hj:j<ps.length
  . rw[hc_ ps j hj,hc_ _ j (by simpa using hj)];by_cases e:i=j
    . subst e;simp[hbp]
    . rw[List.getElem_set_ne e]
  . rw[List.getElem?_eq_none (by simp[dm_];omega),List.getElem?_eq_none (by simp[dm_];omega)]
 refine⟨h.relabel hT (fun k hk=> .inr (by rw[hk];omega)) hblk (fun k hl=> ?_), ?_,f8_ h.ownX (fun g e=>hkeep g (by rw[h.lX g e];omega) (by rw[h.lX g e];omega)),fun j hj=> ?_,fun j hj=> ?_,fun g e=> ?_,fun g e=> ?_,fun k hl=> ?_⟩
 . by_cases e:w.heap.size<=k/\d'.foot k
   . exact .inr e.1
   . rw[if_neg e]at hl;exact .inl hl
 . rw[hp,List.length_set];exact f8_ h.ownB (fun g e=>hkeep g (by rw[h.lB g e];omega) (by rw[h.lB g e];omega))
 . have hj':j<ps.length:=by simpa using hj
   by_cases e:i=j
   . subst e;rw[List.getElem_set_self];refine⟨hd,fun k hk=> ?_⟩;rcases hf k hk with e|e
     . rw[hold k (by rw[e];omega),e]
     . rw[if_pos ⟨e,hk⟩]
   . rw[List.getElem_set_ne e];obtain⟨b1,b2⟩:=h.bks j hj';refine⟨b1.keep (fun k hk=>hkeep k (by rw[b2 k hk];omega) (by rw[b2 k hk];omega)),fun k hk=> ?_⟩;rw[hold k (by rw[b2 k hk];omega),b2 k hk]
 . obtain⟨b1,b2⟩:=h.txs j hj;refine⟨b1.keep (fun g e=>hkeep g (by rw[b2 g e];omega) (by rw[b2 g e];omega)),fun g e=> ?_⟩;rw[hold g (by rw[b2 g e];omega),b2 g e]
 . rw[hold g (by rw[h.lB g e];omega),h.lB g e]
 . rw[hold g (by rw[h.lX g e];omega),h.lX g e]
 . by_cases e:w.heap.size<=k/\d'.foot k
   . exact hd.lt k e.2
   . rw[if_neg e]at hl;exact Nat.lt_of_lt_of_le (h.lt k hl) hT.size
theorem WbAt.book (h:WbAt Wo w bw vts vbs vtx hs ps xs lab){i:Nat}(hi:i<ps.length){d':Bk}(hT:ab_ (fun k=>lab k=3+2*i) w w')(hd:BkAt w' d')(hbp:d'.bp=ps[i].bp)(hf:∀k,d'.foot k->lab k=3+2*i\/w.heap.size<=k):
 ∃lab',WbAt Wo w' bw vts vbs vtx hs (ps.set i d') xs lab':=by
 obtain⟨lab',h1,_⟩:=h.bookL hi hT hd hbp hf;exact⟨lab',h1⟩
theorem dt_ {S S':Nat->Prop}{w w1:World}(h:ab_ S w w1)(hs:∀k,S k->S' k):ab_ S' w w1:=⟨h.os,h.tape,h.output,h.size,fun k hk hn=>h.block k hk (fun e=>hn (hs k e))⟩
theorem cy_ {S:Nat->Prop}{w w1:World}(hB:Below w.heap.size w w1):ab_ S w w1:=⟨hB.os,hB.tape,hB.output,hB.size,fun k hk _=>hB.block k hk⟩
open Classical in
theorem WbAt.newText (h:WbAt Wo w bw vts vbs vtx hs ps xs lab)(hB:Below w.heap.size w w1){x:Value}(hx:TxAt w1 x xs.length)(hxn:∀g,x.ownBlock=some g->w.heap.size<=g){g cap:Nat}
 (hown:w2.ownsRow (bw+1) 56 1 (.slice (some ⟨g,0,none⟩) (xs.length+1) cap) (xs.length+1) (xs++ [x])) {o:Obj} (hg:(w1.alloc o).grownBy w2 vtx.ownBlock) (hf:vtx.ownBlock=some g\/g=(w1.alloc o).heap.size):
 w2.heap[bw]? =some (.cells #[vts,vbs,vtx] 31 (0,0))/\ab_ (fun k=>k=bw\/lab k≠0) w (w2.setCell ⟨bw,2,none⟩ (.slice (some ⟨g,0,none⟩) (xs.length+1) cap))/\∃lab',WbAt Wo (w2.setCell ⟨bw,2,none⟩ (.slice (some ⟨g,0,none⟩) (xs.length+1) cap)) bw vts vbs (.slice (some ⟨g,0,none⟩) (xs.length+1) cap) hs ps (xs++ [x]) lab':=by
 have hbs:=ac_ h.wd.blk;have hs1:=hB.size;have hxlt:=hown.lt;have hbw:lab bw=0:=by
  by_cases e:lab bw=0
  . exact e
  . have:=(h.out bw e).1;omega
 have hT2:ab_ (fun k=>k=bw\/lab k=2) w w2:=((cy_ hB).alloc o).grown hg (fun k e=> .inl (.inr (h.lX k e)));have hblk2:w2.heap[bw]? =some (.cells #[vts,vbs,vtx] 31 (0,0)):=by
  rw[hg.block bw s_ (fun e=>by have:=(h.ownX.lt bw e.symm).1;omega),Below.heap_alloc w1 o bw o_,hB.block bw hbs];exact h.wd.blk
 have hT:ab_ (fun k=>k=bw\/lab k=2) w (w2.setCell ⟨bw,2,none⟩ (.slice (some ⟨g,0,none⟩) (xs.length+1) cap)):=hT2.set _ _ (.inl (.inl rfl));refine⟨hblk2,dt_ hT (fun k hk=>hk.imp id (fun e=>by rw[e];omega)),fun k=>if k=g then 2 else if x.ownBlock=some k then 4+2*xs.length else lab k, ?_⟩;have hgl:lab g=2\/(lab g=0/\w.heap.size<=g):=by
  rcases hf with e|e
  . exact .inl (h.lX g e)
  . right;have hge:w.heap.size<=g:=by rw[e];simp;omega
    refine⟨?_,hge⟩;by_cases e':lab g=0
    . exact e'
    . have:=h.lt g e';omega
 have hxl:∀k,x.ownBlock=some k->lab k=0:=by
  intro k e;by_cases e':lab k=0
  . exact e'
  . have:=h.lt k e';have:=hxn k e;omega
 have hxg:x.ownBlock≠some g:=by
  intro e;have h1:=hx.lt e;have h2:=hxn g e;rcases hf with e'|e'
  . have:=h.lt g (by rw[h.lX g e'];omega);omega
  . rw[e']at h1;simp at h1;omega
 have hold:∀k,lab k≠0->lab k≠2->(if k=g then 2 else if x.ownBlock=some k then 4+2*xs.length else lab k)=lab k:=by
  intro k hl hne;rw[if_neg (fun e=>by subst e;rcases hgl with e|e<;>omega),if_neg (fun e=>hl (hxl k e))]
 have hkeep:∀k,lab k≠0->lab k≠2->(w2.setCell ⟨bw,2,none⟩ (.slice (some ⟨g,0,none⟩) (xs.length+1) cap)).heap[k]? =w.heap[k]? :=fun k hl hne=>hT.block k (h.lt k hl) (by
  rintro(e|e)
  . subst e;exact hl hbw
  . exact hne e)
 refine⟨h.relabel hT (fun k hk=>hk.imp id (fun e=>by rw[e];omega)) (xi_ hblk2) (fun k hl=> ?_),f8_ h.ownB (fun k e=>hkeep k (by rw[h.lB k e];omega) (by rw[h.lB k e];omega)), ?_,fun j hj=> ?_,fun j hj=> ?_,fun k e=> ?_,fun k e=> ?_,fun k hl=> ?_⟩
 . by_cases e:k=g
   . subst e;rcases hgl with e|e
     . exact .inl o_
     . exact .inr e.2
   . rw[if_neg e]at hl;by_cases e2:x.ownBlock=some k
     . exact .inr (hxn k e2)
     . rw[if_neg e2]at hl;exact .inl hl
 . simp only[List.length_append,List.length_singleton];exact ownsRow_setCell_below hown i_ _
 . obtain⟨b1,b2⟩:=h.bks j hj;refine⟨b1.keep (fun k hk=>hkeep k (by rw[b2 k hk];omega) (by rw[b2 k hk];omega)),fun k hk=> ?_⟩;rw[hold k (by rw[b2 k hk];omega) (by rw[b2 k hk];omega),b2 k hk]
 . simp only[List.length_append,List.length_singleton]at hj;by_cases e:j<xs.length
   . rw[List.getElem_append_left e];obtain⟨b1,b2⟩:=h.txs j e;refine⟨b1.keep (fun k hk=>hkeep k (by rw[b2 k hk];omega) (by rw[b2 k hk];omega)),fun k hk=> ?_⟩;rw[hold k (by rw[b2 k hk];omega) (by rw[b2 k hk];omega),b2 k hk]
   . have ej:j=xs.length:=o_;subst ej;rw[List.getElem_append_right lr__];simp only[Nat.sub_self,List.getElem_singleton];refine⟨hx.keep (fun k hk=> ?_),fun k hk=> ?_⟩
     . have h1:=hx.lt hk;have h2:=hxn k hk;rw[Below.heap_setCell _ _ _ k s_,hg.block k s_ (fun e'=>by have:=h.lt k (by rw[h.lX k e'.symm];omega);omega),Below.heap_alloc w1 o k h1]
     . rw[if_neg (fun e'=>hxg (by rw[<-e'];exact hk)),if_pos hk]
 . rw[hold k (by rw[h.lB k e];omega) (by rw[h.lB k e];omega),h.lB k e]
 . simp only[Value.ownBlock,Option.some.injEq]at e;rw[if_pos e.symm]
 . by_cases e:k=g
   . subst e;have:=(hown.lt k rfl).2;simpa using this
   . rw[if_neg e]at hl;by_cases e2:x.ownBlock=some k
     . have h1:=hx.lt e2;have h2:=hg.size;simp at h2 ⊢;omega
     . rw[if_neg e2]at hl;exact Nat.lt_of_lt_of_le (h.lt k hl) hT.size
open Classical in
theorem WbAt.newBook (h:WbAt Wo w bw vts vbs vtx hs ps xs lab)(hB:Below w.heap.size w w1){d:Bk}(hd:BkAt w1 d)(hxn:∀k,d.foot k->w.heap.size<=k){g cap:Nat}
 (hown:w2.ownsRow (bw+1) 45 1 (.slice (some ⟨g,0,none⟩) (ps.length+1) cap) (ps.length+1) (dm_ ps++ [.pointer (some ⟨d.bp,0,none⟩)])) {o:Obj} (hg:(w1.alloc o).grownBy w2 vbs.ownBlock) (hf:vbs.ownBlock=some g\/g=(w1.alloc o).heap.size):
 w2.heap[bw]? =some (.cells #[vts,vbs,vtx] 31 (0,0))/\∃lab',WbAt Wo (w2.setCell ⟨bw,1,none⟩ (.slice (some ⟨g,0,none⟩) (ps.length+1) cap)) bw vts (.slice (some ⟨g,0,none⟩) (ps.length+1) cap) vtx hs (ps++ [d]) xs lab':=by
 have hbs:=ac_ h.wd.blk;have hs1:=hB.size;have hbw:lab bw=0:=by
  by_cases e:lab bw=0
  . exact e
  . have:=(h.out bw e).1;omega
 have hT2:ab_ (fun k=>k=bw\/lab k=1) w w2:=((cy_ hB).alloc o).grown hg (fun k e=> .inl (.inr (h.lB k e)));have hblk2:w2.heap[bw]? =some (.cells #[vts,vbs,vtx] 31 (0,0)):=by
  rw[hg.block bw s_ (fun e=>by have:=(h.ownB.lt bw e.symm).1;omega),Below.heap_alloc w1 o bw o_,hB.block bw hbs];exact h.wd.blk
 have hT:ab_ (fun k=>k=bw\/lab k=1) w (w2.setCell ⟨bw,1,none⟩ (.slice (some ⟨g,0,none⟩) (ps.length+1) cap)):=hT2.set _ _ (.inl (.inl rfl));refine⟨hblk2,fun k=>if k=g then 1 else if d.foot k then 3+2*ps.length else lab k, ?_⟩;have hgl:lab g=1\/(lab g=0/\w.heap.size<=g):=by
  rcases hf with e|e
  . exact .inl (h.lB g e)
  . right;have hge:w.heap.size<=g:=by rw[e];simp;omega
    refine⟨?_,hge⟩;by_cases e':lab g=0
    . exact e'
    . have:=h.lt g e';omega
 have hxl:∀k,d.foot k->lab k=0:=by
  intro k e;by_cases e':lab k=0
  . exact e'
  . have:=h.lt k e';have:=hxn k e;omega
 have hxg:¬d.foot g:=by
  intro e;have h1:=hd.lt g e;have h2:=hxn g e;rcases hf with e'|e'
  . have:=h.lt g (by rw[h.lB g e'];omega);omega
  . rw[e']at h1;simp at h1;omega
 have hold:∀k,lab k≠0->lab k≠1->(if k=g then 1 else if d.foot k then 3+2*ps.length else lab k)=lab k:=by
  intro k hl hne;rw[if_neg (fun e=>by subst e;rcases hgl with e|e<;>omega),if_neg (fun e=>hl (hxl k e))]
 have hkeep:∀k,lab k≠0->lab k≠1->(w2.setCell ⟨bw,1,none⟩ (.slice (some ⟨g,0,none⟩) (ps.length+1) cap)).heap[k]? =w.heap[k]? :=fun k hl hne=>hT.block k (h.lt k hl) (by
  rintro(e|e)
  . subst e;exact hl hbw
  . exact hne e)
 refine⟨h.relabel hT (fun k hk=>hk.imp id (fun e=>by rw[e];omega)) (xh_ hblk2) (fun k hl=> ?_), ?_,f8_ h.ownX (fun k e=>hkeep k (by rw[h.lX k e];omega) (by rw[h.lX k e];omega)),fun j hj=> ?_,fun j hj=> ?_,fun k e=> ?_,fun k e=> ?_,fun k hl=> ?_⟩
 . by_cases e:k=g
   . subst e;rcases hgl with e|e
     . exact .inl o_
     . exact .inr e.2
   . rw[if_neg e]at hl;by_cases e2:d.foot k
     . exact .inr (hxn k e2)
     . rw[if_neg e2]at hl;exact .inl hl
 . rw[xg_]at hown;simp only[List.length_append,List.length_singleton];exact ownsRow_setCell_below hown i_ _
 . simp only[List.length_append,List.length_singleton]at hj;by_cases e:j<ps.length
   . rw[List.getElem_append_left e];obtain⟨b1,b2⟩:=h.bks j e;refine⟨b1.keep (fun k hk=>hkeep k (by rw[b2 k hk];omega) (by rw[b2 k hk];omega)),fun k hk=> ?_⟩;rw[hold k (by rw[b2 k hk];omega) (by rw[b2 k hk];omega),b2 k hk]
   . have ej:j=ps.length:=o_;subst ej;rw[List.getElem_append_right lr__];simp only[Nat.sub_self,List.getElem_singleton];refine⟨hd.keep (fun k hk=> ?_),fun k hk=> ?_⟩
     . have h1:=hd.lt k hk;have h2:=hxn k hk;rw[Below.heap_setCell _ _ _ k s_,hg.block k s_ (fun e'=>by have:=h.lt k (by rw[h.lB k e'.symm];omega);omega),Below.heap_alloc w1 o k h1]
     . rw[if_neg (fun e'=>hxg (by rw[<-e'];exact hk)),if_pos hk]
 . obtain⟨b1,b2⟩:=h.txs j hj;refine⟨b1.keep (fun k hk=>hkeep k (by rw[b2 k hk];omega) (by rw[b2 k hk];omega)),fun k hk=> ?_⟩;rw[hold k (by rw[b2 k hk];omega) (by rw[b2 k hk];omega),b2 k hk]
 . simp only[Value.ownBlock,Option.some.injEq]at e;rw[if_pos e.symm]
 . rw[hold k (by rw[h.lX k e];omega) (by rw[h.lX k e];omega),h.lX k e]
 . by_cases e:k=g
   . subst e;have:=(hown.lt k rfl).2;simpa using this
   . rw[if_neg e]at hl;by_cases e2:d.foot k
     . have h1:=hd.lt k e2;have h2:=hg.size;simp at h2 ⊢;omega
     . rw[if_neg e2]at hl;exact Nat.lt_of_lt_of_le (h.lt k hl) hT.size
end
theorem dh_.touch {S:Nat->Prop}{w w':World}(h:dh_ w)(hT:ab_ S w w')(hS:∀k,S k->3<=k)(hsz:3<=w.heap.size):dh_ w':=by
 unfold dh_ Go.Lib.TabIs at h ⊢;unfold World.var? at h ⊢;obtain⟨g,hg,hl⟩:=Option.map_eq_some_iff.1 qy_;have hl:g<3:=of_decide_eq_true hl;rw[hg]at h ⊢;simp only[Option.bind_some]at h ⊢;rw[hT.block g o_ (fun e=>by have:=hS g e;omega)];exact h
theorem xj_ {S:Nat->Prop}{w w1 w2:World}(h:ab_ S w w1)(hb:Below w1.heap.size w1 w2):ab_ S w w2:=
 ⟨hb.os.trans h.os,hb.tape.trans h.tape,hb.output.trans h.output,Nat.le_trans h.size hb.size,fun k hk hs=>(hb.block k (Nat.lt_of_lt_of_le hk h.size)).trans (h.block k hk hs)⟩
theorem iz_ {w:World}{b:Nat}{x y z:Value}{t:TypeId}(h:w.heap[b]? =some (.cells #[x,y,z] t (0,0))):w.frozen? ⟨b,1,none⟩=false/\w.frozen? ⟨b,2,none⟩=false:=by
 simp[World.frozen?,h]
def f9_ (w:World)(g m i k:Nat):Prop:=∃c:Array Value,w.heap[g]? =some (.cells c 9 (0,0))/\c.size=m/\∀j,j<i->c[j]? =some (.string (fw_ k))
theorem f9_.block {w w':World}{g m i k:Nat}(h:f9_ w g m i k)(e:w'.heap[g]? =w.heap[g]?):f9_ w' g m i k:=by
 obtain⟨c,h1,h2⟩:=h;exact⟨c,e.trans h1,h2⟩
theorem f9_.put {w:World}{g m i k:Nat}(h:f9_ w g m i k)(hi:i<m):f9_ (w.setCell ⟨g,i,none⟩ (.string (fw_ k))) g m (i+1) k:=by
 obtain⟨c,h1,h2,h3⟩:=h;refine⟨c.setIfInBounds i (.string (fw_ k)), ?_,by simpa using h2,fun j hj=> ?_⟩
 . simp[World.setCell,Array.getElem?_modify,h1]
 . rw[Array.getElem?_setIfInBounds];by_cases e:i=j
   . subst e;rw[if_pos rfl,if_pos o_]
   . rw[if_neg e];exact h3 j o_
theorem f9_.cell {w:World}{g m i k j:Nat}(h:f9_ w g m i k)(hj:j<m):(∃x,w.cell? ⟨g,j,none⟩=some x)/\w.frozen? ⟨g,j,none⟩=false:=by
 obtain⟨c,h1,h2,h3⟩:=h;refine⟨⟨c[j], ?_⟩,by simp[World.frozen?,h1]⟩;simp[World.cell?,h1,h2,hj]
theorem aev_ (w:World)(g n cap k:Nat)(cur:Array Value)(hg:w.heap[g]? =some (.cells cur 9 (0,0)))(hcur:cur.size=cap)(hn:n<=cap)(hcap:cap<=maxLen)(hk:k<=4398046511104)(h3:3<=g)(hsz:3<=w.heap.size)(ht:dh_ w):
 Calls prog 91 #[.slice (some ⟨g,0,none⟩) n cap,.int .i64 (k:Int)] w fun e w'=>e= .returned (.slice (some ⟨g,0,none⟩) cap cap)/\w'.rowIs g 9 cap (fun _=> .string (fw_ k))/\ab_ (fun j=>j=g) w w':=by
 unfold maxLen at hcap;go_enter func91,ntmps91;go_wp2_with fail;go_loopw [6] (fun i' wr=>∃i:Nat,i<=cap/\i'= .int .i64 (i:Int)/\f9_ wr g cap i k/\ab_ (fun j=>j=g) w wr) (fun i' _=>cap - (intOf i').toNat)
 case atStart=>exact⟨0,o_,rfl,⟨cur,hg,hcur,fun j hj=>o_⟩,ab_.refl _ _⟩
 case round=>
  obtain⟨i,hi,rfl,ho,hT⟩:=hrel;by_cases hlt:i<cap
  . have q1:(i:Int)<(cap:Int):=o_;have HM:=vx_ k hk wr (ht.touch hT (fun j e=>o_) hsz);have HOO:Hid (f9_ wr g cap i k):=ho;have HT:Hid (ab_ (fun j=>j=g) w wr):=hT;have hwg:g<wr.heap.size:=by obtain⟨c,h1,_⟩:=ho;exact ac_ h1
    have HCE:∀w2,Below wr.heap.size wr w2->(∃x,w2.cell? ⟨g,i,none⟩=some x)/\w2.frozen? ⟨g,i,none⟩=false:=fun w2 hb=>(ho.block (hb.block g hwg)).cell hlt
    clear ho hT ht;go_wp2_with (go_at_call 24;refine HM.mono ?_;rintro e w2 ⟨rfl,hb2⟩;obtain⟨⟨x,cx⟩,fx⟩:=HCE w2 hb2;have HB2:Hid (Below wr.heap.size wr w2):=hb2;clear hb2 HCE);go_roundw
    case rel=>
     refine⟨i+1,o_,by go_num,(HOO.out.block (HB2.out.block g hwg)).put hlt, ?_⟩;exact(xj_ HT.out HB2.out).set ⟨g,i,none⟩ _ (.inl rfl)
    case measure=>simp[intOf];omega
  . have e:i=cap:=o_;have q1:¬(i:Int)<(cap:Int):=o_;have HOO:Hid (f9_ wr g cap i k):=ho;have HT:Hid (ab_ (fun j=>j=g) w wr):=hT;subst e;clear ho hT ht;go_wp2_with fail;go_ret;obtain⟨c,h1,h2,h3⟩:=HOO.out;exact⟨rfl,⟨c,h1,h2,h3⟩,HT.out⟩
theorem mg_ (w:World)(va vb:Value)(ba bb:Nat)(l:List ByteArray)(hl:l.length<=100000)(ha:w.ownsRow ba 9 1 va l.length (strs l))(hb:w.ownsRow bb 9 1 vb l.length (strs l)):
 Calls prog 90 #[va,vb] w fun e w'=>e= .returned (.bool true)/\Below w.heap.size w w':=by
 obtain⟨aa,ca,rfl,sa⟩:=af_ ha;obtain⟨ab,cb,rfl,sb⟩:=af_ hb;obtain⟨n,HN⟩:=hx__ (l.length);have hc:∀i,i<n->∃g1 g2 x,aa=some ⟨g1,0,none⟩/\ab=some ⟨g2,0,none⟩/\w.cell? ⟨g1,i,none⟩=some (.string x)/\w.cell? ⟨g2,i,none⟩=some (.string x):=by
  intro i hi;rw[<-HN.out]at hi;obtain⟨g1,e1,c1⟩:=sa o_;obtain⟨g2,e2,c2⟩:=sb o_;have hx:(strs l)[i]? =some (.string l[i]):=by simp[strs,hi]
  exact⟨g1,g2,l[i],e1,e2,(c1 i o_).trans hx,(c2 i o_).trans hx⟩
 rw[HN.out]at hl ⊢;clear ha hb sa sb;go_enter func90,ntmps90;go_wp2_with fail;go_loopw [5] (fun i' wr=>∃i:Nat,i<=n/\i'= .int .i64 (i:Int)/\Below w.heap.size w wr) (fun i' _=>n - (intOf i').toNat)
 case atStart=>exact⟨0,o_,rfl,br__⟩
 case round=>
  obtain⟨i,hi,rfl,hb⟩:=hrel;have HB:Hid (Below w.heap.size w wr):=hb;by_cases hlt:i<n
  . obtain⟨g1,g2,x,rfl,rfl,c1,c2⟩:=hc i hlt;have d1:=((cu_ hb).1 g1 i (an_ c1)).trans c1;have d2:=((cu_ hb).1 g2 i (an_ c2)).trans c2;have q1:(i:Int)<(n:Int):=o_;have q2:(x.toList==x.toList)=true:=by rw[fr_];simp
    clear hb c1 c2 hc;go_wp2_with fail;go_quiet (fail);go_wp2_with fail;go_roundw
    case rel=>exact⟨i+1,o_,by go_num,below_drewN HB.out nq⟩
    case measure=>simp[intOf];omega
  . have q1:¬(i:Int)<(n:Int):=o_;have e:i=n:=o_;subst e;clear hb hc;go_wp2_with fail;go_ret;exact⟨rfl,HB.out⟩
theorem vt_:(prog.info? 56).map (fun i=>(i.zero,i.size,i.bytes))=some (some (.slice none 0 0),1,24):=k_
theorem z4_ (Wo w0 w:World)(bw:Nat)(vts vbs vtx:Value)(hs:List Hd)(ps:List Bk)(xs:List Value)(lab:Nat->Nat)(h:WbAt Wo w0 bw vts vbs vtx hs ps xs lab)(hB:Below w0.heap.size w0 w)(hx:xs.length<=4398046511104)(h3:3<=bw)(ht:dh_ w0)
 (l:List ByteArray) (hl:l.length<=100000) (v u:Value) (hne:v≠ .slice none 0 0) (hv:w.ownsRow w0.heap.size 9 1 v l.length (strs l)) (hu:w.ownsRow w0.heap.size 9 1 u l.length (strs l)):
 Calls prog 51 #[.pointer (some ⟨bw,0,none⟩),v,u] w fun e w'=>e= .returned (.bool true)/\ab_ (fun k=>k=bw\/lab k≠0) w0 w'/\∃vtx' x lab',WbAt Wo w' bw vts vbs vtx' hs ps (xs++ [x]) lab':=by
 obtain⟨i0,hi0,hz0,hz01,hz02⟩:=info_parts vt_;have hbs:=ac_ h.wd.blk;have HS:=mg_ w v u _ _ l hl hv hu;rcases hv.2 with ⟨rfl,e⟩|⟨g,cap,cur,rfl,hg0,hg,hn,hcap,hcs,_⟩
 . exact absurd rfl hne
 rw[Nat.mul_one]at hcs;have hws:=hB.size;have HOV:∀w1,Below w.heap.size w w1->Calls prog 91 #[.slice (some ⟨g,0,none⟩) l.length cap,.int .i64 (xs.length:Int)] w1 fun e w'=>e= .returned (.slice (some ⟨g,0,none⟩) cap cap)/\w'.rowIs g 9 cap (fun _=> .string (fw_ xs.length))/\ab_ (fun j=>j=g) w1 w':=fun w1 hb=>
  aev_ w1 g l.length cap xs.length cur (by rw[hb.block g (ac_ hg)];exact hg) hcs hn hcap hx o_ (by have:=hb.size;omega) ((ht.below o_ hB).below o_ hb)
 have HW1:∀w1,Below w.heap.size w w1->w1.cell? ⟨bw,2,none⟩=some vtx/\(∀w2,ab_ (fun j=>j=g) w1 w2->w2.cell? ⟨bw,2,none⟩=some vtx/\Below w0.heap.size w0 w2/\WbAt Wo w2 bw vts vbs vtx hs ps xs lab):=by
  intro w1 hb;have hb01:=hB.trans (hb.mono hws);refine⟨(b2_ (h.below hb01).wd.blk).2.2.1,fun w2 hT=> ?_⟩;have hb02:Below w0.heap.size w0 w2:=hT.below hb01 (by have:=hb01.size;omega) (fun k e=>o_);exact⟨(b2_ (h.below hb02).wd.blk).2.2.1,hb02,h.below hb02⟩
 obtain⟨n,HN⟩:=hx__ (l.length);obtain⟨at',ct,hvt,_⟩:=af_ h.ownX;rw[HN.out]at HOV HS ⊢;have HNT:∀w2,Below w0.heap.size w0 w2->w2.rowIs g 9 cap (fun _=> .string (fw_ xs.length))->∀g' cap' w3,w3.ownsRow (bw+1) 56 1 (.slice (some ⟨g',0,none⟩) (xs.length+1) cap') (xs.length+1) (xs++ [.slice (some ⟨g,0,none⟩) cap cap])->(w2.alloc (.cells #[.slice (some ⟨g,0,none⟩) cap cap] 56)).grownBy w3 vtx.ownBlock->(vtx.ownBlock=some g'\/g'=(w2.alloc (.cells #[.slice (some ⟨g,0,none⟩) cap cap] 56)).heap.size)->
  w3.heap[bw]? =some (.cells #[vts,vbs,vtx] 31 (0,0))/\Hid (ab_ (fun k=>k=bw\/lab k≠0) w0 (w3.setCell ⟨bw,2,none⟩ (.slice (some ⟨g',0,none⟩) (xs.length+1) cap'))/\∃lab',WbAt Wo (w3.setCell ⟨bw,2,none⟩ (.slice (some ⟨g',0,none⟩) (xs.length+1) cap')) bw vts vbs (.slice (some ⟨g',0,none⟩) (xs.length+1) cap') hs ps (xs++ [.slice (some ⟨g,0,none⟩) cap cap]) lab'):=by
  intro w2 hb hr g' cap' w3 ho hgr hf;exact h.newText hb (.inr ⟨g,cap,rfl,hcap,hr⟩) (fun j e=>by simp only[Value.ownBlock,Option.some.injEq]at e;omega) ho hgr hf
 have HNA:∀w2,Below w0.heap.size w0 w2->(w2.alloc (.cells #[.slice (some ⟨g,0,none⟩) cap cap] 56)).ownsRow (bw+1) 56 1 vtx xs.length xs/\bw+1<=w2.heap.size:=fun w2 hb=>⟨(h.below hb).ownX.alloc _,by have:=hb.size;omega⟩
 rw[hvt]at HW1 HNA HNT;unfold maxLen at hcap;clear h hu hv hg hB ht;go_enter func51,ntmps51;go_wp2_with (first
  |(go_at_call 90;refine HS.mono ?_;rintro e w1 ⟨rfl,hb1⟩;obtain⟨c1,HW2⟩:=HW1 w1 hb1;have HOV1:=HOV w1 hb1;clear HW1 HOV hb1)
  |(go_at_call 91;refine HOV1.mono ?_;rintro e w2 ⟨rfl,hr2,hT2⟩;obtain⟨c2,hb2,_⟩:=HW2 w2 hT2;obtain⟨hna,hsb⟩:=HNA w2 hb2;have HNT2:=HNT w2 hb2 hr2;clear HW2 HNA HNT hr2 hT2 hb2 c1)
  |(at_builtin;refine ae_ _ rfl _ _ 29 rfl (bw+1) 56 i0 (.slice none 0 0) 1 24 underlying29 hi0 hz0 hz01 hz02 rfl d_ _ xs.length xs rfl hna ⟨w2.heap.size,0,none⟩ 1 1 [.slice (some ⟨g,0,none⟩) cap cap] rfl rfl (cell_one_new _ _ _) (oc__ rfl) d_ u_ o_ s_ ?_;intro g' cap' w3 hown hgr hfr;obtain⟨f0,F⟩:=HNT2 g' cap' w3 hown hgr hfr;obtain⟨f1,f2,f3,f4⟩:=b2_ f0;have f5:=iz_ f0;clear HNT2 hown hgr hfr f0))
 go_ret;obtain⟨hTF,lab',hF⟩:=F.out;exact⟨rfl,hTF,_,_,lab',hF⟩
theorem z5_ (Wo w:World)(bw:Nat)(vts vbs vtx:Value)(hs:List Hd)(ps:List Bk)(xs:List Value)(lab:Nat->Nat)(h:WbAt Wo w bw vts vbs vtx hs ps xs lab)(hn:hs.length<=4398046511104)(hx:xs.length<=4398046511104)(h3:3<=bw)(ht:dh_ w):
 Calls prog 13 #[.pointer (some ⟨bw,0,none⟩)] w fun e w'=>e= .returned (.bool true)/\Below w.heap.size w w':=by
 obtain⟨al,cl,rfl,hal⟩:=af_ h.wd.own;obtain⟨at',ct,rfl,hat⟩:=af_ h.ownX;have hbs:=ac_ h.wd.blk;go_enter func13,ntmps13;go_wp2_with fail;go_loopw [3,4] (fun i' _ wr=>∃i:Nat,i<=hs.length/\i'= .int .i64 i/\Below w.heap.size w wr) (fun i' _ _=>hs.length - (intOf i').toNat)
 case atStart=>exact⟨0,o_,rfl,br__⟩
 case round=>
  obtain⟨i,hi,rfl,hb⟩:=hrel;have hr:=h.below hb;obtain⟨y0,y1,y2,y3⟩:=b2_ hr.wd.blk;replace y2:wr.cell? ⟨bw,2,none⟩=some (.slice at' xs.length ct):=y2;by_cases hlt:i<hs.length
  . obtain⟨gl,rfl,hcl⟩:=hal o_;have z0:wr.cell? ⟨gl,i,none⟩=some (.pointer (some ⟨hs[i].bh,0,none⟩)):=by
     have:=(hcl i o_).trans (kb_ hs i hlt);rw[(cu_ hb).1 _ _ (an_ this)];exact this
    have HC:=ab4_ hs[i] wr (hr.wd.hds _ (List.getElem_mem hlt));obtain⟨dd,HDD⟩:∃x,Hid (hs[i]=x):=⟨hs[i],by unfold Hid;rfl⟩;rw[HDD.out]at z0 HC;have HB:Hid (Below w.heap.size w wr):=hb;have hbs2:=hb.size;clear hr hcl hal hb hat h;go_wp2_with fail;refine HC.mono ?_;rintro e w1 ⟨rfl,hB1⟩;clear HC;go_wp2_with fail;go_roundw
    case rel=>exact⟨i+1,o_,by go_num,HB.out.trans (hB1.mono hbs2)⟩
    case measure=>simp[intOf];omega
  . have he:i=hs.length:=o_;subst he;have HB:Hid (Below w.heap.size w wr):=hb;clear hr hal hb y0 y1 y2 y3;have y2:∀w2,Below w.heap.size w w2->w2.cell? ⟨bw,2,none⟩=some (.slice at' xs.length ct)/\w2.cell? ⟨bw,0,none⟩=some (.slice al hs.length cl):=fun w2 hb2=>⟨(b2_ (h.below hb2).wd.blk).2.2.1,(b2_ (h.below hb2).wd.blk).1⟩
    obtain⟨d2,d0⟩:=y2 wr HB.out;go_wp2_with fail;go_loopw [5,6] (fun i' _ wi=>∃j:Nat,j<=xs.length/\i'= .int .i64 (j:Int)/\Below w.heap.size w wi) (fun i' _ _=>xs.length - (intOf i').toNat)
    case atStart=>exact⟨0,o_,rfl,HB.out⟩
    case round=>
     obtain⟨j,hj,rfl,hbi⟩:=hrel;rename World=>wi
     obtain⟨c2,c0⟩:=y2 wi hbi;have HBI:Hid (Below w.heap.size w wi):=hbi;by_cases hlt:j<xs.length
     . obtain⟨gx,rfl,hcx⟩:=hat o_;have hxj:=(h.txs j hlt).1;have hcj:=(hcx j o_).trans (List.getElem?_eq_getElem hlt);have q1:(j:Int)<(xs.length:Int):=o_;have HAT:∀w2,Below w.heap.size w w2->w2.cell? ⟨gx,j,none⟩=some xs[j]:=fun w2 hb2=>((cu_ hb2).1 _ _ (an_ hcj)).trans hcj
       have HMK:∀w2,Below w.heap.size w w2->Calls prog 24 #[.int .i64 (j:Int)] w2 fun e w'=>e= .returned (.string (fw_ j))/\Below w2.heap.size w2 w':=fun w2 hb2=>vx_ j o_ w2 (ht.below o_ hb2)
       have HSZ:∀w2,Below w.heap.size w w2->w.heap.size<=w2.heap.size:=fun w2 hb2=>hb2.size
       rcases hxj with hnil|⟨g,m,hv,hm,hrow⟩
       . have e0:=HAT wi hbi;rw[hnil]at e0;clear hcx hcj h ht hbi hat;go_wp2_with fail;go_loopw [6] (fun k' wk=>k'= .int .i64 0/\Below w.heap.size w wk) (fun _ _=>0)
         case atStart=>exact⟨rfl,HBI.out⟩
         case round=>
          obtain⟨rfl,hbk⟩:=hrel;rename World=>wk
          have e1:=HAT wk hbk;rw[hnil]at e1;obtain⟨k2,k0⟩:=y2 wk hbk;have HBK:Hid (Below w.heap.size w wk):=hbk;clear hbk;go_wp2_with fail;go_roundw
          case rel=>exact⟨j+1,o_,by go_num,HBK.out⟩
          case measure=>simp[intOf];omega
       . rw[hv]at HAT;have e0:=HAT wi hbi;have HRW:∀w2,Below w.heap.size w w2->∀k,k<m->w2.cell? ⟨g,k,none⟩=some (.string (fw_ j)):=fun w2 hb2 k hk=>((cu_ hb2).1 _ _ (World.rowIs.lt hrow)).trans (World.rowIs.cell hrow hk)
         unfold maxLen at hm;clear hcx hcj h ht hbi hat hrow;go_wp2_with fail;go_loopw [6] (fun k' wk=>∃k:Nat,k<=m/\k'= .int .i64 (k:Int)/\Below w.heap.size w wk) (fun k' _=>m - (intOf k').toNat)
         case atStart=>exact⟨0,o_,rfl,HBI.out⟩
         case round=>
          obtain⟨k,hk,rfl,hbk⟩:=hrel;rename World=>wk
          have e1:=HAT wk hbk;obtain⟨k2,k0⟩:=y2 wk hbk;have HBK:Hid (Below w.heap.size w wk):=hbk;have hsk:=hbk.size;by_cases hkm:k<m
          . have e2:=HRW wk hbk k hkm;have HM:=HMK wk hbk;have q2:(k:Int)<(m:Int):=o_;have q3:((fw_ j).toList==(fw_ j).toList)=true:=by rw[fr_];simp
            have hbd:Below w.heap.size w wk.drew:=hbk.drew;have HMd:=HMK wk.drew hbd;have HTR:∀w2,Below wk.drew.heap.size wk.drew w2->Below w.heap.size w w2:=fun w2 h2=>hbd.trans (h2.mono hbd.size)
            clear hbk HM hbd;go_upto_region 13 with fail;go_region_held3 (fun w'=>w'.cell? ⟨bw,2,none⟩=some (.slice (some ⟨gx,0,none⟩) xs.length ct)/\w'.cell? ⟨gx,j,none⟩=some (.slice (some ⟨g,0,none⟩) m m)/\w'.cell? ⟨g,k,none⟩=some (.string (fw_ j))) (go_keep)
             ((go_at_call 24;refine HMd.mono ?_;rintro e w' ⟨rfl,hb'⟩;have hbw:=HTR w' hb';have u0:=(y2 w' hbw).1;have u1:=HAT w' hbw;have u2:=HRW w' hbw k hkm;have HBN:Hid (Below w.heap.size w w'):=hbw;clear hb' hbw))
            all_goals go_wp2_with fail
            all_goals go_roundw
            case rel=>exact⟨k+1,o_,by go_num,HBN.out⟩
            case measure=>simp[intOf];omega
          . have q2:¬(k:Int)<(m:Int):=o_;clear hbk;go_wp2_with fail;go_roundw
            case rel=>exact⟨j+1,o_,by go_num,HBK.out⟩
            case measure=>simp[intOf];omega
     . have q1:¬(j:Int)<(xs.length:Int):=o_;clear h ht hbi hat;go_wp2_with fail;go_ret;exact⟨rfl,HBI.out⟩
end Go.Proofs.YtpngikmcjkjdaaaGreatDoor
