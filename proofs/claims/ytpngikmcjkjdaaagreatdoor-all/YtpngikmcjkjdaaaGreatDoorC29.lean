import Derived.Test.YtpngikmcjkjdaaaGreatDoorC22
import Derived.Test.YtpngikmcjkjdaaaGreatDoorC23
import Derived.Test.YtpngikmcjkjdaaaGreatDoorC28
set_option linter.unusedVariables false
set_option linter.unusedSimpArgs false
set_option maxRecDepth 20000
set_option maxHeartbeats 80000000
namespace Go.Proofs.YtpngikmcjkjdaaaGreatDoor
open Go.RowKit Tryz List Nat
variable {cs:Array Value} {qs:List Nat} {x x':List Value} {a b base base' c cap e e' ec g i k ka kn n n' nc q s s' t:Nat} {A A':Nat->Bool} {C EC NC R:Nat->Nat} {X X':Nat->Nat->Nat} {eo no:Option Addr} {v v' va vn:Value} {W w w':World}
section
variable {w w2:World}
theorem nw_ {k:Nat×Nat}(h:w.ownsRow base e s v n x)(hb:w.heap[b]? =some (.cells cs t k))(hne:e≠t)(g:Nat)(hg:v.ownBlock=some g):g≠b:=by
 rcases h.2 with ⟨rfl,_⟩|⟨a,d,f,rfl,_,c,_⟩
 . simp[Value.ownBlock]at hg
 . simp only[Value.ownBlock,Δ]at hg;subst hg;rintro rfl;rw[c]at hb;simp only[Δ,Obj.cells.injEq]at hb;exact hne hb.2.1
theorem aj7_ (h:w.ownsRow base e s v n x)(h':w.ownsRow base' e' s' v' n' x')(hne:e≠e')(g:Nat)(hg:v.ownBlock=some g)(hg':v'.ownBlock=some g):False:=by
 rcases h'.2 with ⟨rfl,_⟩|⟨a,c,d,rfl,_,b,_⟩
 . simp[Value.ownBlock]at hg'
 . simp only[Value.ownBlock,Δ]at hg';subst hg';exact nw_ h b hne _ hg rfl
theorem lc_ (h:w.ownsRow base e s v n x)(h':w.ownsRow base' e' s' v' n' x')(hne:e≠e')(hg:w.grownBy w2 v'.ownBlock):w2.ownsRow base e s v n x:=by
 refine h.kept hg ?_;cases hv:v.ownBlock with
 |none=>exact .inl rfl
 |some k=>exact .inr (fun e=>aj7_ h h' hne k hv e.symm)
end
def f3_ (w w':World):Prop:=∀(k:Nat) (cs:Array Value) (t:Nat) (f:Nat×Nat),(t=104\/t=9\/t=199)->w.heap[k]? =some (.cells cs t f)->w'.heap[k]? =some (.cells cs t f)
theorem cn_.keeps {L:List Ex}(h:cn_ w eo ec no nc L)(hk:f3_ w w'):cn_ w' eo ec no nc L:=by
 obtain⟨⟨x,c,d⟩,i⟩:=h;have o:∀ {t n:Nat} {v:Value} {l:List Value},(t=104\/t=9\/t=199)->w.ownsRow 0 t 1 v n l->w'.ownsRow 0 t 1 v n l:=by
  intro t n v l y m;refine⟨m.1, ?_⟩;rcases m.2 with j|⟨g,p,q,j,s,u,r⟩
  . exact .inl j
  . exact .inr ⟨g,p,q,j,s,hk g _ _ _ y u,r⟩
 have z:∀(g:Nat) (e:Ex),Τ w g e->Τ w' g e:=by
  intro g e h;induction e generalizing g with
  |nil=>exact hk _ _ _ _ (.inr (.inr rfl)) h
  |one S=>exact hk _ _ _ _ (.inr (.inr rfl)) h
  |thn a b iha ihb=>obtain⟨f,k,c,d,i⟩:=h;exact⟨f,k,hk _ _ _ _ (.inr (.inr rfl)) c,iha _ d,ihb _ i⟩
  |alt a b iha ihb=>obtain⟨f,k,c,d,i⟩:=h;exact⟨f,k,hk _ _ _ _ (.inr (.inr rfl)) c,iha _ d,ihb _ i⟩
  |star a iha=>obtain⟨f,c,d⟩:=h;exact⟨f,hk _ _ _ _ (.inr (.inr rfl)) c,iha _ d⟩
 exact⟨⟨x,o (.inl rfl) c,d.imp z⟩,o (.inr (.inl rfl)) i⟩
theorem f3_.trans {w1 w2:World}(h:f3_ w w1)(h':f3_ w1 w2):f3_ w w2:=fun k cs t f ht hk=>h' k cs t f ht (h k cs t f ht hk)
theorem f3_.grown (ho:w.ownsRow base e s v n x)(h1:e≠104)(h2:e≠9)(h3:e≠199)(hg:w.grownBy w' v.ownBlock):f3_ w w':=by
 intro k d t f c a;rw[hg.block k (κ a) ?_,a];intro b;refine nw_ ho a ?_ k b.symm rfl;rcases c with rfl|rfl|rfl
 . exact h1
 . exact h2
 . exact h3
theorem f3_.set {u:Value}{f:Nat×Nat}(hb:w.heap[b]? =some (.cells cs t f))(h1:t≠104)(h2:t≠9)(h3:t≠199):f3_ w (w.setCell ⟨b,i,none⟩ u):=by
 intro k g j h d a;refine a3_ a ?_;intro e;have c:k=b:=e;subst c;rw[hb]at a;simp only[Δ,Obj.cells.injEq]at a;obtain⟨_,rfl,_⟩:=a;rcases d with rfl|rfl|rfl
 . exact h1 rfl
 . exact h2 rfl
 . exact h3 rfl
def f4_ (D:Nat->List Ex)(EO NO:Nat->Option Addr)(EC NC:Nat->Nat):Nat->List Value
 |0=> []
 |k+1=>f4_ D EO NO EC NC k++ [.slice (EO k) (D k).length (EC k),.slice (NO k) (D k).length (NC k)]
theorem aj8_ (D:Nat->List Ex)(EO NO:Nat->Option Addr)(EC NC:Nat->Nat)(k:Nat):(f4_ D EO NO EC NC k).length=k*2:=by
 induction k with
 |zero=>rfl
 |succ k ih=>simp[f4_,ih];omega
theorem y8_ {D D':Nat->List Ex}{EO NO EO' NO':Nat->Option Addr}{EC' NC':Nat->Nat}(h:∀i,i<k->D i=D' i/\EO i=EO' i/\NO i=NO' i/\EC i=EC' i/\NC i=NC' i):f4_ D EO NO EC NC k=f4_ D' EO' NO' EC' NC' k:=by
 induction k with
 |zero=>rfl
 |succ k ih=>
  obtain⟨a,b,c,d,e⟩:=h k o_;simp only[f4_];rw[ih (fun i hi=>h i o_),a,b,c,d,e]
theorem aj9_ (D:Nat->List Ex)(EO NO:Nat->Option Addr)(EC NC:Nat->Nat)(k i:Nat)(hi:i<k):(f4_ D EO NO EC NC k)[i*2]? =some (.slice (EO i) (D i).length (EC i))/\(f4_ D EO NO EC NC k)[i*2+1]? =some (.slice (NO i) (D i).length (NC i)):=by
 induction k with
 |zero=>omega
 |succ k ih=>
  have a:=aj8_ D EO NO EC NC k;simp only[f4_];by_cases e:i=k
  . subst e;constructor
    . rw[getElem?_append_right o_,a,Nat.sub_self];rfl
    . rw[getElem?_append_right o_,a,show i*2+1 - i*2=1 by omega];rfl
  . obtain⟨b,c⟩:=ih o_;constructor
    . rw[gl_ o_];exact b
    . rw[gl_ o_];exact c
theorem qa_ (h:ak_ W b w va vn ka kn A R C X):ak_ w b w va vn ka kn A R C X:=
 ⟨⟨μ,h.two.cg,h.two.cB,h.two.cA,h.two.cX⟩,h.rows⟩
theorem aka_ (h:∀i,i<k->A i=A' i):aa_ A k=aa_ A' k:=by
 induction k with
 |zero=>rfl
 |succ k ih=>simp only[aa_];rw[ih (fun i hi=>h i o_),h k o_]
theorem y9_ {X Y:Nat->Nat}(h:∀i,i<k->X i=Y i):Λ X k=Λ Y k:=by
 simp only[Λ];apply map_congr_left;intro i a;rw[h i (by simpa using a)]
theorem akb_ (h:ak_ W b w va vn ka kn A R C X)(ha:∀i,i<ka->A i=A' i)(hx:∀i c,i<kn->c<8->X i c=X' i c):ak_ W b w va vn ka kn A' R C X':=
 ⟨by have:=h.two;rw[aka_ ha]at this;exact this,fun i hi=>by have:=h.rows i hi;rw[y9_ (fun c hc=>hx i c hi hc)]at this;exact this⟩
structure es_ (W:World)(B b:Nat)(w:World)(n:Nat)(D:Nat->List Ex)(EO NO:Nat->Option Addr)(EC NC:Nat->Nat)(vs va vn:Value)(ka kn:Nat)(A:Nat->Bool)(R C:Nat->Nat)(X:Nat->Nat->Nat):Prop where
 cz:Below B W w
 own:w.ownsRow B 146 2 vs n (f4_ D EO NO EC NC n)
 ev:∀i,i<n->cn_ w (EO i) (EC i) (NO i) (NC i) (D i)
 bm:ak_ w b w va vn ka kn A R C X
 hb:B<=b
structure et_ (W:World)(B b:Nat)(w:World)(n:Nat)(D:Nat->List Ex)(EO NO:Nat->Option Addr)(EC NC:Nat->Nat)(vs va vn vr:Value)(ka kn c:Nat)(A:Nat->Bool)(R C:Nat->Nat)(X:Nat->Nat->Nat):Prop where
 mem:es_ W B b w n D EO NO EC NC vs va vn ka kn A R C X
 row:w.ownsRow (b+1) 3 1 vr c (Λ (X kn) c)
 dr:∀i,i<kn->vr.ownBlock≠some (R i)
section
variable {W:World} {B b:Nat} {w w1 w2:World} {n:Nat} {D:Nat->List Ex} {EO NO:Nat->Option Addr} {EC NC:Nat->Nat} {vs va vn vr:Value} {ka kn c:Nat} {A:Nat->Bool} {R C:Nat->Nat} {X:Nat->Nat->Nat}
theorem es_.cQ (h:es_ W B b w n D EO NO EC NC vs va vn ka kn A R C X):b<w.heap.size:=κ h.bm.two.cg
theorem es_.below (h:es_ W B b w n D EO NO EC NC vs va vn ka kn A R C X)(hb:Bl w w1):es_ W B b w1 n D EO NO EC NC vs va vn ka kn A R C X:=
 ⟨h.cz.trans (hb.mono (by have:=h.cQ;have:=h.hb;omega)),ao_ h.own hb,fun i hi=>(h.ev i hi).below hb,qa_ (h.bm.below hb),h.hb⟩
theorem et_.below (h:et_ W B b w n D EO NO EC NC vs va vn vr ka kn c A R C X)(hb:Bl w w1):et_ W B b w1 n D EO NO EC NC vs va vn vr ka kn c A R C X:=
 ⟨h.mem.below hb,ao_ h.row hb,h.dr⟩
theorem es_.congr (h:es_ W B b w n D EO NO EC NC vs va vn ka kn A R C X){D':Nat->List Ex}(hd:∀i,i<n->D i=D' i)(ha:∀i,i<ka->A i=A' i)(hx:∀i c,i<kn->c<8->X i c=X' i c):es_ W B b w n D' EO NO EC NC vs va vn ka kn A' R C X':=
 ⟨h.cz,by have:=h.own;rw[y8_ (fun i hi=>⟨hd i hi,rfl,rfl,rfl,rfl⟩)]at this;exact this,fun i hi=>by rw[<-hd i hi];exact h.ev i hi,akb_ h.bm ha hx,h.hb⟩
theorem et_.congr (h:et_ W B b w n D EO NO EC NC vs va vn vr ka kn c A R C X){D':Nat->List Ex}(hd:∀i,i<n->D i=D' i)(ha:∀i,i<ka->A i=A' i)(hx:∀i c,i<kn->c<8->X i c=X' i c)(hr:∀d,d<c->X kn d=X' kn d):et_ W B b w n D' EO NO EC NC vs va vn vr ka kn c A' R C X':=
 ⟨h.mem.congr hd ha hx,by have:=h.row;rw[y9_ hr]at this;exact this,h.dr⟩
theorem es_.dW (h:es_ W B b w n D EO NO EC NC vs va vn ka kn A R C X):et_ W B b w n D EO NO EC NC vs va vn (.slice none 0 0) ka kn 0 A R C X:=
 ⟨h,a8_,by intro i _ e;simp[Value.ownBlock]at e⟩
theorem es_.acc (h:es_ W B b w n D EO NO EC NC vs va vn ka kn A R C X)(hown:w2.ownsRow (b+1) 4 1 (.slice (some ⟨g,0,none⟩) (ka+1) cap) (ka+1) (aa_ A ka++ [.bool (A ka)]))(hg:w.grownBy w2 va.ownBlock)(hf:va.ownBlock=some g\/g=w.heap.size):
 es_ W B b (w2.setCell ⟨b,0,none⟩ (.slice (some ⟨g,0,none⟩) (ka+1) cap)) n D EO NO EC NC vs (.slice (some ⟨g,0,none⟩) (ka+1) cap) vn (ka+1) kn A R C X:=by
 have j:=h.cQ;have f:=h.hb;have a:=h.bm.two.cB;have d:=lc_ h.own a d_ hg;have c:=h.bm.two.cM hg;exact⟨(h.cz.grown hg o_ (fun k e=>by have:=(a.lt k e).1;omega)).setCell s_ _,bg_ d _ _ (fun g' hg'=>nw_ d c d_ g' hg'),fun i hi=>(h.ev i hi).keeps ((f3_.grown a d_ d_ d_ hg).trans (f3_.set c d_ d_ d_)),qa_ (h.bm.acc hown hg hf),h.hb⟩
theorem et_.put (h:et_ W B b w n D EO NO EC NC vs va vn vr ka kn c A R C X)(hown:w2.ownsRow (b+1) 3 1 (.slice (some ⟨g,0,none⟩) (c+1) cap) (c+1) (Λ (X kn) c++ [.int .i64 ((X kn c:Nat):Int)]))(hg:w.grownBy w2 vr.ownBlock)(hf:vr.ownBlock=some g\/g=w.heap.size):
 et_ W B b w2 n D EO NO EC NC vs va vn (.slice (some ⟨g,0,none⟩) (c+1) cap) ka kn (c+1) A R C X:=by
 have a:=h.mem;have j:=a.cQ;have f:=a.hb;rw[<-kp_]at hown;refine⟨⟨a.cz.grown hg o_ (fun k e=>by have:=(h.row.lt k e).1;omega),lc_ a.own h.row d_ hg,fun i d=>(a.ev i d).keeps (f3_.grown h.row d_ d_ d_ hg),qa_ (a.bm.grown h.row h.dr hg),a.hb⟩,hown, ?_⟩;intro i d e;simp only[Value.ownBlock,Δ]at e;rcases hf with hf|hf
 . exact h.dr i d (by rw[hf,e])
 . have:=((a.bm.rows i d).lt (R i) rfl).2;omega
theorem et_.state (h:et_ W B b w n D EO NO EC NC vs va vn vr ka kn c A R C X)(hnew:cn_ w eo ec no nc (D n))
 (hown:w2.ownsRow B 146 2 (.slice (some ⟨g,0,none⟩) (n+1) cap) (n+1) (f4_ D EO NO EC NC n++ [.slice eo (D n).length ec,.slice no (D n).length nc])) (hg:w.grownBy w2 vs.ownBlock):
 et_ W B b w2 (n+1) D (fun i=>if i=n then eo else EO i) (fun i=>if i=n then no else NO i) (fun i=>if i=n then ec else EC i) (fun i=>if i=n then nc else NC i) (.slice (some ⟨g,0,none⟩) (n+1) cap) va vn vr ka kn c A R C X:=by
 have a:=h.mem;have l:=a.cQ;have m:=a.hb;have hK:f3_ w w2:=f3_.grown a.own d_ d_ d_ hg;have j:f4_ D EO NO EC NC n++ [Value.slice eo (D n).length ec,Value.slice no (D n).length nc]=f4_ D (fun i=>if i=n then eo else EO i) (fun i=>if i=n then no else NO i) (fun i=>if i=n then ec else EC i) (fun i=>if i=n then nc else NC i) (n+1):=by
  simp only[f4_,if_true];rw[y8_ (D':=D) (EO':=fun i=>if i=n then eo else EO i) (NO':=fun i=>if i=n then no else NO i) (EC':=fun i=>if i=n then ec else EC i) (NC':=fun i=>if i=n then nc else NC i) ?_];intro i f;have:i≠n:=o_;simp[this]
 rw[j]at hown;refine⟨⟨a.cz.grown hg o_ (fun k e=>(a.own.lt k e).1),hown,fun i f=> ?_, ?_,a.hb⟩,lc_ h.row a.own d_ hg,h.dr⟩
 . by_cases e:i=n
   . subst e;simp only[if_true];exact hnew.keeps hK
   . simp only[if_neg e];exact(a.ev i o_).keeps hK
 . have d:=a.bm;refine⟨⟨μ, ?_,lc_ d.two.cB a.own d_ hg,lc_ d.two.cA a.own d_ hg,d.two.cX⟩,fun i f=>lc_ (d.rows i f) a.own d_ hg⟩;rw[hg.block b l (fun e=>nw_ a.own d.two.cg d_ b e.symm rfl)];exact d.two.cg
theorem et_.done {gr cr:Nat}(h:et_ W B b w n D EO NO EC NC vs va vn (.slice (some ⟨gr,0,none⟩) 8 cr) ka kn 8 A R C X)
 (hown:w2.ownsRow (b+1) 24 1 (.slice (some ⟨g,0,none⟩) (kn+1) cap) (kn+1) (h8_ R C kn++ [.slice (some ⟨gr,0,none⟩) 8 cr])) (hg:w.grownBy w2 vn.ownBlock) (hf:vn.ownBlock=some g\/g=w.heap.size):
 es_ W B b (w2.setCell ⟨b,1,none⟩ (.slice (some ⟨g,0,none⟩) (kn+1) cap)) n D EO NO EC NC vs va (.slice (some ⟨g,0,none⟩) (kn+1) cap) ka (kn+1) A (fun i=>if i=kn then gr else R i) (fun i=>if i=kn then cr else C i) X:=by
 have a:=h.mem;have l:=a.cQ;have j:=a.hb;have c:=a.bm.two.cA;have f:=lc_ a.own c d_ hg;have d:=a.bm.two.cN hg;exact⟨(a.cz.grown hg o_ (fun k e=>by have:=(c.lt k e).1;omega)).setCell s_ _,bg_ f _ _ (fun g' hg'=>nw_ f d d_ g' hg'),fun i hi=>(a.ev i hi).keeps ((f3_.grown c d_ d_ d_ hg).trans (f3_.set d d_ d_ d_)),qa_ (a.bm.b7 h.row hown hg hf),a.hb⟩
end
theorem akc_:(prog.info? 146).map (fun i=>(i.zero,i.size,i.bytes))=some (some (.agg #[.slice none 0 0,.slice none 0 0]),2,48):=k_
def za_ (E:Ex)(w:World)(r:Ending)(w':World):Prop:=∃(Z:ρ) (ps:List Nat),Κ (f0_ E) (Ρ E) ps (8*ps.length)/\r= .returned (.agg #[.slice (some ⟨Z.ba,Z.oa,none⟩) ps.length Z.ca,.slice (some ⟨Z.bn,Z.on,none⟩) ps.length Z.cn])/\π w' Z (dm_ E ps)/\Z.cP w.heap.size ps.length/\Bl w w'
theorem sv_ {D:Nat->List Ex}{EO NO:Nat->Option Addr}(h:w.ownsRow base 146 2 (.slice (some ⟨a,0,none⟩) n cap) n (f4_ D EO NO EC NC n))(hi:i<n):
 a<w.heap.size/\w.cell? ⟨a,i*2,none⟩=some (.slice (EO i) (D i).length (EC i))/\w.cell? ⟨a,i*2+1,none⟩=some (.slice (NO i) (D i).length (NC i)):=by
 obtain⟨e,f⟩:=aj9_ D EO NO EC NC n i hi;obtain⟨k,l,hv,j⟩:=Β h;obtain⟨g,rfl,c⟩:=j o_;simp only[Value.slice.injEq,Δ,Addr.mk.injEq]at hv;obtain⟨⟨rfl,_⟩,_⟩:=hv;have b:=(c (i*2) o_).trans e;have d:=(c (i*2+1) o_).trans f;exact⟨Χ b,b,d⟩
theorem akd_ {E:Ex}{r p:Nat}(hR:Κ (f0_ E) (Ρ E) qs r)(hp:p<qs.length)(h:al_ E (qs.getD p 0)=ga_ (al_ E q) c):Ρ E q c∈qs/\qs.idxOf (Ρ E q c)=p:=by
 have a:=fj_ qs p hp;have e:Ρ E q c=qs.getD p 0:=by
  unfold Ρ;rw[<-h];exact(hR.inr _ a).2
 have b:Ρ E q c∈qs:=by rw[e];exact a
 refine⟨b, ?_⟩;have d:=ix_ b;have f:qs[p]'hp=Ρ E q c:=by rw[e,gd_,ge_ hp];rfl
 have g:qs[qs.idxOf (Ρ E q c)]'d=Ρ E q c:=by simp[getElem_idxOf]
 exact(getElem_inj hR.nd).1 (g.trans f.symm)
theorem ake_ {E:Ex}(hE:E.can)(hq:f0_ E q)(h:∀j,j<qs.length->al_ E (qs.getD j 0)≠ga_ (al_ E q) c):Ρ E q c∉qs:=by
 intro b;have a:=h _ (ix_ b);rw[i3_ qs _ b,rd_ hE hq c]at a;exact a rfl
theorem akf_ (E:Ex)(g:Nat)(w:World)(hE:Τ w g E)(hM:k5_ E):Calls prog 72 #[.pointer (some ⟨g,0,none⟩)] w (za_ E w):=by
 obtain⟨i3,a9,bj,bk,bl⟩:=info_parts e9_;obtain⟨i4,bB,bN,bO,bP⟩:=info_parts hc_;obtain⟨iR,bC,bQ,bR,bS⟩:=info_parts mn_;obtain⟨iT,bD,bT,bU,bV⟩:=info_parts akc_;obtain⟨W,hW,BW,d0,d1⟩:=bl_ w #[.slice none 0 0,.slice none 0 0] 41 #[.slice none 0 0,.slice none 0 0] 146;have a2:W.heap.size=w.heap.size+1+1:=by rw[hW];simp
 obtain⟨x0,x1,_,_⟩:=β d1;have s:=y6_ W none none 0 0 [] g E (cn_.nil W) (hE.below BW) List.Pairwise.nil i_ (by have:=hM.wt;omega);rw[show cm_ [] E=[E]from rfl]at s;simp only[length_nil]at s;have F:=α hM;clear hM hE d1;go_enter func72,ntmps72;go_upto_region 2 with fail;rw[<-hW];clear hW;go_wp2_with fail;refine s.mono ?_;clear s;rintro r y ⟨eo,ec,no,nc,rfl,aZ,aW⟩;simp only[ls_];have bZ:=aW.size;have P0:es_ W W.heap.size (y.heap.size+1) ((y.alloc (.cells #[.slice eo 1 ec,.slice no 1 nc] 146)).alloc (.cells #[.slice none 0 0,.slice none 0 0] 41)) [0].length (fun i=>al_ E ([0].getD i 0)) (fun _=>eo) (fun _=>no) (fun _=>ec) (fun _=>nc) (.slice (some ⟨y.heap.size,0,none⟩) 1 1) (.slice none 0 0) (.slice none 0 0) 0 0 (dm_ E [0]).acc (fun _=>0) (fun _=>0) (pn (Ρ E) [0]):=by
  refine⟨(aW.alloc o_ _).alloc s_ _, ?_,fun i hi=> ?_,ak_.start μ (ο i_),o_⟩
  . have h:=World.ownsRow_lit (base:=W.heap.size) (e:=146) (size:=2) y #[.slice eo 1 ec,.slice no 1 nc] 1 o_ d_ rfl;exact h.alloc (.cells #[.slice none 0 0,.slice none 0 0] 41)
  . have bA:i=0:=by simpa using hi
    subst bA;exact aZ.below (ξ.alloc i_ _)
 have au:∀a r,Κ (f0_ E) (Ρ E) a r->a.length<=2049:=fun a r h=>vq_ F.out.dw h
 clear aZ;go_wp2_with fail;go_loopw [4,6,7,8,9,10,11,12] (fun vs k' _ _ _ _ _ _ wr=>∃(k:Nat) (f:List Nat) (m o:Nat->Option Addr) (l n:Nat->Nat) (va M:Value) (R C:Nat->Nat),k<=f.length/\k'= .int .i64 (k:Int)/\Κ (f0_ E) (Ρ E) f (8*k)/\es_ W W.heap.size (y.heap.size+1) wr f.length (fun i=>al_ E (f.getD i 0)) m o l n vs va M k k (dm_ E f).acc R C (pn (Ρ E) f))
  (fun _ k' _ _ _ _ _ _ _=>2049 - (intOf k').toNat)
 case atStart=>exact⟨0,[0],_,_,_,_,_,_,_,_,i_,rfl,Κ.start (aec_ E),P0⟩
 case round=>
  obtain⟨k,f,m,o,l,n,va,M,R,C,hk,rfl,hR,t⟩:=hrel;clear P0;have a6:=au _ _ hR;have bd:=hR.len;have a7:=η BW t.cz;obtain⟨y0,y1,z0,z1⟩:=β t.bm.two.cg;obtain⟨ap,T,rfl,an⟩:=Β t.own;obtain⟨gp,rfl,_⟩:=an o_;have bi:=t.cQ;clear an;by_cases L:k<f.length
  . obtain⟨bz,z,A⟩:=sv_ t.own L;have bc:(k:Int)<(f.length:Int):=o_;obtain⟨q,G⟩:=δ (f.getD k 0);have aJ:f0_ E q:=by rw[<-G.out];exact hR.inr _ (fj_ f k L)
    have aC:Hid (StE E (al_ E q)):=o5_ F.out.can q aJ.1;have af:=t.ev k L;simp only[G.out]at z A af;have s:=ajy_ wr (m k) (o k) (l k) (n k) (al_ E q) af (by have:=aC.out.len F.out;omega);obtain⟨bb,av⟩:=δ ((al_ E q).any Ex.empty);obtain⟨lk,aj⟩:=δ ((al_ E q).length);rw[av.out]at s;rw[aj.out]at s z A;have aM:Hid ((dm_ E f).acc k=bb):=by
     unfold Hid;show k0_ (al_ E (f.getD k 0))=bb
     rw[G.out];exact av.out
    have HP:=α t;have I:=α hR;clear t hR af y0 y1 z0 z1;have br:=α au;have az:=α aJ;obtain⟨aV,P⟩:=δ (m k);obtain⟨bp,S⟩:=δ (o k);obtain⟨aU,O⟩:=δ (l k);obtain⟨bo,Q⟩:=δ (n k);rw[P.out,O.out]at z;rw[S.out,Q.out]at A;rw[P.out,O.out,S.out,Q.out]at s;clear au aJ a2;obtain⟨o2,ae⟩:∃x,k*2=x:=⟨_,rfl⟩;rw[ae]at z A;go_wp2_with fail;refine s.mono ?_;clear s;rintro r w5 ⟨rfl,ad⟩;have bK:=ad.size;have aF:=HP.out.below ad;obtain⟨y0,y1,z0,z1⟩:=β aF.bm.two.cg;have ao:Hid (es_ W W.heap.size (y.heap.size+1) (w5.alloc (.cells #[.bool bb] 4)) f.length (fun i=>al_ E (f.getD i 0)) m o l n (.slice (some ⟨gp,0,none⟩) f.length T) va M k k (dm_ E f).acc R C (pn (Ρ E) f)):=aF.below ξ;have ah:=ao.out.bm.two.cB;clear aF ad z A a7;go_upto_region 8 with fail;go_cut [] (fun wc=>∃aa,Hid (es_ W W.heap.size (y.heap.size+1) wc f.length (fun i=>al_ E (f.getD i 0)) m o l n (.slice (some ⟨gp,0,none⟩) f.length T) aa M (k+1) k (dm_ E f).acc R C (pn (Ρ E) f)))
    case first=>
     go_wp2_with (at_builtin;refine Υ underlying38 bB bN bO bP ah ?_;intro g' ac w6 D B H;obtain⟨f0,f1,f2,f3⟩:=β (ao.out.bm.two.cM B);have HF:Hid (es_ W W.heap.size (y.heap.size+1) (w6.setCell ⟨y.heap.size+1,0,none⟩ (.slice (some ⟨g',0,none⟩) (k+1) ac)) f.length (fun i=>al_ E (f.getD i 0)) m o l n (.slice (some ⟨gp,0,none⟩) f.length T) (.slice (some ⟨g',0,none⟩) (k+1) ac) M (k+1) k (dm_ E f).acc R C (pn (Ρ E) f)):=(ao.out.acc (by rw[aM.out];exact D) B H);clear D B H);go_meet
     exact⟨_,HF⟩
    case rest=>
     obtain⟨aa,ab⟩:=hcut;clear ao ah y0 y1 z0 z1 HP;have R0:=α ab.out.dW;clear ab;go_wp2_with fail;go_loopw [4,8,9,10,11,12] (fun vs vr c' _ _ _ wr=>∃(c:Nat) (a:List Nat) (m o:Nat->Option Addr) (l n:Nat->Nat),c<=8/\c'= .int .i64 (c:Int)/\k<a.length/\Hid (a.getD k 0=q)/\Hid (Κ (f0_ E) (Ρ E) a (8*k+c))/\et_ W W.heap.size (y.heap.size+1) wr a.length (fun i=>al_ E (a.getD i 0)) m o l n vs aa M vr (k+1) k c (dm_ E a).acc R C (pn (Ρ E) a))
      (fun _ _ c' _ _ _ _=>8 - (intOf c').toNat)
     case atStart=>exact⟨0,f,m,o,l,n,o_,rfl,L,G,I,R0.out⟩
     case round=>
      clear R0 I G L a6 bd bi aM av bc bz aj P S O Q ae hk;obtain⟨c,a,m,o,l,n,hc,rfl,L,G,I,t⟩:=hrel;have a6:=br.out _ _ I.out;have bd:=I.out.len;obtain⟨ap,T,rfl,an⟩:=Β t.mem.own;obtain⟨gq,rfl,_⟩:=an o_;clear an;have bi:=t.mem.cQ;obtain⟨ar,cr,rfl,aI⟩:=Β t.row;by_cases bE:c<8
      . obtain⟨bX,z,A⟩:=sv_ t.mem.own L;have bc:(k:Int)<(a.length:Int):=o_;have bW:(c:Int)<8:=o_;have af:=t.mem.ev k L;simp only[G.out]at z A af;obtain⟨a3,a4,a5⟩:=aC.out.asks F.out c;have s:=aj6_ wr (m k) (o k) (l k) (n k) c (al_ E q) af bE a3 a4 a5;obtain⟨lk,aj⟩:=δ ((al_ E q).length);obtain⟨J,ai⟩:=δ (ga_ (al_ E q) c);rw[ai.out]at s;rw[aj.out]at s z A;obtain⟨aV,P⟩:=δ (m k);obtain⟨bp,S⟩:=δ (o k);obtain⟨aU,O⟩:=δ (l k);obtain⟨bo,Q⟩:=δ (n k);rw[P.out,O.out]at z;rw[S.out,Q.out]at A;rw[P.out,O.out,S.out,Q.out]at s;obtain⟨o2,ae⟩:∃x,k*2=x:=⟨_,rfl⟩;rw[ae]at z A;have HP:=α t;clear t af a3 a4 a5 aI;go_wp2_with fail;refine s.mono ?_;clear s z A ae P S O Q aj;rintro r w5 ⟨V,U,Y,X,rfl,a0,ad⟩;have bK:=ad.size;obtain⟨l2,aA⟩:=δ (J.length);rw[aA.out];obtain⟨W6,a1,B6,-,k6⟩:=ν w5 #[.slice V l2 U,.slice Y l2 X] 146;go_upto_region 14 with fail;rw[<-a1];have ab:Hid (et_ W W.heap.size (y.heap.size+1) W6 a.length (fun i=>al_ E (a.getD i 0)) m o l n (.slice (some ⟨gq,0,none⟩) a.length T) aa M (.slice ar c cr) (k+1) k c (dm_ E a).acc R C (pn (Ρ E) a)):=(HP.out.below ad).below B6;have aS:Hid (cn_ W6 V U Y X J):=a0.below B6;have bh:=κ k6;have bs:=α I.out.inr;have aT:Hid (StE E J):=by unfold Hid;rw[<-ai.out];exact aC.out.step F.out.can c
        clear a1 a0 ad B6 HP;go_wp2_with fail;go_loopw [11,12] (fun p' s' wi=>∃(p:Nat) (b:Bool),p<=a.length/\p'= .int .i64 (p:Int)/\s'= .bool b/\Hid (∀j,j<p->al_ E (a.getD j 0)≠J)/\Hid (b=true->p<a.length/\al_ E (a.getD p 0)=J)/\Bl W6 wi) (fun p' s' _=>2*(a.length - (intOf p').toNat)+(match s' with| .bool true=>0|_=>1))
        case atStart=>exact⟨0,false,o_,rfl,rfl,fun j hj=>absurd hj o_,fun h=>by simp at h,μ⟩
        case round=>
         obtain⟨p,b,hp,rfl,rfl,ak,HF,K⟩:=hrel;have bL:=K.size;cases b
         . by_cases ag:p<a.length
           . have be:(p:Int)<(a.length:Int):=o_;obtain⟨r0,r1,_,_⟩:=β ((K.block _ bh).trans k6);have aG:=ab.out.below K;obtain⟨bY,z,A⟩:=sv_ aG.mem.own ag;have aK:=aG.mem.ev p ag;have aL:StE E (al_ E (a.getD p 0)):=o5_ F.out.can _ (bs.out _ (fj_ a p ag)).1;try simp only at z A aK
             have aD:Bl wr wr.drew:=μ.drew;have s:=aj3_ wr.drew (m p) (o p) V Y (l p) (n p) U X (al_ E (a.getD p 0)) J (aK.below aD) ((aS.out.below K).below aD) (by have:=aL.len F.out;omega) (by have:=aT.out.len F.out;omega);have aq:Hid (iw_ (al_ E (a.getD p 0)) J=true↔al_ E (a.getD p 0)=J):=aj2_ (aL.can F.out.can) (aT.out.can F.out.can);obtain⟨Dp,ax⟩:=δ (al_ E (a.getD p 0));rw[ax.out]at s aq z A;obtain⟨lp,bt⟩:=δ (Dp.length);rw[bt.out]at s z A;rw[aA.out]at s;obtain⟨sb,bv⟩:=δ (iw_ Dp J);rw[bv.out]at s aq;obtain⟨aV,P⟩:=δ (m p);obtain⟨bp,S⟩:=δ (o p);obtain⟨aU,O⟩:=δ (l p);obtain⟨bo,Q⟩:=δ (n p);rw[P.out,O.out]at z;rw[S.out,Q.out]at A;rw[P.out,O.out,S.out,Q.out]at s;obtain⟨o2,ae⟩:∃x,p*2=x:=⟨_,rfl⟩;rw[ae]at z A;have bq:=α K;clear aG aK aL aD K;go_wp2_with fail;go_region_with (go_at_call 117;refine s.mono ?_;rintro r w8 ⟨rfl,aY⟩;have aX:Bl W6 w8:=(bq.out.drew).trans (aY.mono bL);clear aY s)
             all_goals
              cases sb
              . go_wp2_with fail;go_roundw
                case rel=>
                 refine⟨p+1,false,o_,by go_num,rfl,fun j hj=> ?_,fun h=>by simp at h,aX⟩;by_cases e:j=p
                 . subst e;rw[ax.out];intro e2;have:=aq.out.2 e2;simp at this
                 . exact ak.out j o_
                case measure=>exact c_
              . go_wp2_with fail;go_roundw
                case rel=>exact⟨p,true,o_,rfl,rfl,ak.out,fun _=>⟨ag,by rw[ax.out];exact aq.out.1 rfl⟩,aX⟩
                case measure=>simp[intOf]
           . have bH:p=a.length:=o_;have be:¬(p:Int)<(a.length:Int):=o_;subst bH;have HN:Hid (Ρ E q c∉a):=ake_ F.out.can az.out (fun j hj=>by rw[ai.out];exact ak.out j hj);obtain⟨r0,r1,_,_⟩:=β ((K.block _ bh).trans k6);have bG:((a.length:Int)==(a.length:Int))=true:=i_;have bM:y.heap.size+1<wr.heap.size:=by have:=ab.out.mem.cQ;omega
             have am:Hid (Ρ E (a.getD ((8*k+c)/8) 0) ((8*k+c)%8)=Ρ E q c):=by
              unfold Hid;rw[show(8*k+c)/8=k by omega,show(8*k+c)%8=c by omega,G.out]
             have aN:Hid ((fun i=>al_ E ((a++ [Ρ E q c]).getD i 0)) a.length=J):=by
              unfold Hid;show al_ E ((a++ [Ρ E q c]).getD a.length 0)=J
              rw[show(a++ [Ρ E q c]).getD a.length 0=Ρ E q c by simp[gd_],rd_ F.out.can az.out c];exact ai.out
             have aB:Hid (et_ W W.heap.size (y.heap.size+1) (wr.alloc (.cells #[.slice V l2 U,.slice Y l2 X] 146)) a.length (fun i=>al_ E ((a++ [Ρ E q c]).getD i 0)) m o l n (.slice (some ⟨gq,0,none⟩) a.length T) aa M (.slice ar c cr) (k+1) k c (dm_ E (a++ [Ρ E q c])).acc R C (pn (Ρ E) (a++ [Ρ E q c]))):=by
              refine((ab.out.below K).below ξ).congr (fun i hi=> ?_) (fun i hi=> ?_) (fun i d hi hd=>(h7_ I.out i d hd o_).symm) (fun d hd=>(h7_ I.out k d o_ o_).symm)
              . show al_ E (a.getD i 0)=al_ E ((a++ [Ρ E q c]).getD i 0)
                rw[b8_ _ _ _ hi]
              . show k0_ (al_ E (a.getD i 0))=k0_ (al_ E ((a++ [Ρ E q c]).getD i 0))
                rw[b8_ _ _ _ o_]
             have bf:=aB.out.mem.own;have aP:Hid (cn_ (wr.alloc (.cells #[.slice V l2 U,.slice Y l2 X] 146)) V U Y X ((fun i=>al_ E ((a++ [Ρ E q c]).getD i 0)) a.length)):=by
              unfold Hid;rw[aN.out];exact(aS.out.below K).below ξ
             clear HF ak K;go_upto_region 22 with (at_builtin;refine jh_ _ rfl _ _ 148 rfl W.heap.size 146 iT (.agg #[.slice none 0 0,.slice none 0 0]) 2 48 underlying148 bD bT bU bV rfl d_ (.slice (some ⟨gq,0,none⟩) a.length T) a.length (f4_ (fun i=>al_ E ((a++ [Ρ E q c]).getD i 0)) m o l n a.length) rfl bf ⟨wr.heap.size,0,none⟩ 1 1 [.slice V l2 U,.slice Y l2 X] rfl rfl (qj_ _ _ _) (by intro u hu;simp at hu;rcases hu with rfl|rfl<;>rfl) d_ u_ o_ s_ ?_;intro g6 bw w9 D B H;have aQ:=α D;have aO:=α B;clear D B H);have aH:=aB.out.state aP.out (by have e:al_ E ((a++ [Ρ E q c]).getD a.length 0)=J:=aN.out;rw[e,aA.out];exact aQ.out) aO.out;have b0:=aH.mem.cQ;have al:Hid (et_ W W.heap.size (y.heap.size+1) (w9.alloc (.cells #[.int .i64 (a.length:Int)] 3)) (a.length+1) (fun i=>al_ E ((a++ [Ρ E q c]).getD i 0)) (fun i=>if i=a.length then V else m i) (fun i=>if i=a.length then Y else o i) (fun i=>if i=a.length then U else l i) (fun i=>if i=a.length then X else n i) (.slice (some ⟨g6,0,none⟩) (a.length+1) bw) aa M (.slice ar c cr) (k+1) k c (dm_ E (a++ [Ρ E q c])).acc R C (pn (Ρ E) (a++ [Ρ E q c]))):=aH.below ξ;have ah:=al.out.row;clear aH bf aB aP aQ aO r0 r1;go_wp2_with (at_builtin;refine Υ underlying24 a9 bj bk bl ah ?_;intro g' ac b1 D B H;have HO:=α D;have HG:=α B;have ay:=α H;clear D B H);go_roundw
             case rel=>
              have bg:=I.out.new o_ (by rw[am.out];exact HN.out) (by rw[am.out];exact aed_ F.out.can az.out c);rw[am.out]at bg;have bJ:pn (Ρ E) (a++ [Ρ E q c]) k c=a.length:=by
               simp only[pn];rw[b8_ _ _ _ L,G.out,idxOf_append,if_neg HN.out];simp
              have ho:=HO.out;rw[<-bJ]at ho;have bx:=al.out.put ho HG.out ay.out;refine⟨c+1,(a++ [Ρ E q c]),(fun i=>if i=a.length then V else m i),(fun i=>if i=a.length then Y else o i),(fun i=>if i=a.length then U else l i),(fun i=>if i=a.length then X else n i),o_,by go_num,s_,by unfold Hid;rw[b8_ _ _ _ L];exact G.out,bg, ?_⟩;rw[show(a++ [Ρ E q c]).length=a.length+1 by simp];exact bx
             case measure=>exact c_
         . obtain⟨ag,a8⟩:=HF.out rfl;have be:(p:Int)<(a.length:Int):=o_;have bG:((p:Int)==(a.length:Int))=false:=by rw[bq_];omega
           have aR:Hid (Ρ E q c∈a/\a.idxOf (Ρ E q c)=p):=akd_ I.out ag (by rw[ai.out];exact a8);have am:Hid (Ρ E (a.getD ((8*k+c)/8) 0) ((8*k+c)%8)=Ρ E q c):=by
            unfold Hid;rw[show(8*k+c)/8=k by omega,show(8*k+c)%8=c by omega,G.out]
           have al:Hid (et_ W W.heap.size (y.heap.size+1) (wr.alloc (.cells #[.int .i64 (p:Int)] 3)) a.length (fun i=>al_ E (a.getD i 0)) m o l n (.slice (some ⟨gq,0,none⟩) a.length T) aa M (.slice ar c cr) (k+1) k c (dm_ E a).acc R C (pn (Ρ E) a)):=(ab.out.below K).below ξ;have ah:=al.out.row;have bM:y.heap.size+1<wr.heap.size:=by have:=ab.out.mem.cQ;omega
           clear a8 HF ak K;go_wp2_with (at_builtin;refine Υ underlying24 a9 bj bk bl ah ?_;intro g' ac w9 D B H;have HO:=α D;have HG:=α B;have ay:=α H;clear D B H);go_roundw
           case rel=>
            have bI:pn (Ρ E) a k c=p:=by
             unfold pn;rw[G.out];exact aR.out.2
            have ho:=HO.out;rw[<-bI]at ho;exact⟨c+1,a,m,o,l,n,o_,by go_num,L,G,I.out.old o_ (by rw[am.out];exact aR.out.1),al.out.put ho HG.out ay.out⟩
           case measure=>exact c_
      . have he:c=8:=o_;subst he;obtain⟨gr,rfl,_⟩:=aI o_;obtain⟨y0,y1,_,_⟩:=β t.mem.bm.two.cg;have aw:Hid (et_ W W.heap.size (y.heap.size+1) (wr.alloc (.cells #[.slice (some ⟨gr,0,none⟩) 8 cr] 24)) a.length (fun i=>al_ E (a.getD i 0)) m o l n (.slice (some ⟨gq,0,none⟩) a.length T) aa M (.slice (some ⟨gr,0,none⟩) 8 cr) (k+1) k 8 (dm_ E a).acc R C (pn (Ρ E) a)):=t.below ξ;have bF:=aw.out.mem.bm.two.cA;clear t aI;go_wp2_with (at_builtin;refine Υ underlying39 bC bQ bR bS bF ?_;intro g' ac w6 D B H;obtain⟨f0,f1,f2,f3⟩:=β (aw.out.mem.bm.two.cN B);have HF:Hid (es_ W W.heap.size (y.heap.size+1) (w6.setCell ⟨y.heap.size+1,1,none⟩ (.slice (some ⟨g',0,none⟩) (k+1) ac)) a.length (fun i=>al_ E (a.getD i 0)) m o l n (.slice (some ⟨gq,0,none⟩) a.length T) aa (.slice (some ⟨g',0,none⟩) (k+1) ac) (k+1) (k+1) (dm_ E a).acc (fun i=>if i=k then gr else R i) (fun i=>if i=k then cr else C i) (pn (Ρ E) a)):=aw.out.done D B H;clear D B H);go_roundw
        case rel=>
         exact⟨k+1,a,m,o,l,n,_,_,_,_,o_,by go_num,by rw[show 8*(k+1)=8*k+8 by omega];exact I.out,HF.out⟩
        case measure=>exact c_
  . have he:k=f.length:=o_;subst he;obtain⟨Z,rfl,rfl,hT,aE⟩:=t.bm.done (N:=dm_ E f) o_ rfl (fun i hi=>rfl) (fun i c hi hc=>rfl);have k1:=(t.cz.block _ o_).trans d0;obtain⟨r0,r1,r2,r3⟩:=β k1;obtain⟨s0,s1,s2,s3⟩:=β (cb_ (u:= .slice (some ⟨Z.ba,Z.oa,none⟩) f.length Z.ca) k1);obtain⟨t0,t1,t2,t3⟩:=β (fr_ (u:= .slice (some ⟨Z.bn,Z.on,none⟩) f.length Z.cn) (cb_ (u:= .slice (some ⟨Z.ba,Z.oa,none⟩) f.length Z.ca) k1));have bu:Hid (za_ E w (.returned (.agg #[.slice (some ⟨Z.ba,Z.oa,none⟩) f.length Z.ca,.slice (some ⟨Z.bn,Z.on,none⟩) f.length Z.cn])) ((wr.setCell ⟨w.heap.size,0,none⟩ (.slice (some ⟨Z.ba,Z.oa,none⟩) f.length Z.ca)).setCell ⟨w.heap.size,1,none⟩ (.slice (some ⟨Z.bn,Z.on,none⟩) f.length Z.cn))):=
     ⟨Z,f,hR,rfl,hT.res aE (b:=w.heap.size) o_ _ _,aE.mono o_,av_ a7 (b:=w.heap.size) o_ _ _⟩
    clear t hT aE hR k1 au a2;go_wp2_with fail;refine bodyPost_ret (v:= .agg #[.slice (some ⟨Z.ba,Z.oa,none⟩) f.length Z.ca,.slice (some ⟨Z.bn,Z.on,none⟩) f.length Z.cn]) (by simp[results,results72,go_sem,t0,t1]) rfl ?_;exact bu.out
theorem akg_ (s:ByteArray)(b:Int)(w:World)(hss:s.size<=maxLen)(hs:40<s.size):Calls prog 31 #[.string s,.int .i64 b] w (g5_ 1 0 w):=by
 unfold maxLen at hss;obtain⟨W,c,d,-,a⟩:=ν w #[.slice none 0 0,.slice none 0 0] 41;have g:(40:Int)<(s.size:Int):=o_;obtain⟨j,k,h,i⟩:=β a;go_enter func31,ntmps31;go_upto_region 1 with fail;rw[<-c];clear c;go_wp2_with fail;obtain⟨_,f,e⟩:=Φ (u:= .slice none 0 0) (v:= .slice none 0 0) a;refine bodyPost_ret (v:= .tuple #[.agg #[.slice none 0 0,.slice none 0 0],.int .i64 1,.int .i64 0]) (by simp[results,results31,go_sem,e,f]) rfl ?_;exact⟨rfl,av_ d (b:=w.heap.size) o_ (.slice none 0 0) (.slice none 0 0)⟩
theorem akh_ (s:ByteArray)(b:Int)(w:World)(hs:s.size<=40)(ha:bs_ s a):Calls prog 31 #[.string s,.int .i64 b] w (g5_ 2 a w):=by
 obtain⟨W,f,g,-,d⟩:=ν w #[.slice none 0 0,.slice none 0 0] 41;have j:¬(40:Int)<(s.size:Int):=o_;obtain⟨m,n,k,l⟩:=β d;have c:Calls prog 69 #[.string s] W (fun e w'=>e= .returned (.int .i64 (a:Int))/\W=w'):=(m5_ s W hs).mono (fun e w' ⟨r,he,hP,hw⟩=>⟨by rw[he,ahx_ hP ha],hw⟩);clear ha;go_enter func31,ntmps31;go_upto_region 1 with fail;rw[<-f];clear f;go_wp2_with fail;refine c.mono ?_;clear c;rintro e o ⟨rfl,rfl⟩;go_wp2_with fail;obtain⟨_,i,h⟩:=Φ (u:= .slice none 0 0) (v:= .slice none 0 0) d;refine bodyPost_ret (v:= .tuple #[.agg #[.slice none 0 0,.slice none 0 0],.int .i64 2,.int .i64 (a:Int)]) (by simp[results,results31,go_sem,h,i]) rfl ?_;exact⟨rfl,av_ g (b:=w.heap.size) o_ (.slice none 0 0) (.slice none 0 0)⟩
theorem aki_ (s:ByteArray)(b:Int)(w:World)(hs:s.size<=40){p:ζ}{t:Sp}(hp:c8_ s= .ok p t)(hta:t.a=s.size)(hbk:t.bk=true):Calls prog 31 #[.string s,.int .i64 b] w (g5_ 3 t.sp w):=by
 obtain⟨W,c,l,-,-⟩:=ν w #[.slice none 0 0,.slice none 0 0] 41;have q:W.heap.size=w.heap.size+1:=by rw[c];simp
 have j:=aw_ c;have x:¬(40:Int)<(s.size:Int):=o_;have g:Calls prog 69 #[.string s] W (fun e w'=>e= .returned (.int .i64 (-1))/\W=w'):=(m5_ s W hs).mono (fun e w' ⟨r,he,hP,hw⟩=>⟨by rw[he,p2_ hP hp hta],hw⟩);have d:Calls prog 70 #[.string s] W (fun e w'=>e= .returned (.int .i64 (t.sp:Int))/\Bl W w'):=(ow_ s W hs).mono (fun e w' ⟨r,he,hP,hw⟩=>⟨by rw[he,ahy_ hP hp hta hbk],hw⟩);obtain⟨a,h⟩:=δ (t.sp);rw[h.out]at d ⊢;clear hp hta hbk h;go_enter func31,ntmps31;go_upto_region 1 with fail;rw[<-c];clear c;go_wp2_with fail;refine g.mono ?_;clear g;rintro e o ⟨rfl,rfl⟩;go_wp2_with fail;refine d.mono ?_;clear d;rintro e o ⟨rfl,f⟩;have k:=η l f;have i:=(f.block _ o_).trans j;clear f j;obtain⟨A,B,y,z⟩:=β i;go_wp2_with fail;obtain⟨_,n,m⟩:=Φ (u:= .slice none 0 0) (v:= .slice none 0 0) i;refine bodyPost_ret (v:= .tuple #[.agg #[.slice none 0 0,.slice none 0 0],.int .i64 3,.int .i64 (a:Int)]) (by simp[results,results31,go_sem,m,n]) rfl ?_;exact⟨rfl,av_ k (b:=w.heap.size) o_ (.slice none 0 0) (.slice none 0 0)⟩
theorem akj_ (s:ByteArray)(b:Int)(w:World)(hs:s.size<=40){p:ζ}{t:Sp}(hp:c8_ s= .ok p t)(hta:t.a=s.size)(hbk:t.bk=false)(hsz:10<p.size):Calls prog 31 #[.string s,.int .i64 b] w (g5_ 4 0 w):=by
 obtain⟨W,f,x,-,-⟩:=ν w #[.slice none 0 0,.slice none 0 0] 41;have C:W.heap.size=w.heap.size+1:=by rw[f];simp
 have n:=aw_ f;have E:¬(40:Int)<(s.size:Int):=o_;have k:Calls prog 69 #[.string s] W (fun e w'=>e= .returned (.int .i64 (-1))/\W=w'):=(m5_ s W hs).mono (fun e w' ⟨r,he,hP,hw⟩=>⟨by rw[he,p2_ hP hp hta],hw⟩);have i:Calls prog 70 #[.string s] W (fun e w'=>e= .returned (.int .i64 (-1))/\Bl W w'):=(ow_ s W hs).mono (fun e w' ⟨r,he,hP,hw⟩=>⟨by rw[he,sb_ hP hp hta hbk],hw⟩);have o:=q8_ hp hta hbk;have g:Hid (∀c,Calls prog 71 #[.string s] c fun e w'=>e= .returned (.int .i64 (p.size:Int))/\Bl c w'):=fun c=>pb_ 6 o_ s p c hs o
 obtain⟨z,l⟩:=δ (p.size);rw[l.out]at g hsz;have F:(10:Int)<(z:Int):=o_;clear hp hta hbk l o;go_enter func31,ntmps31;go_upto_region 1 with fail;rw[<-f];clear f;go_wp2_with fail;refine k.mono ?_;clear k;rintro e c ⟨rfl,rfl⟩;go_wp2_with fail;refine i.mono ?_;clear i;rintro e c ⟨rfl,d⟩;have j:=g.out c;have D:=d.size;go_wp2_with fail;refine j.mono ?_;clear j g;rintro e B ⟨rfl,h⟩;have q:Bl w B:=(x.trans (d.mono o_)).trans (h.mono o_);have m:=(h.block _ o_).trans ((d.block _ o_).trans n);clear d h n;obtain⟨I,J,G,H⟩:=β m;go_wp2_with fail;obtain⟨_,A,y⟩:=Φ (u:= .slice none 0 0) (v:= .slice none 0 0) m;refine bodyPost_ret (v:= .tuple #[.agg #[.slice none 0 0,.slice none 0 0],.int .i64 4,.int .i64 0]) (by simp[results,results31,go_sem,y,A]) rfl ?_;exact⟨rfl,av_ q (b:=w.heap.size) o_ (.slice none 0 0) (.slice none 0 0)⟩
theorem akk_ (s:ByteArray)(b:Int)(w:World)(hs:s.size<=40){p:ζ}{t:Sp}(hp:c8_ s= .ok p t)(hta:t.a=s.size)(hbk:t.bk=false)(hsz:p.size<=10)(hb:b<1\/40<b):Calls prog 31 #[.string s,.int .i64 b] w (g5_ 8 0 w):=by
 obtain⟨W,g,A,-,-⟩:=ν w #[.slice none 0 0,.slice none 0 0] 41;have F:W.heap.size=w.heap.size+1:=by rw[g];simp
 have q:=aw_ g;have H:¬(40:Int)<(s.size:Int):=o_;have m:Calls prog 69 #[.string s] W (fun e w'=>e= .returned (.int .i64 (-1))/\W=w'):=(m5_ s W hs).mono (fun e w' ⟨r,he,hP,hw⟩=>⟨by rw[he,p2_ hP hp hta],hw⟩);have k:Calls prog 70 #[.string s] W (fun e w'=>e= .returned (.int .i64 (-1))/\Bl W w'):=(ow_ s W hs).mono (fun e w' ⟨r,he,hP,hw⟩=>⟨by rw[he,sb_ hP hp hta hbk],hw⟩);have x:=q8_ hp hta hbk;have h:Hid (∀c,Calls prog 71 #[.string s] c fun e w'=>e= .returned (.int .i64 (p.size:Int))/\Bl c w'):=fun c=>pb_ 6 o_ s p c hs x
 obtain⟨z,n⟩:=δ (p.size);rw[n.out]at h hsz;have l:Hid (∀c,Calls prog 62 #[.int .i64 b] c fun e w'=>e= .returned (.bool false)/\w'=c):=fun c=>(lu_ b c).mono (fun e w' ⟨he,hw⟩=>⟨by rw[he,show(decide (1<=b)&&decide (b<=40))=false by simp;omega],hw⟩)
 clear hp hta hbk n x;go_enter func31,ntmps31;go_upto_region 1 with fail;rw[<-g];clear g;go_wp2_with fail;refine m.mono ?_;clear m;rintro e c ⟨rfl,rfl⟩;go_wp2_with fail;refine k.mono ?_;clear k;rintro e c ⟨rfl,f⟩;have d:=h.out c;have G:=f.size;go_wp2_with fail;refine d.mono ?_;clear d h;rintro e j ⟨rfl,i⟩;have y:Bl w j:=(A.trans (f.mono o_)).trans (i.mono o_);have o:=(i.block _ o_).trans ((f.block _ o_).trans q);clear f i q;obtain⟨K,L,I,J⟩:=β o;have d:=l.out j;go_wp2_with fail;refine d.mono ?_;clear d l;rintro e E ⟨rfl,B⟩;obtain rfl:j=E:=B.symm;go_wp2_with fail;obtain⟨_,D,C⟩:=Φ (u:= .slice none 0 0) (v:= .slice none 0 0) o;refine bodyPost_ret (v:= .tuple #[.agg #[.slice none 0 0,.slice none 0 0],.int .i64 8,.int .i64 0]) (by simp[results,results31,go_sem,C,D]) rfl ?_;exact⟨rfl,av_ y (b:=w.heap.size) o_ (.slice none 0 0) (.slice none 0 0)⟩
theorem akl_ (s:ByteArray)(b:Int)(w:World)(hss:s.size<=maxLen){er:Int}{pl:Nat}(h:jm_ s b=some (er,pl)):Calls prog 31 #[.string s,.int .i64 b] w (g5_ er pl w):=by
 rcases yf_ h with ⟨a,rfl,rfl⟩|⟨a,g,rfl⟩|⟨a,p,t,d,e,⟨c,rfl,rfl⟩|⟨c,f,rfl,rfl⟩|⟨c,f,i,rfl,rfl⟩⟩
 . exact akg_ s b w hss a
 . exact akh_ s b w a g
 . exact aki_ s b w a d e c
 . exact akj_ s b w a d e c f
 . exact akk_ s b w a d e c f i
def zb_ (L:List Nat->Bool)(budget:Nat)(w:World)(e:Ending)(w':World):Prop:=
 Bl w w'/\((∃(Q:ρ) (R:γ),ch_ R L/\R.n<=budget/\e= .returned (.tuple #[.agg #[.slice (some ⟨Q.ba,Q.oa,none⟩) R.n Q.ca,.slice (some ⟨Q.bn,Q.on,none⟩) R.n Q.cn],.int .i64 0,.int .i64 0])/\π w' Q R)\/
  (e= .returned (.tuple #[.agg #[.slice none 0 0,.slice none 0 0],.int .i64 5,.int .i64 0])/\∃R,ch_ R L/\budget<R.n))
theorem akm_ (s:ByteArray)(b:Nat)(w:World){p:ζ}{t:Sp}(hp:c8_ s= .ok p t)(hta:t.a=s.size)(hbk:t.bk=false)(hsz:p.size<=10)(hs:s.size<=40)(hb1:1<=b)(hb2:b<=40):
 Calls prog 31 #[.string s,.int .i64 (b:Int)] w (zb_ (g4_ p) b w):=by
 obtain⟨W,B,BW,-,-⟩:=ν w #[.slice none 0 0,.slice none 0 0] 41;have ap:W.heap.size=w.heap.size+1:=by rw[B];simp
 have b0:=aw_ B;have au:¬(40:Int)<(s.size:Int):=o_;have HP:Calls prog 69 #[.string s] W (fun e w'=>e= .returned (.int .i64 (-1))/\W=w'):=(m5_ s W hs).mono (fun e w' ⟨r,he,hP,hw⟩=>⟨by rw[he,p2_ hP hp hta],hw⟩);have HB:Calls prog 70 #[.string s] W (fun e w'=>e= .returned (.int .i64 (-1))/\Bl W w'):=(ow_ s W hs).mono (fun e w' ⟨r,he,hP,hw⟩=>⟨by rw[he,sb_ hP hp hta hbk],hw⟩);have A:=q8_ hp hta hbk;have I:Hid (∀f,Calls prog 71 #[.string s] f fun e w'=>e= .returned (.int .i64 (p.size:Int))/\Bl f w'):=fun f=>pb_ 6 o_ s p f hs A
 have G:Hid (∀f,Calls prog 73 #[.string s] f fun e w'=>∃g E,e= .returned (.pointer (some ⟨g,0,none⟩))/\Τ w' g E/\k5_ E/\Hid (∀x,Γ x->(E.lang x↔g4_ p x=true))/\Bl f w'):=fun f=>(yd_ 6 s p f hs A).mono (fun e w' ⟨g,E,h1,h2,h3,h4⟩=>⟨g,E,h1,h2,afh_ h3.can h3.dw h3.wt h3.dp A (by rw[bm_];exact hs) hsz,fun x hx=>ahz_ h3 x hx,h4⟩)
 obtain⟨L,HL⟩:=δ (g4_ p);obtain⟨z,Hz⟩:=δ (p.size);rw[Hz.out]at I hsz;rw[HL.out]at G ⊢;have HI:Hid (∀f,Calls prog 62 #[.int .i64 (b:Int)] f fun e w'=>e= .returned (.bool true)/\w'=f):=fun f=>(lu_ (b:Int) f).mono (fun e w' ⟨he,hw⟩=>⟨by rw[he,show(decide (1<=(b:Int))&&decide ((b:Int)<=40))=true by simp;omega],hw⟩)
 clear hp hta hbk Hz A HL;go_enter func31,ntmps31;go_upto_region 1 with fail;rw[<-B];clear B;go_wp2_with fail;refine HP.mono ?_;clear HP;rintro e f ⟨rfl,rfl⟩;go_wp2_with fail;refine HB.mono ?_;clear HB;rintro e f ⟨rfl,N⟩;have d:=I.out f;have ar:=N.size;go_wp2_with fail;refine d.mono ?_;clear d I;rintro e Y ⟨rfl,O⟩;have B2:=η N O;have av:=O.size;clear N O;have d:=HI.out Y;go_wp2_with fail;refine d.mono ?_;clear d HI;rintro e w3 ⟨rfl,ao⟩;obtain rfl:Y=w3:=ao.symm;have d:=G.out Y;go_wp2_with fail;refine d.mono ?_;clear d G;rintro e w3 ⟨g,E,rfl,aa,U,ab,P⟩;have B3:=η B2 P;have aw:=P.size;have d:=akf_ E g w3 aa U;have H:=α U;clear P B2 U aa;go_wp2_with fail;refine d.mono ?_;clear d;rintro e w4 ⟨Z,o,l,rfl,m,ak,S⟩;have am:=l.len;have aq:=vq_ H.out.dw l;have ae:=aee_ l;have ac:Hid (∀x,Γ x->(dm_ E o).b6 x=L x):=fun x hx=>by rw[Bool.eq_iff_iff,aeh_ H.out.can l x hx,ab.out x hx]
 have d:=nq_ Z (dm_ E o) w4 am (by show o.length<=100000000;omega) (fun i c hi hc=>ae.nx i c hi hc) m;rw[show(dm_ E o).n=o.length from rfl]at d;have B4:=η B3 S;have ax:=S.size;clear m l ak ae S B3 H ab;go_wp2_with fail;refine d.mono ?_;clear d;rintro e h ⟨T,Q,R,hR,rfl,m,hF⟩;have ay:=T.size;have ad:Hid (ch_ R L):=hR.dj ac.out;have B5:=η B4 T;clear hR ac T B4;go_upto_region 16 with fail;obtain⟨J,C,K,-,-⟩:=ν h #[.slice (some ⟨Q.ba,Q.oa,none⟩) R.n Q.ca,.slice (some ⟨Q.bn,Q.on,none⟩) R.n Q.cn] 41;have s6:J.heap.size=h.heap.size+1:=by rw[C];simp
 have q:=aw_ C;rw[<-C];clear C;have y:=η B5 K;have ai:=α m;have af:=α K;have ah:=α hF;obtain⟨x0,x1,_,_⟩:=β q;clear m hF K B5;by_cases al:R.n<=b
 . have d:=si_ (some ⟨Q.ba,Q.oa,none⟩) (some ⟨Q.bn,Q.on,none⟩) R.n Q.ca R.n Q.cn (b:Int) J o_;go_wp2_with fail;refine d.mono ?_;clear d;rintro e w7 ⟨rfl,j⟩;have an:=j.size;have k:=η y j;have d2:=(k.block _ o_).trans b0;have d3:=(j.block _ o_).trans q;have D:=η BW k;have ag:Hid (Bl h w7):=af.out.trans (j.mono o_);obtain⟨q0,q1,p0,p1⟩:=β d2;obtain⟨y0,y1,_,_⟩:=β d3;clear j k y x0 x1 q;go_wp2_with fail;have F:=av_ D (b:=h.heap.size) o_ (.slice (some ⟨Q.ba,Q.oa,none⟩) R.n Q.ca) (.slice (some ⟨Q.bn,Q.on,none⟩) R.n Q.cn);have aj:=ai.out.below (av_ ag.out (b:=h.heap.size) ι (.slice (some ⟨Q.ba,Q.oa,none⟩) R.n Q.ca) (.slice (some ⟨Q.bn,Q.on,none⟩) R.n Q.cn));have M:=a3_ (u:= .slice (some ⟨Q.bn,Q.on,none⟩) R.n Q.cn) (a:=⟨h.heap.size,1,none⟩) (a3_ (u:= .slice (some ⟨Q.ba,Q.oa,none⟩) R.n Q.ca) (a:=⟨h.heap.size,0,none⟩) d2 (by show w.heap.size≠h.heap.size;omega)) (by show w.heap.size≠h.heap.size;omega);obtain⟨_,X,V⟩:=Φ (u:= .slice (some ⟨Q.ba,Q.oa,none⟩) R.n Q.ca) (v:= .slice (some ⟨Q.bn,Q.on,none⟩) R.n Q.cn) M;refine bodyPost_ret (v:= .tuple #[.agg #[.slice (some ⟨Q.ba,Q.oa,none⟩) R.n Q.ca,.slice (some ⟨Q.bn,Q.on,none⟩) R.n Q.cn],.int .i64 0,.int .i64 0]) (by simp[results,results31,go_sem,V,X]) rfl ?_;exact⟨av_ F (b:=w.heap.size) o_ _ _,.inl ⟨Q,R,ad.out,al,rfl,aj.res ah.out (b:=w.heap.size) o_ _ _⟩⟩
 . have d:=sh_ (some ⟨Q.ba,Q.oa,none⟩) (some ⟨Q.bn,Q.on,none⟩) R.n Q.ca R.n Q.cn (b:Int) J o_;go_wp2_with fail;refine d.mono ?_;clear d;rintro e w7 ⟨rfl,j⟩;have an:=j.size;have k:=η y j;have d2:=(k.block _ o_).trans b0;have d3:=(j.block _ o_).trans q;have D:=η BW k;obtain⟨q0,q1,p0,p1⟩:=β d2;obtain⟨y0,y1,_,_⟩:=β d3;clear j k y x0 x1 q;go_wp2_with fail;have F:=av_ D (b:=h.heap.size) o_ (.slice none 0 0) (.slice none 0 0);have M:=a3_ (u:= .slice none 0 0) (a:=⟨h.heap.size,1,none⟩) (a3_ (u:= .slice none 0 0) (a:=⟨h.heap.size,0,none⟩) d2 (by show w.heap.size≠h.heap.size;omega)) (by show w.heap.size≠h.heap.size;omega);obtain⟨_,X,V⟩:=Φ (u:= .slice none 0 0) (v:= .slice none 0 0) M;refine bodyPost_ret (v:= .tuple #[.agg #[.slice none 0 0,.slice none 0 0],.int .i64 5,.int .i64 0]) (by simp[results,results31,go_sem,V,X]) rfl ?_;exact⟨av_ F (b:=w.heap.size) o_ _ _,.inr ⟨rfl,R,ad.out,o_⟩⟩
end Go.Proofs.YtpngikmcjkjdaaaGreatDoor
