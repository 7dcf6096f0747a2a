import Derived.Test.YtpngikmcjkjdaaaGreatDoorG0
import Derived.Test.YtpngikmcjkjdaaaGreatDoorG18
import Derived.Test.YtpngikmcjkjdaaaGreatDoorG2
import Derived.Test.YtpngikmcjkjdaaaGreatDoorG5
import Derived.Test.YtpngikmcjkjdaaaGreatDoorG8
set_option linter.unusedVariables false
set_option linter.unusedSimpArgs false
set_option maxRecDepth 20000
set_option maxHeartbeats 80000000
namespace Go.Proofs.YtpngikmcjkjdaaaGreatDoor
open Go.RowKit Tryz
def setL (S:Nat->Bool):Nat->List UInt8
 |0=> []
 |c+1=>if S c then setL S c++ [UInt8.ofNat (97+c)]else setL S c
def Ex.nm:Ex->List UInt8
 | .nil=> [45]
 | .one S=>91::setL S 8++ [93]
 | .star a=>40::a.nm++ [41,42]
 | .thn a b=>40::a.nm++44::b.nm++ [41]
 | .alt a b=>40::a.nm++124::b.nm++ [41]
def Ex.can:Ex->Prop
 | .nil=>True
 | .one S=>∀c,8<=c->S c=false
 | .star a=>a.can
 | .thn a b=>a.can/\b.can
 | .alt a b=>a.can/\b.can
theorem r2_ {S:Nat->Bool}{n:Nat}(hn:n<=8){x:UInt8}(hx:x∈setL S n):∃c,c<n/\S c=true/\x.toNat=97+c:=by
 induction n with
 |zero=>simp[setL]at hx
 |succ n ih=>
  simp only[setL]at hx;split at hx
  . rename_i h;rcases List.mem_append.1 hx with hx|hx
    . obtain⟨c,h1,h2⟩:=ih o_ hx;exact⟨c,o_,h2⟩
    . rw[List.mem_singleton]at hx;subst hx;refine⟨n,o_,h, ?_⟩;rw[UInt8.toNat_ofNat'];omega
  . obtain⟨c,h1,h2⟩:=ih o_ hx;exact⟨c,o_,h2⟩
theorem aa5_ {S:Nat->Bool}{n c:Nat}(hc:c<n)(h:S c=true):UInt8.ofNat (97+c)∈setL S n:=by
 induction n with
 |zero=>omega
 |succ n ih=>
  simp only[setL];by_cases e:c=n
  . subst e;rw[if_pos h];simp
  . have:=ih o_;split
    . exact List.mem_append_left _ this
    . exact this
theorem aa6_ {S S':Nat->Bool}(h:setL S 8=setL S' 8)(hS:∀c,8<=c->S c=false)(hS':∀c,8<=c->S' c=false):S=S':=by
 have key:∀ {S S':Nat->Bool},setL S 8=setL S' 8->∀c,c<8->S c=true->S' c=true:=by
  intro S S' h c hc hs;have h1:=aa5_ hc hs;rw[h]at h1;obtain⟨d,h2,h3,h4⟩:=r2_ o_ h1;rw[UInt8.toNat_ofNat']at h4;rw[show c=d by omega];exact h3
 funext c;by_cases hc:c<8
 . cases h1:S c
   . cases h2:S' c
     . rfl
     . rw[key h.symm c hc h2]at h1;simp at h1
   . rw[key h c hc h1]
 . rw[hS c o_,hS' c o_]
theorem aa7_ {α:Type}{z:α}{l l' x y:List α}(h:l++z::x=l'++z::y)(h1:z∉l)(h2:z∉l'):l=l'/\x=y:=by
 induction l generalizing l' with
 |nil=>
  cases l' with
  |nil=>simpa using h
  |cons b l'=>simp at h;exact absurd (by simp[h.1]) h2
 |cons a l ih=>
  cases l' with
  |nil=>simp at h;exact absurd (by simp[h.1]) h1
  |cons b l'=>
   simp only[List.cons_append,List.cons.injEq]at h;obtain⟨e1,e2⟩:=ih h.2 (fun hz=>h1 (by simp[hz])) (fun hz=>h2 (by simp[hz]));exact⟨by rw[h.1,e1],e2⟩
theorem no93 (S:Nat->Bool):(93:UInt8)∉setL S 8:=by
 intro h;obtain⟨c,_,_,h3⟩:=r2_ o_ h;have:(93:UInt8).toNat=93:=rfl;omega
theorem ae6_ (e:Ex):∀e' x y,e.can->e'.can->e.nm++x=e'.nm++y->e=e'/\x=y:=by
 induction e with
 |nil=>
  intro e' x y _ _ h;cases e'<;>simp[Ex.nm]at h
  exact⟨rfl,h⟩
 |one S=>
  intro e' x y hc hc' h;cases e' with
  |nil=>simp[Ex.nm]at h
  |one S'=>
   simp only[Ex.nm,List.cons_append,List.append_assoc,List.cons.injEq,true_and,List.nil_append]at h;obtain⟨h1,h2⟩:=aa7_ h (no93 S) (no93 S');exact⟨by rw[aa6_ h1 hc hc'],h2⟩
  |star _=>simp[Ex.nm]at h
  |thn _ _=>simp[Ex.nm]at h
  |alt _ _=>simp[Ex.nm]at h
 |star a iha=>
  intro e' x y hc hc' h;cases e' with
  |nil=>simp[Ex.nm]at h
  |one S'=>simp[Ex.nm]at h
  |star b=>
   simp only[Ex.nm,List.cons_append,List.append_assoc,List.cons.injEq,true_and,List.nil_append]at h;obtain⟨rfl,h2⟩:=iha b _ _ hc hc' h;simp at h2;exact⟨rfl,h2⟩
  |thn b d=>
   simp only[Ex.nm,List.cons_append,List.append_assoc,List.cons.injEq,true_and,List.nil_append]at h;obtain⟨rfl,h2⟩:=iha b _ _ hc hc'.1 h;simp at h2
  |alt b d=>
   simp only[Ex.nm,List.cons_append,List.append_assoc,List.cons.injEq,true_and,List.nil_append]at h;obtain⟨rfl,h2⟩:=iha b _ _ hc hc'.1 h;simp at h2
 |thn a b iha ihb=>
  intro e' x y hc hc' h;cases e' with
  |nil=>simp[Ex.nm]at h
  |one S'=>simp[Ex.nm]at h
  |star d=>
   simp only[Ex.nm,List.cons_append,List.append_assoc,List.cons.injEq,true_and,List.nil_append]at h;obtain⟨rfl,h2⟩:=iha d _ _ hc.1 hc' h;simp at h2
  |thn d f=>
   simp only[Ex.nm,List.cons_append,List.append_assoc,List.cons.injEq,true_and,List.nil_append]at h;obtain⟨rfl,h2⟩:=iha d _ _ hc.1 hc'.1 h;simp only[List.cons.injEq,true_and]at h2;obtain⟨rfl,h3⟩:=ihb f _ _ hc.2 hc'.2 h2;simp at h3;exact⟨rfl,h3⟩
  |alt d f=>
   simp only[Ex.nm,List.cons_append,List.append_assoc,List.cons.injEq,true_and,List.nil_append]at h;obtain⟨rfl,h2⟩:=iha d _ _ hc.1 hc'.1 h;simp at h2
 |alt a b iha ihb=>
  intro e' x y hc hc' h;cases e' with
  |nil=>simp[Ex.nm]at h
  |one S'=>simp[Ex.nm]at h
  |star d=>
   simp only[Ex.nm,List.cons_append,List.append_assoc,List.cons.injEq,true_and,List.nil_append]at h;obtain⟨rfl,h2⟩:=iha d _ _ hc.1 hc' h;simp at h2
  |thn d f=>
   simp only[Ex.nm,List.cons_append,List.append_assoc,List.cons.injEq,true_and,List.nil_append]at h;obtain⟨rfl,h2⟩:=iha d _ _ hc.1 hc'.1 h;simp at h2
  |alt d f=>
   simp only[Ex.nm,List.cons_append,List.append_assoc,List.cons.injEq,true_and,List.nil_append]at h;obtain⟨rfl,h2⟩:=iha d _ _ hc.1 hc'.1 h;simp only[List.cons.injEq,true_and]at h2;obtain⟨rfl,h3⟩:=ihb f _ _ hc.2 hc'.2 h2;simp at h3;exact⟨rfl,h3⟩
theorem ada_ {e e':Ex}(hc:e.can)(hc':e'.can)(h:e.nm=e'.nm):e=e':=(ae6_ e e' [] [] hc hc' (by rw[h])).1
theorem io_ {a b:Ex}(ha:a.can)(hb:b.can):(a.thn' b).can:=by
 unfold Ex.thn';split
 . exact hb
 . split
   . exact ha
   . exact⟨ha,hb⟩
theorem r3_ {a b:Ex}(ha:a.can)(hb:b.can):(a.alt' b).can:=by
 unfold Ex.alt';split
 . exact ha
 . exact⟨ha,hb⟩
theorem x8_ {a:Ex}(ha:a.can):a.star'.can:=by
 unfold Ex.star';split
 . exact ha
 . exact ha
theorem aa8_ {x:Ex}(h:x.can)(n:Nat):(x.opts n).can:=by
 induction n with
 |zero=>trivial
 |succ n ih=>exact r3_ trivial (io_ h ih)
theorem r4_ {x e:Ex}(h:x.can)(he:e.can)(n:Nat):(x.must e n).can:=by
 induction n with
 |zero=>exact he
 |succ n ih=>exact io_ h ih
theorem aa9_ {x:Ex}(h:x.can)(lo:Nat)(hi:Int):(x.repd lo hi).can:=by
 unfold Ex.repd;split
 . exact r4_ h (x8_ h) lo
 . exact r4_ h (aa8_ h _) lo
theorem mt_ {e:Ex}(h:e.can):∀d∈e.pds,d.can:=by
 induction e with
 |nil=>intro d hd;simp[Ex.pds]at hd
 |one S=>intro d hd;simp[Ex.pds]at hd;subst hd;trivial
 |alt a b iha ihb=>
  intro d hd;simp only[Ex.pds,List.mem_append]at hd;rcases hd with hd|hd
  . exact iha h.1 d hd
  . exact ihb h.2 d hd
 |thn a b iha ihb=>
  intro d hd;simp only[Ex.pds,List.mem_append,List.mem_map]at hd;rcases hd with ⟨y,hy,rfl⟩|hd
  . exact io_ (iha h.1 y hy) h.2
  . exact ihb h.2 d hd
 |star a iha=>
  intro d hd;simp only[Ex.pds,List.mem_map]at hd;obtain⟨y,hy,rfl⟩:=hd;exact io_ (iha h y hy) h
def SrtE (l:List Ex):Prop:=l.Pairwise fun a b=>Op.bytesLess a.nm b.nm=true
def insE:List Ex->Ex->List Ex
 | [],e=> [e]
 |x::l,e=>if x.nm=e.nm then x::l else if Op.bytesLess e.nm x.nm then e::x::l else x::insE l e
theorem ku_ {l:List Ex}{e d:Ex}(hc:e.can)(hl:∀x∈l,x.can):d∈insE l e↔d=e\/d∈l:=by
 induction l with
 |nil=>simp[insE]
 |cons x l ih=>
  simp only[insE];split
  . rename_i h;have:x=e:=ada_ (hl x i_) hc h;subst this;simp
  . split
    . simp
    . rw[List.mem_cons,ih (fun y hy=>hl y (by simp[hy])),List.mem_cons];constructor
      . rintro(h|h|h)
        . exact .inr (.inl h)
        . exact .inl h
        . exact .inr (.inr h)
      . rintro(h|h|h)
        . exact .inr (.inl h)
        . exact .inl h
        . exact .inr (.inr h)
theorem r5_ {l:List Ex}{e:Ex}(hc:e.can)(hl:∀x∈l,x.can)(hs:SrtE l):SrtE (insE l e):=by
 induction l with
 |nil=>simp[insE,SrtE]
 |cons x l ih=>
  have hs':=List.pairwise_cons.1 hs;simp only[insE];split
  . exact hs
  . rename_i hne;split
    . rename_i hlt;refine List.pairwise_cons.2 ⟨fun y hy=> ?_,hs⟩;rcases List.mem_cons.1 hy with rfl|hy
      . exact hlt
      . exact ip_ _ _ _ hlt (hs'.1 y hy)
    . rename_i hlt;have hgt:Op.bytesLess x.nm e.nm=true:=ok_ _ _ (by simpa using hlt) (fun e=>hne e.symm);refine List.pairwise_cons.2 ⟨fun y hy=> ?_,ih (fun y hy=>hl y (by simp[hy])) hs'.2⟩;rcases (ku_ hc (fun y hy=>hl y (by simp[hy]))).1 hy with rfl|hy
      . exact hgt
      . exact hs'.1 y hy
def insL (out:List Ex)(l:List Ex):List Ex:=l.foldl insE out
def fd_ (es:List Ex)(c:Nat):List Ex:=es.foldl (fun out e=>insL out (e.behind c)) []
def accE (es:List Ex):Bool:=es.any Ex.empty
theorem vd_ {out l:List Ex}(hl:∀x∈l,x.can)(ho:∀x∈out,x.can)(hs:SrtE out):SrtE (insL out l)/\∀d,d∈insL out l↔d∈out\/d∈l:=by
 induction l generalizing out with
 |nil=>exact⟨hs,fun d=>by simp[insL]⟩
 |cons x l ih=>
  have hx:=hl x i_;have ho':∀y∈insE out x,y.can:=fun y hy=>by
   rcases (ku_ hx ho).1 hy with rfl|hy
   . exact hx
   . exact ho y hy
  obtain⟨h1,h2⟩:=ih (out:=insE out x) (fun y hy=>hl y (by simp[hy])) ho' (r5_ hx ho hs);refine⟨h1,fun d=> ?_⟩;show d∈insL (insE out x) l↔_
  rw[h2 d,ku_ hx ho,List.mem_cons];constructor
  . rintro((h|h)|h)
    . exact .inr (.inl h)
    . exact .inl h
    . exact .inr (.inr h)
  . rintro(h|h|h)
    . exact .inl (.inr h)
    . exact .inl (.inl h)
    . exact .inr h
theorem oc_ {e:Ex}(h:e.can)(c:Nat):∀d∈e.behind c,d.can:=fun d hd=>mt_ h d (ib_ e c d hd)
theorem ni_ {es:List Ex}(c:Nat)(hc:∀x∈es,x.can):SrtE (fd_ es c)/\∀d,d∈fd_ es c↔∃e∈es,d∈e.behind c:=by
 have key:∀(es out:List Ex),(∀x∈es,x.can)->(∀x∈out,x.can)->SrtE out->SrtE (es.foldl (fun out e=>insL out (e.behind c)) out)/\∀d,d∈es.foldl (fun out e=>insL out (e.behind c)) out↔d∈out\/∃e∈es,d∈e.behind c:=by
  intro es;induction es with
  |nil=>intro out _ _ hs;exact⟨hs,fun d=>i_⟩
  |cons e es ih=>
   intro out hc ho hs;have he:=hc e i_;obtain⟨h1,h2⟩:=vd_ (oc_ he c) ho hs;obtain⟨h3,h4⟩:=ih (insL out (e.behind c)) (fun y hy=>hc y (by simp[hy])) (fun y hy=>by
    rcases (h2 y).1 hy with hy|hy
    . exact ho y hy
    . exact oc_ he c y hy) h1
   refine⟨h3,fun d=> ?_⟩;rw[List.foldl_cons,h4 d,h2 d];constructor
   . rintro((h|h)|⟨x,hx,h⟩)
     . exact .inl h
     . exact .inr ⟨e,i_,h⟩
     . exact .inr ⟨x,by simp[hx],h⟩
   . rintro(h|⟨x,hx,h⟩)
     . exact .inl (.inl h)
     . rcases List.mem_cons.1 hx with rfl|hx
       . exact .inl (.inr h)
       . exact .inr ⟨x,hx,h⟩
 obtain⟨h1,h2⟩:=key es [] hc i_ (by simp[SrtE]);exact⟨h1,fun d=>by rw[fd_,h2 d];simp⟩
def fu_:List Ex->List (List Ex)
 | []=> [[]]
 |a::l=>fu_ l++(fu_ l).map (a::·)
theorem x9_ (l:List Ex):(fu_ l).length=2^l.length:=by
 induction l with
 |nil=>rfl
 |cons a l ih=>simp only[fu_,List.length_append,List.length_map,ih,List.length_cons,Nat.pow_succ];omega
theorem r6_ {U l:List Ex}(hU:SrtE U)(hl:SrtE l)(h:∀d∈l,d∈U):l∈fu_ U:=by
 induction U generalizing l with
 |nil=>
  cases l with
  |nil=>simp[fu_]
  |cons a l=>exact absurd (h a i_) i_
 |cons u U ih=>
  have p:=List.pairwise_cons.1 hU;simp only[fu_,List.mem_append,List.mem_map];cases l with
  |nil=>exact .inl (ih p.2 (by simp[SrtE]) i_)
  |cons a l=>
   have q:=List.pairwise_cons.1 hl;rcases List.mem_cons.1 (h a i_)with h1|h1
   . subst h1;refine .inr ⟨l,ih p.2 q.2 (fun d hd=> ?_),rfl⟩;rcases List.mem_cons.1 (h d (by simp[hd]))with h2|h2
     . subst h2;have:=q.1 d hd;rw[ht_]at this;simp at this
     . exact h2
   . refine .inl (ih p.2 hl (fun d hd=> ?_));rcases List.mem_cons.1 (h d hd)with h2|h2
     . subst h2;rcases List.mem_cons.1 hd with h3|h3
       . subst h3;exact h1
       . have q1:=q.1 d h3;have q2:=p.1 a h1;rw[no_ q1]at q2;simp at q2
     . exact h2
def uniE (E:Ex):List Ex:=insL [] (E::E.pds)
theorem gw_ {E:Ex}(hE:E.can):SrtE (uniE E)/\∀d,d∈uniE E↔d=E\/d∈E.pds:=by
 obtain⟨h1,h2⟩:=vd_ (out:=[]) (l:=E::E.pds) (fun x hx=>by
  rcases List.mem_cons.1 hx with rfl|hx
  . exact hE
  . exact mt_ hE x hx) i_ (by simp[SrtE])
 exact⟨h1,fun d=>by rw[uniE,h2 d];simp⟩
theorem r7_ (l:List Ex)(e:Ex):(insE l e).length<=l.length+1:=by
 induction l with
 |nil=>simp[insE]
 |cons x l ih=>
  simp only[insE];split
  . simp
  . split
    . simp
    . simp;omega
theorem aba_ (out l:List Ex):(insL out l).length<=out.length+l.length:=by
 induction l generalizing out with
 |nil=>simp[insL]
 |cons x l ih=>
  have h1:=ih (insE out x);have h2:=r7_ out x;show(insL (insE out x) l).length<=_
  simp only[List.length_cons];omega
theorem r8_ (E:Ex):(uniE E).length<=E.letters+1:=by
 have:=aba_ [] (E::E.pds);simp only[List.length_nil,List.length_cons,wy_]at this;unfold uniE;omega
def stsE (E:Ex):List (List Ex):=[E]::fu_ (uniE E)
theorem abb_ (E:Ex)(h:E.letters<=10):(stsE E).length<=2049:=by
 have h1:=r8_ E;have h2:2^(uniE E).length<=2^11:=Nat.pow_le_pow_right o_ o_;simp only[stsE,List.length_cons,x9_];omega
noncomputable instance:DecidableEq Ex:=fun a b=>Classical.propDecidable (a=b)
noncomputable def codE (E:Ex)(r:List Ex):Nat:=(stsE E).idxOf r
def decE (E:Ex)(q:Nat):List Ex:=(stsE E).getD q []
structure StE (E:Ex)(r:List Ex):Prop where
 srt:SrtE r
 uni:∀d∈r,d∈uniE E
theorem StE.can {E:Ex}{r:List Ex}(hE:E.can)(h:StE E r):∀d∈r,d.can:=fun d hd=>by
 rcases ((gw_ hE).2 d).1 (h.uni d hd)with rfl|h1
 . exact hE
 . exact mt_ hE d h1
theorem StE.first {E:Ex}(hE:E.can):StE E [E]:=⟨by simp[SrtE],fun d hd=>by simp at hd;subst hd;exact((gw_ hE).2 d).2 (.inl rfl)⟩
theorem StE.mem {E:Ex}{r:List Ex}(hE:E.can)(h:StE E r):r∈stsE E:=List.mem_cons_of_mem _ (r6_ (gw_ hE).1 h.srt h.uni)
theorem StE.step {E:Ex}{r:List Ex}(hE:E.can)(h:StE E r)(c:Nat):StE E (fd_ r c):=by
 obtain⟨h1,h2⟩:=ni_ (es:=r) c (h.can hE);refine⟨h1,fun d hd=> ?_⟩;obtain⟨e,he,hd⟩:=(h2 d).1 hd;refine((gw_ hE).2 d).2 (.inr ?_);rcases ((gw_ hE).2 e).1 (h.uni e he)with rfl|h3
 . exact ib_ e c d hd
 . exact wz_ E c e h3 d hd
theorem abc_ {U l:List Ex}(hU:SrtE U)(h:l∈fu_ U):SrtE l/\∀d∈l,d∈U:=by
 induction U generalizing l with
 |nil=>simp[fu_]at h;subst h;simp[SrtE]
 |cons u U ih=>
  have p:=List.pairwise_cons.1 hU;simp only[fu_,List.mem_append,List.mem_map]at h;rcases h with h|⟨l',h,rfl⟩
  . obtain⟨h1,h2⟩:=ih p.2 h;exact⟨h1,fun d hd=>by simp[h2 d hd]⟩
  . obtain⟨h1,h2⟩:=ih p.2 h;refine⟨List.pairwise_cons.2 ⟨fun d hd=>p.1 d (h2 d hd),h1⟩,fun d hd=> ?_⟩;rcases List.mem_cons.1 hd with rfl|hd
    . simp
    . simp[h2 d hd]
theorem mu_ {E:Ex}(hE:E.can)(q:Nat)(hq:q<(stsE E).length):StE E (decE E q):=by
 have hm:decE E q∈stsE E:=by
  unfold decE;rw[List.getD_eq_getElem?_getD,List.getElem?_eq_getElem hq];exact List.getElem_mem hq
 rcases List.mem_cons.1 hm with h|h
 . rw[h];exact StE.first hE
 . obtain⟨h1,h2⟩:=abc_ (gw_ hE).1 h;exact⟨h1,h2⟩
theorem nj_ {E:Ex}{r:List Ex}(h:r∈stsE E):decE E (codE E r)=r/\codE E r<(stsE E).length:=by
 have hl:codE E r<(stsE E).length:=List.idxOf_lt_length_of_mem h;refine⟨?_,hl⟩;unfold decE;rw[List.getD_eq_getElem?_getD,List.getElem?_eq_getElem hl];simp[codE]
theorem v9_ (E:Ex):codE E [E]=0:=by unfold codE stsE;simp
noncomputable def sucE (E:Ex)(q c:Nat):Nat:=codE E (fd_ (decE E q) c)
def ei_ (E:Ex)(q:Nat):Prop:=q<(stsE E).length/\codE E (decE E q)=q
theorem p2_ {E:Ex}{r:List Ex}(h:r∈stsE E):ei_ E (codE E r):=⟨(nj_ h).2,by rw[(nj_ h).1]⟩
theorem wa_ (E:Ex):ei_ E 0:=by
 have:=p2_ (E:=E) (r:=[E]) (by simp[stsE]);rw[v9_]at this;exact this
theorem ya_ {E:Ex}(hE:E.can){q:Nat}(hq:ei_ E q)(c:Nat):ei_ E (sucE E q c):=p2_ (((mu_ hE q hq.1).step hE c).mem hE)
theorem nk_ {E:Ex}(hE:E.can){q:Nat}(hq:ei_ E q)(c:Nat):decE E (sucE E q c)=fd_ (decE E q) c:=(nj_ (((mu_ hE q hq.1).step hE c).mem hE)).1
theorem yb_ {E:Ex}(hl:E.letters<=10){ps:List Nat}{p:Nat}(h:PRel (ei_ E) (sucE E) ps p):ps.length<=2049:=by
 have:=d3_ (stsE E).length ps h.nd (fun x hx=>(h.inr x hx).1);have:=abb_ E hl;omega
noncomputable def tabE (E:Ex)(ps:List Nat):Tab where
 n:=ps.length
 acc k:=accE (decE E (ps.getD k 0))
 nxt:=pn (sucE E) ps
theorem yc_ {E:Ex}{ps:List Nat}(h:PRel (ei_ E) (sucE E) ps (8*ps.length)):cd_ (tabE E ps) where
 pos:=h.len
 nx i c hi hc:=by
  have:=(h.clo (8*i+c) (by have:i<ps.length:=hi;omega)).2;rw[show(8*i+c)/8=i by omega,show(8*i+c)%8=c by omega]at this;exact List.idxOf_lt_length_of_mem this
 step p hp:=h.num p hp
 row i hi:=h.row i (by have:i<ps.length:=hi;omega)
 all:=h.cm
theorem yd_ {E:Ex}(hE:E.can){ps:List Nat}(h:PRel (ei_ E) (sucE E) ps (8*ps.length))(k:Nat)(hk:k<ps.length)(x:List Nat)(hx:ax_ x):
 (tabE E ps).read k x<ps.length/\decE E (ps.getD ((tabE E ps).read k x) 0)=x.foldl fd_ (decE E (ps.getD k 0)):=by
 induction x generalizing k with
 |nil=>exact⟨hk,rfl⟩
 |cons c x ih=>
  have hc:c<8:=hx c i_;have hx':ax_ x:=fun d hd=>hx d (by simp[hd])
  have hcl:=(h.clo (8*k+c) o_).2;rw[show(8*k+c)/8=k by omega,show(8*k+c)%8=c by omega]at hcl;have hlt:(tabE E ps).nxt k c<ps.length:=List.idxOf_lt_length_of_mem hcl;have he:ps.getD ((tabE E ps).nxt k c) 0=sucE E (ps.getD k 0) c:=e1_ ps _ hcl;simp only[Tab.read,List.foldl_cons];have:=ih _ hlt hx';rw[he,nk_ hE (h.inr _ (ds_ ps k hk)) c]at this;exact this
theorem ye_ {E:Ex}(hE:E.can)(x:List Nat)(r:List Ex)(h:StE E r):accE (x.foldl fd_ r)=true↔∃d∈r,d.lang x:=by
 induction x generalizing r with
 |nil=>
  simp only[List.foldl_nil,accE,List.any_eq_true,k3_]
 |cons c x ih=>
  rw[List.foldl_cons,ih _ (h.step hE c)];obtain⟨_,h2⟩:=ni_ (es:=r) c (h.can hE);constructor
  . rintro⟨d,hd,hx⟩;obtain⟨e,he,hd⟩:=(h2 d).1 hd;exact⟨e,he,(na_ e c x).2 ⟨d,hd,hx⟩⟩
  . rintro⟨e,he,hx⟩;obtain⟨d,hd,hx⟩:=(na_ e c x).1 hx;exact⟨d,(h2 d).2 ⟨e,he,hd⟩,hx⟩
theorem r9_ {E:Ex}(hE:E.can){ps:List Nat}(h:PRel (ei_ E) (sucE E) ps (8*ps.length))(x:List Nat)(hx:ax_ x):(tabE E ps).accepts x=true↔E.lang x:=by
 have:=yd_ hE h 0 h.len x hx;rw[h.hd]at this;simp only[Tab.accepts];show accE (decE E (ps.getD ((tabE E ps).read 0 x) 0))=true↔_
 rw[this.2,show decE E 0=[E]from rfl,ye_ hE x [E] (StE.first hE)];simp
def Pat.norm:Pat->Pat
 | .none=> .none
 | .one S=> .one (fun c=>decide (c<8)&&S c)
 | .chain a b=> .chain a.norm b.norm
 | .alt a b=> .alt a.norm b.norm
 | .rep a lo co en=> .rep a.norm lo co en
theorem l2_ {u v:List Nat}(h:ax_ (u++v)):ax_ u/\ax_ v:=⟨fun c hc=>h c (by simp[hc]),fun c hc=>h c (by simp[hc])⟩
theorem p3_ {l l' m m':List Nat->Prop}(h:∀x,ax_ x->(l x↔l' x))(h':∀x,ax_ x->(m x↔m' x))(x:List Nat)(hx:ax_ x):Cat l m x↔Cat l' m' x:=by
 constructor
 . rintro⟨u,v,rfl,a,b⟩;obtain⟨h1,h2⟩:=l2_ hx;exact⟨u,v,rfl,(h u h1).1 a,(h' v h2).1 b⟩
 . rintro⟨u,v,rfl,a,b⟩;obtain⟨h1,h2⟩:=l2_ hx;exact⟨u,v,rfl,(h u h1).2 a,(h' v h2).2 b⟩
theorem od_ {l l':List Nat->Prop}(h:∀x,ax_ x->(l x->l' x))(x:List Nat)(hx:ax_ x)(hs:Star l x):Star l' x:=by
 induction hs with
 |nil=>exact .nil
 |cons hu _ ih=>
  obtain⟨h1,h2⟩:=l2_ hx;exact .cons (h _ h1 hu) (ih h2)
theorem sa_ {l l':List Nat->Prop}(h:∀x,ax_ x->(l x↔l' x))(lo:Nat)(en:Bool)(k:Nat)(x:List Nat)(hx:ax_ x):d4_ l lo en k x↔d4_ l' lo en k x:=by
 induction k generalizing x with
 |zero=>exact Iff.rfl
 |succ k ih=>
  refine p3_ ih (fun y hy=> ?_) x hx;unfold Copy;split
  . exact h y hy
  . split
    . exact⟨od_ (fun z hz=>(h z hz).1) y hy,od_ (fun z hz=>(h z hz).2) y hy⟩
    . rw[h y hy]
theorem yf_ (p:Pat)(x:List Nat)(hx:ax_ x):p.norm.lang x↔p.lang x:=by
 induction p generalizing x with
 |none=>exact Iff.rfl
 |one S=>
  constructor
  . rintro⟨c,rfl,h⟩;simp at h;exact⟨c,rfl,h.2⟩
  . rintro⟨c,rfl,h⟩;exact⟨c,rfl,by have:c<8:=hx c i_;simp[this,h]⟩
 |chain a b iha ihb=>exact p3_ iha ihb x hx
 |alt a b iha ihb=>
  show a.norm.lang x\/b.norm.lang x↔a.lang x\/b.lang x
  rw[iha x hx,ihb x hx]
 |rep a lo co en iha=>exact sa_ iha lo en co x hx
def exC (kind:Nat)(S:Nat->Bool)(a b:Value):Array Value:= #[.int .i64 (kind:Int),.bool (S 0),.bool (S 1),.bool (S 2),.bool (S 3),.bool (S 4),.bool (S 5),.bool (S 6),.bool (S 7),a,b]
def ptr (g:Nat):Value:= .pointer (some ⟨g,0,none⟩)
def noS:Nat->Bool:=fun _=>false
def ExAt (w:World):Nat->Ex->Prop
 |g,.nil=>w.heap[g]? =some (.cells (exC 0 noS (.pointer none) (.pointer none)) 199 (0,0))
 |g,.one S=>w.heap[g]? =some (.cells (exC 1 S (.pointer none) (.pointer none)) 199 (0,0))
 |g,.thn a b=>∃ga gb,w.heap[g]? =some (.cells (exC 2 noS (ptr ga) (ptr gb)) 199 (0,0))/\ExAt w ga a/\ExAt w gb b
 |g,.alt a b=>∃ga gb,w.heap[g]? =some (.cells (exC 3 noS (ptr ga) (ptr gb)) 199 (0,0))/\ExAt w ga a/\ExAt w gb b
 |g,.star a=>∃ga,w.heap[g]? =some (.cells (exC 4 noS (ptr ga) (.pointer none)) 199 (0,0))/\ExAt w ga a
def Ex.kind:Ex->Nat
 | .nil=>0
 | .one _=>1
 | .thn _ _=>2
 | .alt _ _=>3
 | .star _=>4
theorem e6_ (e:Ex):(e.kind=0↔e.isNil=true):=by cases e<;>simp[Ex.kind,Ex.isNil]
theorem ExAt.lt {w:World}{g:Nat}{e:Ex}(h:ExAt w g e):g<w.heap.size:=by
 cases e with
 |nil=>exact ac_ h
 |one S=>exact ac_ h
 |thn a b=>obtain⟨_,_,h,_⟩:=h;exact ac_ h
 |alt a b=>obtain⟨_,_,h,_⟩:=h;exact ac_ h
 |star a=>obtain⟨_,h,_⟩:=h;exact ac_ h
theorem ExAt.below {w w':World}{g:Nat}{e:Ex}(h:ExAt w g e)(hb:Below w.heap.size w w'):ExAt w' g e:=by
 induction e generalizing g with
 |nil=>exact(hb.block _ h.lt).trans h
 |one S=>exact(hb.block _ h.lt).trans h
 |thn a b iha ihb=>
  have hl:=h.lt;obtain⟨ga,gb,h1,h2,h3⟩:=h;exact⟨ga,gb,(hb.block _ hl).trans h1,iha h2,ihb h3⟩
 |alt a b iha ihb=>
  have hl:=h.lt;obtain⟨ga,gb,h1,h2,h3⟩:=h;exact⟨ga,gb,(hb.block _ hl).trans h1,iha h2,ihb h3⟩
 |star a iha=>
  have hl:=h.lt;obtain⟨ga,h1,h2⟩:=h;exact⟨ga,(hb.block _ hl).trans h1,iha h2⟩
theorem hr_ {w:World}{g t k:Nat}{S:Nat->Bool}{a b:Value}(h:w.heap[g]? =some (.cells (exC k S a b) t (0,0))):w.cell? ⟨g,0,none⟩=some (.int .i64 (k:Int)):=by
 rw[cell_of_row w g 0 _ t (0,0) h];rfl
theorem fb_ {w:World}{g t k:Nat}{S:Nat->Bool}{a b:Value}(h:w.heap[g]? =some (.cells (exC k S a b) t (0,0))):w.cell? ⟨g,9,none⟩=some a/\w.cell? ⟨g,10,none⟩=some b:=by
 constructor
 . rw[cell_of_row w g 9 _ t (0,0) h];rfl
 . rw[cell_of_row w g 10 _ t (0,0) h];rfl
theorem id_ {w:World}{g t k:Nat}{S:Nat->Bool}{a b:Value}(h:w.heap[g]? =some (.cells (exC k S a b) t (0,0))){c:Nat}(hc:c<8):w.cell? ⟨g,1+c,none⟩=some (.bool (S c))/\w.frozen? ⟨g,1+c,none⟩=false:=by
 constructor
 . rw[cell_of_row w g (1+c) _ t (0,0) h];rcases (show c=0\/c=1\/c=2\/c=3\/c=4\/c=5\/c=6\/c=7 by omega)with rfl|rfl|rfl|rfl|rfl|rfl|rfl|rfl<;>rfl
 . simp[World.frozen?,h]
theorem ExAt.kind {w:World}{g:Nat}{e:Ex}(h:ExAt w g e):w.cell? ⟨g,0,none⟩=some (.int .i64 (e.kind:Int)):=by
 cases e with
 |nil=>exact hr_ h
 |one S=>exact hr_ h
 |thn a b=>obtain⟨_,_,h,_⟩:=h;exact hr_ h
 |alt a b=>obtain⟨_,_,h,_⟩:=h;exact hr_ h
 |star a=>obtain⟨_,h,_⟩:=h;exact hr_ h
def hs_ (e':Ex)(w:World)(e:Ending)(w':World):Prop:=∃g,e= .returned (.pointer (some ⟨g,0,none⟩))/\ExAt w' g e'/\Below w.heap.size w w'
theorem he_ (w:World):Calls prog 153 #[] w (hs_ .nil w):=by
 obtain⟨W,hW,BW,-,-⟩:=nw__ w (exC 0 noS (.pointer none) (.pointer none)) 199;have h0:ExAt W w.heap.size .nil:=by rw[hW];exact ag_ rfl
 unfold exC noS at hW;simp only[show((0:Nat):Int)=0 from rfl]at hW;go_enter func153,ntmps153;go_wp2_with fail;rw[<-hW];clear hW;go_ret;exact⟨_,rfl,h0,BW⟩
theorem gp_ (ga gb:Nat)(a b:Ex)(w:World)(ha:ExAt w ga a)(hb:ExAt w gb b):Calls prog 156 #[.pointer (some ⟨ga,0,none⟩),.pointer (some ⟨gb,0,none⟩)] w (hs_ (a.thn' b) w):=by
 have ka:=ha.kind;have kb:=hb.kind;unfold Ex.thn';by_cases h1:a.isNil=true
 . rw[if_pos h1];rw[(e6_ a).2 h1]at ka;clear kb h1;go_enter func156,ntmps156;go_wp2_with fail;go_ret;exact⟨gb,rfl,hb,br__⟩
 . rw[if_neg h1];obtain⟨k1,HK1⟩:=hx__ (a.kind);rw[HK1.out]at ka;have n1:((k1:Int)==0)=false:=by
    rw[<-HK1.out];simp only[beq_eq_false_iff_ne,ne_eq];intro e;exact h1 ((e6_ a).1 o_)
   by_cases h2:b.isNil=true
   . rw[if_pos h2];rw[(e6_ b).2 h2]at kb;clear h1 h2 HK1;go_enter func156,ntmps156;go_wp2_with fail;go_ret;exact⟨ga,rfl,ha,br__⟩
   . rw[if_neg h2];obtain⟨k2,HK2⟩:=hx__ (b.kind);rw[HK2.out]at kb;have n2:((k2:Int)==0)=false:=by
      rw[<-HK2.out];simp only[beq_eq_false_iff_ne,ne_eq];intro e;exact h2 ((e6_ b).1 o_)
     obtain⟨W,hW,BW,-,-⟩:=nw__ w (exC 2 noS (ptr ga) (ptr gb)) 199;have h0:ExAt W w.heap.size (.thn a b):=⟨ga,gb,by rw[hW];exact ag_ rfl,ha.below BW,hb.below BW⟩;unfold exC noS ptr at hW;simp only[show((2:Nat):Int)=2 from rfl]at hW;clear h1 h2 HK1 HK2;go_enter func156,ntmps156;go_wp2_with fail;rw[<-hW];clear hW;go_ret;exact⟨_,rfl,h0,BW⟩
theorem oe_ (ga gb:Nat)(a b:Ex)(w:World)(ha:ExAt w ga a)(hb:ExAt w gb b):Calls prog 119 #[.pointer (some ⟨ga,0,none⟩),.pointer (some ⟨gb,0,none⟩)] w (hs_ (a.alt' b) w):=by
 have ka:=ha.kind;have kb:=hb.kind;obtain⟨W,hW,BW,-,-⟩:=nw__ w (exC 3 noS (ptr ga) (ptr gb)) 199;have h0:ExAt W w.heap.size (.alt a b):=⟨ga,gb,by rw[hW];exact ag_ rfl,ha.below BW,hb.below BW⟩;unfold exC noS ptr at hW;simp only[show((3:Nat):Int)=3 from rfl]at hW;unfold Ex.alt';by_cases h1:a.isNil=true
 . rw[(e6_ a).2 h1]at ka;by_cases h2:b.isNil=true
   . rw[(e6_ b).2 h2]at kb;rw[if_pos (by rw[h1,h2];rfl)];clear h1 h2 hW;go_enter func119,ntmps119;go_wp2_with fail;go_ret;exact⟨ga,rfl,ha,br__⟩
   . rw[if_neg (by rw[h1];simpa using h2)];obtain⟨k2,HK2⟩:=hx__ (b.kind);rw[HK2.out]at kb;have n2:((k2:Int)==0)=false:=by
      rw[<-HK2.out];simp only[beq_eq_false_iff_ne,ne_eq];intro e;exact h2 ((e6_ b).1 o_)
     clear h1 h2 HK2;go_enter func119,ntmps119;go_wp2_with fail;rw[<-hW];clear hW;go_ret;exact⟨_,rfl,h0,BW⟩
 . rw[if_neg (by simp[h1])];obtain⟨k1,HK1⟩:=hx__ (a.kind);rw[HK1.out]at ka;have n1:((k1:Int)==0)=false:=by
    rw[<-HK1.out];simp only[beq_eq_false_iff_ne,ne_eq];intro e;exact h1 ((e6_ a).1 o_)
   clear h1 HK1 kb;go_enter func119,ntmps119;go_wp2_with fail;rw[<-hW];clear hW;go_ret;exact⟨_,rfl,h0,BW⟩
theorem abd_ (ga:Nat)(a:Ex)(w:World)(ha:ExAt w ga a):Calls prog 175 #[.pointer (some ⟨ga,0,none⟩)] w (hs_ a.star' w):=by
 have ka:=ha.kind;unfold Ex.star';by_cases h1:a.isNil=true
 . rw[if_pos h1];rw[(e6_ a).2 h1]at ka;clear h1;go_enter func175,ntmps175;go_wp2_with fail;go_ret;exact⟨ga,rfl,ha,br__⟩
 . rw[if_neg h1];obtain⟨k1,HK1⟩:=hx__ (a.kind);rw[HK1.out]at ka;have n1:((k1:Int)==0)=false:=by
    rw[<-HK1.out];simp only[beq_eq_false_iff_ne,ne_eq];intro e;exact h1 ((e6_ a).1 o_)
   obtain⟨W,hW,BW,-,-⟩:=nw__ w (exC 4 noS (ptr ga) (.pointer none)) 199;have h0:ExAt W w.heap.size (.star a):=⟨ga,by rw[hW];exact ag_ rfl,ha.below BW⟩;unfold exC noS ptr at hW;simp only[show((4:Nat):Int)=4 from rfl]at hW;clear h1 HK1;go_enter func175,ntmps175;go_wp2_with fail;rw[<-hW];clear hW;go_ret;exact⟨_,rfl,h0,BW⟩
theorem l3_ (gx lo:Nat)(hi:Int)(x:Ex)(w:World)(hx:ExAt w gx x)(hlo:lo<=9)(hhi:hi<=9)(hok:hi<0\/(lo:Int)<=hi):
 Calls prog 155 #[.pointer (some ⟨gx,0,none⟩),.int .i64 (lo:Int),.int .i64 hi] w (hs_ (x.repd lo hi) w):=by
 obtain⟨e0,HE0⟩:=hx__ (if hi<0 then x.star' else x.opts (hi - lo).toNat);have HRP:Hid (x.repd lo hi=x.must e0 lo):=by
  unfold Hid Ex.repd;rw[<-HE0.out];by_cases h:hi<0
  . rw[if_pos h,if_pos h]
  . rw[if_neg h,if_neg h]
 rw[HRP.out];clear HRP;have HX:Hid (∀w',Below w.heap.size w w'->ExAt w' gx x):=fun w' hb=>hx.below hb
 have HC:=he_ w;go_enter func155,ntmps155;go_wp2_with fail;refine HC.mono ?_;clear HC;rintro e w1 ⟨g1,rfl,hE1,hB1⟩;have hsz1:=hB1.size;have fin:∀(w2:World) (g2:Nat),True:=fun _ _=>trivial
 clear fin;by_cases hneg:hi<0
 . have hx1:=HX.out w1 hB1;have HC:=abd_ gx x w1 hx1;have HE:Hid (x.star'=e0):=by unfold Hid;rw[<-HE0.out,if_pos hneg]
   rw[HE.out]at HC;clear HE0 HE hE1 hx1;have hll:¬(lo:Int)<hi:=o_;go_wp2_with fail;refine HC.mono ?_;clear HC;rintro e w2 ⟨g2,rfl,hE2,hB2⟩;have hB12:Below w.heap.size w w2:=hB1.trans (hB2.mono o_);clear hB1 hB2;go_wp2_with fail;go_loopw [7,8] (fun v' i' wr=>v'= .pointer (some ⟨g2,0,none⟩)/\i'= .int .i64 (lo:Int)/\wr=w2) (fun _ _ _=>0)
   case atStart=>exact⟨rfl,rfl,rfl⟩
   case round=>
    obtain⟨rfl,rfl,rfl⟩:=hrel;go_wp2_with fail;go_loopw [7,9] (fun v' i' wr=>∃i g:Nat,i<=lo/\v'= .pointer (some ⟨g,0,none⟩)/\i'= .int .i64 (i:Int)/\ExAt wr g (x.must e0 i)/\Below w.heap.size w wr) (fun _ i' _=>20 - (intOf i').toNat)
    case atStart=>exact⟨0,g2,o_,rfl,rfl,hE2,hB12⟩
    case round=>
     clear hE2 hB12;obtain⟨i,g3,hi1,rfl,rfl,hE3,hB3⟩:=hrel;have hsz3:=hB3.size;by_cases hlt:i<lo
     . have hlt2:(i:Int)<(lo:Int):=o_;have HC:=gp_ gx g3 x (x.must e0 i) wr (HX.out wr hB3) hE3;rw[show x.thn' (x.must e0 i)=x.must e0 (i+1)from rfl]at HC;go_wp2_with fail;refine HC.mono ?_;clear HC;rintro e w4 ⟨g4,rfl,hE4,hB4⟩;have hB24:Below w.heap.size w w4:=hB3.trans (hB4.mono o_);have HE4:Hid (ExAt w4 g4 (x.must e0 (i+1))):=hE4;clear hE3 hE4 hB3 hB4;go_wp2_with fail;go_roundw
       case rel=>exact⟨i+1,g4,o_,rfl,by go_num,HE4.out,hB24⟩
       case measure=>simp[intOf];omega
     . have hlt2:¬(i:Int)<(lo:Int):=o_;obtain rfl:i=lo:=o_;have HE3:Hid (ExAt wr g3 (x.must e0 i)):=hE3;clear hE3;go_wp2_with fail;go_ret;exact⟨g3,rfl,HE3.out,hB3⟩
 . obtain⟨hn,rfl⟩:∃n:Nat,hi=(n:Int):=⟨hi.toNat,o_⟩;have hln:lo<=hn:=o_;have hng:¬(hn:Int)<0:=o_;have HE:Hid (x.opts (hn - lo)=e0):=by
    unfold Hid;rw[<-HE0.out,if_neg hneg];congr 1;omega
   clear HE0 hneg hok;go_wp2_with fail;go_loopw [7,8] (fun v' i' wr=>∃i g:Nat,lo<=i/\i<=hn/\v'= .pointer (some ⟨g,0,none⟩)/\i'= .int .i64 (i:Int)/\ExAt wr g (x.opts (i - lo))/\Below w.heap.size w wr) (fun _ i' _=>20 - (intOf i').toNat)
   case atStart=>exact⟨lo,g1,lr__,hln,rfl,rfl,by rw[Nat.sub_self];exact hE1,hB1⟩
   case round=>
    clear hE1 hB1 hsz1;obtain⟨i,g2,hi1,hi2,rfl,rfl,hE2,hB2⟩:=hrel;have hsz2:=hB2.size;by_cases hlt:i<hn
    . have hlt2:(i:Int)<(hn:Int):=o_;have HC:=he_ wr;have HEE:Hid (x.opts (i+1 - lo)=Ex.alt' .nil (x.thn' (x.opts (i - lo)))):=by
       unfold Hid;rw[show i+1 - lo=(i - lo)+1 by omega];rfl
      go_wp2_with fail;refine HC.mono ?_;clear HC;rintro e w3 ⟨g3,rfl,hE3,hB3⟩;have hB23:Below w.heap.size w w3:=hB2.trans (hB3.mono o_);have HC:=gp_ gx g2 x (x.opts (i - lo)) w3 (HX.out w3 hB23) (hE2.below hB3);have hsz3:=hB3.size;go_wp2_with fail;refine HC.mono ?_;clear HC;rintro e w4 ⟨g4,rfl,hE4,hB4⟩;have hB24:Below w.heap.size w w4:=hB23.trans (hB4.mono o_);have hsz4:=hB4.size;have HC:=oe_ g3 g4 .nil (x.thn' (x.opts (i - lo))) w4 (hE3.below hB4) hE4;rw[<-HEE.out]at HC;go_wp2_with fail;refine HC.mono ?_;clear HC;rintro e w5 ⟨g5,rfl,hE5,hB5⟩;have hB25:Below w.heap.size w w5:=hB24.trans (hB5.mono o_);have HE5:Hid (ExAt w5 g5 (x.opts (i+1 - lo))):=hE5;clear hE2 hE3 hE4 hE5 hB2 hB3 hB4 hB5 hB23 hB24;go_wp2_with fail;go_roundw
      case rel=>exact⟨i+1,g5,o_,o_,rfl,by go_num,HE5.out,hB25⟩
      case measure=>simp[intOf];omega
    . have hlt2:¬(i:Int)<(hn:Int):=o_;obtain rfl:i=hn:=o_;have hE2:ExAt wr g2 e0:=by rw[<-HE.out];exact hE2
      obtain⟨w2,HW2⟩:=hx__ wr;rw[HW2.out]at hE2 hB2 ⊢;have hB12:=hB2;clear hB2;go_wp2_with fail;go_loopw [7,9] (fun v' i' wr=>∃i g:Nat,i<=lo/\v'= .pointer (some ⟨g,0,none⟩)/\i'= .int .i64 (i:Int)/\ExAt wr g (x.must e0 i)/\Below w.heap.size w wr) (fun _ i' _=>20 - (intOf i').toNat)
      case atStart=>exact⟨0,g2,o_,rfl,rfl,hE2,hB12⟩
      case round=>
       clear hE2 hB12;obtain⟨i,g3,hi1,rfl,rfl,hE3,hB3⟩:=hrel;have hsz3:=hB3.size;by_cases hlt:i<lo
       . have hlt2:(i:Int)<(lo:Int):=o_;have HC:=gp_ gx g3 x (x.must e0 i) wr (HX.out wr hB3) hE3;rw[show x.thn' (x.must e0 i)=x.must e0 (i+1)from rfl]at HC;go_wp2_with fail;refine HC.mono ?_;clear HC;rintro e w4 ⟨g4,rfl,hE4,hB4⟩;have hB24:Below w.heap.size w w4:=hB3.trans (hB4.mono o_);have HE4:Hid (ExAt w4 g4 (x.must e0 (i+1))):=hE4;clear hE3 hE4 hB3 hB4;go_wp2_with fail;go_roundw
         case rel=>exact⟨i+1,g4,o_,rfl,by go_num,HE4.out,hB24⟩
         case measure=>simp[intOf];omega
       . have hlt2:¬(i:Int)<(lo:Int):=o_;obtain rfl:i=lo:=o_;have HE3:Hid (ExAt wr g3 (x.must e0 i)):=hE3;clear hE3;go_wp2_with fail;go_ret;exact⟨g3,rfl,HE3.out,hB3⟩
theorem fq_ (s:ByteArray)(a b:Nat):txt (s.extract a b)=sub s a b:=by
 unfold txt sub txt;rw[ByteArray.data_extract,Array.toList_extract,List.extract_eq_take_drop,List.map_take,List.map_drop];rw[List.drop_take]
theorem gx_ {s:ByteArray}{k:Nat}(h:k<s.size):(txt s).drop k=ad_ s k::(txt s).drop (k+1):=by
 have h':k<(txt s).length:=by rw[bc_];exact h
 rw[List.drop_eq_getElem_cons h'];have:=j5_ h;rw[List.getElem?_eq_getElem h']at this;simp at this;rw[this]
theorem nl_ (s:ByteArray):(txt s).drop s.size=[]:=List.drop_of_length_le (by rw[bc_];omega)
theorem of_:(prog.info? 9).map (fun i=>(i.zero,i.size,i.bytes))=some (some (.string ByteArray.empty),1,16):=k_
theorem t6_ (s:ByteArray)(i:Nat)(w:World)(hs:s.size<=40)(hi:i<=s.size):Calls prog 174 #[.string s,.int .i64 (i:Int)] w fun e w'=>e= .returned (.int .i64 (c1_ ((txt s).drop i) 0 i:Nat))/\w=w':=by
 obtain⟨R,HR⟩:=hx__ (c1_ ((txt s).drop i) 0 i);rw[HR.out];go_enter func174,ntmps174;go_wp2_with fail;go_loop [5,6] (fun n' k'=>∃(n:Int) (k:Nat),k<=s.size/\ -40<=n - k+s.size/\ -(k:Int)<=n/\n<=k/\n'= .int .i64 n/\k'= .int .i64 (k:Int)/\Hid (c1_ ((txt s).drop k) n k=R)) (fun _ k'=>s.size - (intOf k').toNat)
 case atStart=>exact⟨0,i,hi,o_,o_,o_,rfl,rfl,HR⟩
 case round=>
  obtain⟨n,k,hk,hn0,hn1,hn2,rfl,rfl,HK⟩:=hrel;clear HR;by_cases hlt:k<s.size
  . have hd:=gx_ hlt;rw[hd]at HK;clear hd;have hce:=a9_ hlt;obtain⟨c,HC⟩:∃x,Hid (ad_ s k=x):=⟨ad_ s k,rfl⟩;have hsc:s[k].toNat=c:=by rw[<-hce];exact HC.out
    rw[HC.out]at HK;clear hce HC;by_cases h40:c=40
    . have t40:((s[k].toNat:Int)==40)=true:=by rw[hsc,h40];rfl
      have t41:((s[k].toNat:Int)==41)=false:=by rw[hsc,h40];rfl
      have HN:Hid (c1_ ((txt s).drop (k+1)) (n+1) (k+1)=R):=by
       have:=HK.out;simp only[c1_]at this;rw[if_pos h40]at this;exact this
      clear h40 hsc HK;go_wp2_with fail;go_round
      case rel=>exact⟨n+1,k+1,o_,o_,o_,o_,by go_num,by go_num,HN⟩
      case measure=>simp[intOf];omega
    . have t40:((s[k].toNat:Int)==40)=false:=by rw[hsc];simp;omega
      by_cases h41:c=41
      . have t41:((s[k].toNat:Int)==41)=true:=by rw[hsc,h41];rfl
        by_cases hn:n - 1=0
        . have hR:R=k:=by
           have:=HK.out;simp only[c1_]at this;rw[if_neg h40,if_pos h41,if_pos hn]at this;exact this.symm
          obtain rfl:n=1:=o_;subst hR;clear h40 h41 hsc HK hn;go_wp2_with fail;go_ret;exact⟨rfl,rfl⟩
        . have HN:Hid (c1_ ((txt s).drop (k+1)) (n - 1) (k+1)=R):=by
           have:=HK.out;simp only[c1_]at this;rw[if_neg h40,if_pos h41,if_neg hn]at this;exact this
          have tn:((n - 1:Int)==0)=false:=s_;clear h40 h41 hsc HK;go_wp2_with fail;go_round
          case rel=>exact⟨n - 1,k+1,o_,o_,o_,o_,by go_num,by go_num,HN⟩
          case measure=>simp[intOf];omega
      . have t41:((s[k].toNat:Int)==41)=false:=by rw[hsc];simp;omega
        have HN:Hid (c1_ ((txt s).drop (k+1)) n (k+1)=R):=by
         have:=HK.out;simp only[c1_]at this;rw[if_neg h40,if_neg h41]at this;exact this
        clear h40 h41 hsc HK;go_wp2_with fail;go_round
        case rel=>exact⟨n,k+1,o_,o_,o_,o_,by go_num,by go_num,HN⟩
        case measure=>simp[intOf];omega
  . obtain rfl:k=s.size:=o_;have hR:R=s.size:=by
     have:=HK.out;rw[nl_]at this;exact this.symm
    subst hR;clear HK;go_wp2_with fail;go_ret;exact⟨rfl,rfl⟩
def kv_ (s:ByteArray)(w:World)(e:Ending)(w':World):Prop:=
 ∃(v:Value) (Ls:List ByteArray),e= .returned v/\Ls.map txt=bz_ (txt s) 0 []/\w'.ownsRow w.heap.size 9 1 v Ls.length (strs Ls)/\Below w.heap.size w w'/\Ls.length<=s.size+1
theorem sb_ (s:ByteArray)(w:World)(hs:s.size<=40):Calls prog 111 #[.string s] w (kv_ s w):=by
 obtain⟨i0,hi0,hz0,hz01,hz02⟩:=info_parts of_;obtain⟨R,HR⟩:=hx__ (bz_ (txt s) 0 []);unfold kv_;rw[HR.out];go_enter func111,ntmps111;go_wp2_with fail;go_loopw [3,4,5,6] (fun l' n' a' i' wr=>∃(n:Int) (a i:Nat) (Ls:List ByteArray),i<=s.size/\a<=i/\ -(i:Int)<=n/\n<=i/\n'= .int .i64 n/\a'= .int .i64 (a:Int)/\i'= .int .i64 (i:Int)/\Ls.length<=a/\Hid (Ls.map txt++bz_ ((txt s).drop i) n (sub s a i)=R)/\wr.ownsRow w.heap.size 9 1 l' Ls.length (strs Ls)/\Below w.heap.size w wr) (fun _ _ _ i' _=>s.size - (intOf i').toNat)
 case atStart=>exact⟨0,0,0,[],o_,o_,o_,o_,rfl,rfl,rfl,i_,by unfold Hid;rw[mr_];simpa using HR.out,on__,br__⟩
 case round=>
  obtain⟨n,a,i,Ls,hi,hai,hn1,hn2,rfl,rfl,rfl,hll,HK,hown,hB⟩:=hrel;clear HR;by_cases hlt:i<s.size
  . have hd:=gx_ hlt;rw[hd]at HK;clear hd;have hce:=a9_ hlt;have hsn:=kq_ hai hlt;obtain⟨c,HC⟩:∃x,Hid (ad_ s i=x):=⟨ad_ s i,rfl⟩;have hsc:s[i].toNat=c:=by rw[<-hce];exact HC.out
    rw[HC.out]at HK hsn;have HSN:Hid (sub s a (i+1)=sub s a i++ [c]):=hsn;clear hce HC hsn;have HO:Hid (wr.ownsRow w.heap.size 9 1 u3 Ls.length (strs Ls)):=hown;have HB:Hid (Below w.heap.size w wr):=hB;by_cases h40:c=40
    . have t40:((s[i].toNat:Int)==40)=true:=by rw[hsc,h40];rfl
      have HN:Hid (Ls.map txt++bz_ ((txt s).drop (i+1)) (n+1) (sub s a (i+1))=R):=by
       have:=HK.out;simp only[bz_]at this;rw[if_pos h40]at this;unfold Hid;rw[HSN.out];exact this
      clear h40 hsc HK hown hB;go_wp2_with fail;go_roundw
      case rel=>exact⟨n+1,a,i+1,Ls,o_,o_,o_,o_,by go_num,rfl,by go_num,hll,HN,HO.out,HB.out⟩
      case measure=>simp[intOf];omega
    . have t40:((s[i].toNat:Int)==40)=false:=by rw[hsc];simp;omega
      by_cases h41:c=41
      . have t41:((s[i].toNat:Int)==41)=true:=by rw[hsc,h41];rfl
        have HN:Hid (Ls.map txt++bz_ ((txt s).drop (i+1)) (n - 1) (sub s a (i+1))=R):=by
         have:=HK.out;simp only[bz_]at this;rw[if_neg h40,if_pos h41]at this;unfold Hid;rw[HSN.out];exact this
        clear h40 h41 hsc HK hown hB;go_wp2_with fail;go_roundw
        case rel=>exact⟨n - 1,a,i+1,Ls,o_,o_,o_,o_,by go_num,rfl,by go_num,hll,HN,HO.out,HB.out⟩
        case measure=>simp[intOf];omega
      . have t41:((s[i].toNat:Int)==41)=false:=by rw[hsc];simp;omega
        by_cases h124:c=124
        . have t124:((s[i].toNat:Int)==124)=true:=by rw[hsc,h124];rfl
          by_cases hn0:n=0
          . subst hn0;have HN:Hid ((Ls++ [s.extract a i]).map txt++bz_ ((txt s).drop (i+1)) 0 (sub s (i+1) (i+1))=R):=by
             have:=HK.out;simp only[bz_]at this;rw[if_neg h40,if_neg h41,if_pos ⟨h124,trivial⟩]at this;unfold Hid;rw[mr_,List.map_append,List.map_singleton,fq_,List.append_assoc];exact this
            have hna:=hown.alloc (.cells #[.string (s.extract a i)] 9);have hsz:=hB.size;have HOW:Hid (∀x,(u3:Value).ownBlock=some x->w.heap.size<=x):=fun x e=>(hown.lt x e).1
            clear h40 h41 h124 hsc HK hown hB;go_wp2_with (at_builtin;refine ae_ _ rfl _ _ 56 rfl w.heap.size 9 i0 (.string ByteArray.empty) 1 16 underlying56 hi0 hz0 hz01 hz02 rfl d_ _ Ls.length (strs Ls) rfl hna ⟨wr.heap.size,0,none⟩ 1 1 [.string (s.extract a i)] rfl rfl (cell_one_new _ _ _) (oc__ rfl) d_ u_ o_ s_ ?_;intro g cap w3 hown3 hgr hfr;have HO3:Hid (w3.ownsRow w.heap.size 9 1 (.slice (some ⟨g,0,none⟩) (Ls.length+1) cap) (Ls.length+1) (strs Ls++ [.string (s.extract a i)])):=hown3;have HB3:Hid (Below w.heap.size w w3):=(HB.out.alloc o_ _).grown hgr s_ (fun x e=>HOW.out x e);clear hown3 hgr hfr);go_roundw
            case rel=>
             have ho:=HO3.out;rw[gy_]at ho;exact⟨0,i+1,i+1,Ls++ [s.extract a i],o_,o_,o_,o_,rfl,by go_num,by go_num,s_,HN,by rw[List.length_append];exact ho,HB3.out⟩
            case measure=>simp[intOf];omega
          . have tn:((n:Int)==0)=false:=s_;have HN:Hid (Ls.map txt++bz_ ((txt s).drop (i+1)) n (sub s a (i+1))=R):=by
             have:=HK.out;simp only[bz_]at this;rw[if_neg h40,if_neg h41,if_neg (fun h=>hn0 h.2)]at this;unfold Hid;rw[HSN.out];exact this
            clear h40 h41 h124 hsc HK hown hB hn0;go_wp2_with fail;go_roundw
            case rel=>exact⟨n,a,i+1,Ls,o_,o_,o_,o_,rfl,rfl,by go_num,hll,HN,HO.out,HB.out⟩
            case measure=>simp[intOf];omega
        . have t124:((s[i].toNat:Int)==124)=false:=by rw[hsc];simp;omega
          have HN:Hid (Ls.map txt++bz_ ((txt s).drop (i+1)) n (sub s a (i+1))=R):=by
           have:=HK.out;simp only[bz_]at this;rw[if_neg h40,if_neg h41,if_neg (fun h=>h124 h.1)]at this;unfold Hid;rw[HSN.out];exact this
          clear h40 h41 h124 hsc HK hown hB;go_wp2_with fail;go_roundw
          case rel=>exact⟨n,a,i+1,Ls,o_,o_,o_,o_,rfl,rfl,by go_num,hll,HN,HO.out,HB.out⟩
          case measure=>simp[intOf];omega
  . obtain rfl:i=s.size:=o_;have HN:Hid ((Ls++ [s.extract a s.size]).map txt=R):=by
     have:=HK.out;rw[nl_]at this;unfold Hid;rw[List.map_append,List.map_singleton,fq_];exact this
    have hna:=hown.alloc (.cells #[.string (s.extract a s.size)] 9);have hsz:=hB.size;have HB:Hid (Below w.heap.size w wr):=hB;have HOW:Hid (∀x,(u3:Value).ownBlock=some x->w.heap.size<=x):=fun x e=>(hown.lt x e).1
    clear HK hown hB;go_wp2_with (at_builtin;refine ae_ _ rfl _ _ 56 rfl w.heap.size 9 i0 (.string ByteArray.empty) 1 16 underlying56 hi0 hz0 hz01 hz02 rfl d_ _ Ls.length (strs Ls) rfl hna ⟨wr.heap.size,0,none⟩ 1 1 [.string (s.extract a s.size)] rfl rfl (cell_one_new _ _ _) (oc__ rfl) d_ u_ o_ s_ ?_;intro g cap w3 hown3 hgr hfr;have HO3:Hid (w3.ownsRow w.heap.size 9 1 (.slice (some ⟨g,0,none⟩) (Ls.length+1) cap) (Ls.length+1) (strs Ls++ [.string (s.extract a s.size)])):=hown3;have HB3:Hid (Below w.heap.size w w3):=(HB.out.alloc o_ _).grown hgr s_ (fun x e=>HOW.out x e);clear hown3 hgr hfr);go_ret;have ho:=HO3.out;rw[gy_]at ho;exact⟨_,Ls++ [s.extract a s.size],rfl,HN.out,by rw[List.length_append];exact ho,HB3.out,s_⟩
end Go.Proofs.YtpngikmcjkjdaaaGreatDoor
