import Derived.Test.YtpngikmcjkjdaaaGreatDoorA37
set_option linter.unusedVariables false
set_option linter.unusedSimpArgs false
set_option maxRecDepth 20000
set_option maxHeartbeats 80000000
namespace Go.Proofs.YtpngikmcjkjdaaaGreatDoor
open Go.RowKit Tryz List Nat
variable {b c cap ec g i n nc:Nat} {eo no:Option Addr} {u x y:Value} {W w w':World}
def gh_ (W:World)(b:Nat)(w:World)(O:List Ex):Prop:=∃v0 v1 gs,ce_ W b 146 104 1 9 1 w v0 v1 O.length O.length (ba_ gs) (Ζ (O.map Ex.nb))/\ae_ w gs O
def e8_ (W:World)(b:Nat)(w:World)(O:List Ex)(e:Ex):Prop:=∃v0 v1 gs,ce_ W b 146 104 1 9 1 w v0 v1 (O.length+1) O.length (ba_ gs) (Ζ (O.map Ex.nb))/\ae_ w gs (O++ [e])
theorem sn_ (hb:w.heap[b]? =some (.cells #[x,y] 146 (0,0))){e:Ex}(h:Τ w g e):Τ (w.setCell ⟨b,i,none⟩ u) g e:=by
 have j:∀(k:Nat) (l:Array Value),w.heap[k]? =some (.cells l 199 (0,0))->(w.setCell ⟨b,i,none⟩ u).heap[k]? =some (.cells l 199 (0,0)):=by
  intro k l o;refine a3_ o ?_;intro e;simp only at e;subst e;rw[hb]at o;simp at o
 induction e generalizing g with
 |nil=>exact j _ _ h
 |one S=>exact j _ _ h
 |thn a b iha ihb=>obtain⟨c,m,d,f,n⟩:=h;exact⟨c,m,j _ _ d,iha f,ihb n⟩
 |alt a b iha ihb=>obtain⟨c,m,d,f,n⟩:=h;exact⟨c,m,j _ _ d,iha f,ihb n⟩
 |star a iha=>obtain⟨c,d,f⟩:=h;exact⟨c,j _ _ d,iha f⟩
theorem y2_ {base t s:Nat}{v:Value}{xs:List Value}(ho:w.ownsRow base t s v n xs)(ht:t≠199)(hg:w.grownBy w' v.ownBlock){e:Ex}(h:Τ w g e):Τ w' g e:=by
 have i:∀(b:Nat) (j:Array Value),w.heap[b]? =some (.cells j 199 (0,0))->w'.heap[b]? =some (.cells j 199 (0,0)):=by
  intro b j m;rw[hg.block b (κ m) ?_,m];intro e;rcases ho.2 with ⟨rfl,_⟩|⟨a,o,p,rfl,_,c,_⟩
  . simp[Value.ownBlock]at e
  . simp only[Value.ownBlock,Δ]at e;subst e;rw[m]at c;simp at c;exact ht c.2.symm
 induction e generalizing g with
 |nil=>exact i _ _ h
 |one S=>exact i _ _ h
 |thn a b iha ihb=>obtain⟨d,k,c,f,l⟩:=h;exact⟨d,k,i _ _ c,iha f,ihb l⟩
 |alt a b iha ihb=>obtain⟨d,k,c,f,l⟩:=h;exact⟨d,k,i _ _ c,iha f,ihb l⟩
 |star a iha=>obtain⟨d,c,f⟩:=h;exact⟨d,i _ _ c,iha f⟩
section
variable {W w w2:World} {b:Nat} {v0 v1:Value} {gs:List Nat} {O:List Ex} {e:Ex}
theorem l8_ (h:ce_ W b 146 104 1 9 1 w v0 v1 O.length O.length (ba_ gs) (Ζ (O.map Ex.nb)))(hE:ae_ w gs O){k:Nat}(he:Τ w k e)
 (hown:w2.ownsRow (b+1) 104 1 (.slice (some ⟨g,0,none⟩) (O.length+1) cap) (O.length+1) (ba_ gs++ [.pointer (some ⟨k,0,none⟩)])) (hg:w.grownBy w2 v0.ownBlock) (hf:v0.ownBlock=some g\/g=w.heap.size):
 e8_ W b (w2.setCell ⟨b,0,none⟩ (.slice (some ⟨g,0,none⟩) (O.length+1) cap)) O e:=by
 refine⟨_,_,gs++ [k],h.put0 (by rw[nt_];exact hown) hg hf, ?_⟩;exact(hE.snoc he).imp (fun _ _ hx=>sn_ (h.grown0 hg) (y2_ h.own0 d_ hg hx))
theorem l9_ (h:ce_ W b 146 104 1 9 1 w v0 v1 (O.length+1) O.length (ba_ gs) (Ζ (O.map Ex.nb)))(hE:ae_ w gs (O++ [e]))
 (hown:w2.ownsRow (b+1) 9 1 (.slice (some ⟨g,0,none⟩) (O.length+1) cap) (O.length+1) (Ζ (O.map Ex.nb)++ [.string e.nb])) (hg:w.grownBy w2 v1.ownBlock) (hf:v1.ownBlock=some g\/g=w.heap.size):
 gh_ W b (w2.setCell ⟨b,1,none⟩ (.slice (some ⟨g,0,none⟩) (O.length+1) cap)) (O++ [e]):=by
 have a:(O++ [e]).length=O.length+1:=i_;refine⟨v0,.slice (some ⟨g,0,none⟩) (O.length+1) cap,gs, ?_, ?_⟩
 . rw[a,map_append,show [e].map Ex.nb=[e.nb]from rfl,<-iu_];exact h.put1 hown hg hf
 . exact hE.imp (fun _ _ hx=>sn_ (h.grown1 hg) (y2_ h.own1 d_ hg hx))
end
structure fv_ (L:List Ex)(e:Ex)(i:Nat)(b:Bool)(O:List Ex):Prop where
 all:cm_ L e=O++(if b then L.drop i else cm_ (L.drop i) e)
 pre:b=false->O=L.take i
 ne:b=true->∀x∈L.drop i,x.nm≠e.nm
 len:O.length<=i+1
theorem fv_.start (L:List Ex)(e:Ex):fv_ L e 0 false []:=⟨i_,fun _=>rfl,fun h=>by simp at h,i_⟩
section
variable {L:List Ex} {e x:Ex} {i:Nat} {b:Bool} {O:List Ex}
theorem sp_ (hx:L[i]? =some x):L.drop i=x::L.drop (i+1):=by
 have a:=(gs_.1 hx).1;rw[drop_eq_getElem_cons a];rw[ge_ a]at hx;simp at hx;rw[hx]
theorem fv_.eq (h:fv_ L e i b O)(hx:L[i]? =some x)(hn:x.nm=e.nm):cm_ L e=L:=by
 have a:=sp_ hx;cases b with
 |true=>exact absurd hn (h.ne rfl x (by rw[a];simp))
 |false=>
  have:=h.all;rw[a]at this;simp only[ft_,if_false,cm_,if_pos hn]at this;rw[this,h.pre rfl,<-a,take_append_drop]
theorem fv_.ins (h:fv_ L e i false O)(hs:dr_ L)(hx:L[i]? =some x)(hn:x.nm≠e.nm)(hl:Op.bytesLess e.nm x.nm=true):fv_ L e (i+1) true ((O++ [e])++ [x]):=by
 have b:=sp_ hx;refine⟨?_,fun h=>by simp at h,fun _ y hy=> ?_, ?_⟩
 . have:=h.all;rw[b]at this;simp only[ft_,if_false,cm_,if_neg hn,if_pos hl]at this;rw[this];simp
 . have c:dr_ (L.drop i):=List.Pairwise.sublist (drop_sublist i L) hs;rw[b]at c;have f:=(pairwise_cons.1 c).1 y hy;intro d;have a:=nk_ _ _ _ hl f;rw[d,l2_]at a;simp at a
 . have:=h.pre rfl;have g:=(gs_.1 hx).1;have:O.length<=i:=by rw[this,length_take];omega
   simp;omega
theorem fv_.step (h:fv_ L e i b O)(hx:L[i]? =some x)(hn:x.nm≠e.nm)(hl:b=true\/Op.bytesLess e.nm x.nm=false):fv_ L e (i+1) b (O++ [x]):=by
 have a:=sp_ hx;refine⟨?_,fun hb=> ?_,fun hb y hy=>h.ne hb y (by rw[a];simp[hy]), ?_⟩
 . have:=h.all;rw[a]at this;cases b with
   |true=>simp only[if_true]at this ⊢;rw[this];simp
   |false=>
    have hl:Op.bytesLess e.nm x.nm=false:=by rcases hl with hl|hl<;>simp_all
    simp only[ft_,if_false,cm_,if_neg hn,hl]at this ⊢;rw[this];simp
 . rw[h.pre hb,take_add_one,hx];rfl
 . have:=h.len;simp;omega
theorem fv_.fin (h:fv_ L e i b O)(hi:L.length<=i):cm_ L e=if b then O else O++ [e]:=by
 have:=h.all;rw[drop_of_length_le hi]at this;cases b<;>simpa [cm_] using this
end
def ma_ (L:List Ex)(w:World)(r:Ending)(w':World):Prop:=∃eo ec no nc,r= .returned (.agg #[.slice eo L.length ec,.slice no L.length nc])/\cn_ w' eo ec no nc L/\Bl w w'
theorem sq_ (a b:Ex):Op.bytesLess a.nb.toList b.nb.toList=Op.bytesLess a.nm b.nm:=by
 rw[ByteArray.toList_eq,ByteArray.toList_eq];simp[Ex.nb]
theorem ai7_ (a b:Ex):(a.nb.toList==b.nb.toList)=decide (a.nm=b.nm):=by
 rw[ByteArray.toList_eq,ByteArray.toList_eq];simp only[Ex.nb];rw[Bool.eq_iff_iff];simp
theorem gh_.rs {O:List Ex}(h:gh_ W b w O):∃eo ec no nc,w.heap[b]? =some (.cells #[.slice eo O.length ec,.slice no O.length nc] 146 (0,0))/\cn_ w eo ec no nc O/\Below b W w:=by
 obtain⟨d,e,a,h,c⟩:=h;obtain⟨eo,ec,rfl,_⟩:=Β h.own0;obtain⟨no,nc,rfl,_⟩:=Β h.own1;exact⟨eo,ec,no,nc,h.blk,⟨⟨a,p3_ h.own0 o_,c⟩,p3_ h.own1 o_⟩,h.blw⟩
theorem cn_.set {L:List Ex}(h:cn_ w eo ec no nc L)(hb:w.heap[b]? =some (.cells #[x,y] 146 (0,0))):cn_ (w.setCell ⟨b,i,none⟩ u) eo ec no nc L:=by
 obtain⟨⟨o,p,q⟩,h3⟩:=h;have j:∀ {t n:Nat} {v:Value} {d:List Value},t≠146->w.ownsRow 0 t 1 v n d->(w.setCell ⟨b,i,none⟩ u).ownsRow 0 t 1 v n d:=by
  intro t n v d s f;refine⟨f.1, ?_⟩;rcases f.2 with c|⟨g,k,l,c,m,a,r⟩
  . exact .inl c
  . refine .inr ⟨g,k,l,c,m,a3_ a ?_,r⟩;intro e;simp only at e;subst e;rw[hb]at a;simp at a;exact s a.2.symm
 exact⟨⟨o,j d_ p,q.imp (fun _ _ hx=>sn_ hb hx)⟩,j d_ h3⟩
theorem y3_ (w:World)(eo no:Option Addr)(ec nc:Nat)(L:List Ex)(g:Nat)(e:Ex)(h:cn_ w eo ec no nc L)(he:Τ w g e)(hs:dr_ L)(hl:L.length<=2^20)(hz:e.nm.length<=2^60):
 Calls prog 114 #[.agg #[.slice eo L.length ec,.slice no L.length nc],.pointer (some ⟨g,0,none⟩)] w (ma_ (cm_ L e) w):=by
 obtain⟨iE,aj,al,am,an⟩:=info_parts ns_;obtain⟨iS,ak,ao,ap,aq⟩:=info_parts vs_;obtain⟨n,HN⟩:=δ (L.length);rw[HN.out]at hl ⊢;obtain⟨W,hW,BW,b0,b1⟩:=bl_ w #[.slice eo n ec,.slice no n nc] 146 #[.slice none 0 0,.slice none 0 0] 146;have aN:=κ b1;have HC:=aiq_ e g W (he.below BW) hz;have HR:=α h;have HE:=α he;have HS:=α hs;clear h he hs hz;go_enter func114,ntmps114;go_upto_region 1 with fail;rw[<-hW];clear hW;go_wp2_with fail;refine HC.mono ?_;clear HC;rintro r w3 ⟨rfl,az⟩;have aP:=az.size;obtain⟨j,av,-,-,-⟩:=ν w3 #[.slice none 0 0,.slice none 0 0] 146;have B4:Bl w j:=by rw[av];exact(BW.trans (az.mono o_)).alloc o_ _
 have aF:Bl W j:=by rw[av];exact az.alloc o_ _
 have d0:=(aF.block _ o_).trans b0;have d1:=(aF.block _ aN).trans b1;have d2:=aw_ av;have aO:=κ d2;obtain⟨c,aB⟩:=δ (w3.heap.size);have hO:gh_ j c j []:=by
  rw[<-aB.out];exact⟨.slice none 0 0,.slice none 0 0,[],⟨μ,d2,a8_,a8_,fun g h=>by simp[Value.ownBlock]at h⟩,trivial⟩
 have aH:=α hO;rw[aB.out]at aO aP;clear hO d2 b0 b1 az;go_upto_region 3 with fail;rw[<-av];rw[aB.out];clear av;go_wp2_with fail;go_loopw [7,8] (fun b' i' wr=>∃(i:Nat) (b:Bool) (O:List Ex),i<=n/\b'= .bool b/\i'= .int .i64 (i:Int)/\Hid (gh_ j c wr O)/\Hid (fv_ L e i b O)) (fun _ i' _=>n - (intOf i').toNat)
 case atStart=>exact⟨0,false,[],o_,rfl,rfl,aH,fv_.start L e⟩
 case round=>
  clear aH;obtain⟨i,b,O,hi,rfl,rfl,HO,X⟩:=hrel;have aQ:O.length<=i+1:=X.out.len;have aD:Below c j wr:=by obtain⟨_,_,_,h,_⟩:=HO.out;exact h.blw
  have aR:c<wr.heap.size:=by obtain⟨_,_,_,h,_⟩:=HO.out;exact κ h.blk
  have BV:=η B4 aD;obtain⟨P,Q,_,_⟩:=β ((aD.block _ o_).trans d0);by_cases aL:i<n
  . have aM:(i:Int)<(n:Int):=o_;have hL:i<L.length:=by rw[HN.out];exact aL
    obtain⟨x,hx⟩:∃x,L[i]? =some x:=⟨L[i],ge_ hL⟩;obtain⟨Z,rfl,ax,ai⟩:=HR.out.name hx;obtain⟨ea,G,rfl,aI,aE,ar⟩:=HR.out.exp hx;have cn:=(BV.cell (p:=⟨Z,i,none⟩) ax).trans ai;have cx:=(BV.cell (p:=⟨ea,i,none⟩) aI).trans aE;have ss:=ai7_ x e;have sl:=sq_ e x;by_cases Y:x.nm=e.nm
    . have q1:(x.nb.toList==e.nb.toList)=true:=by rw[ss];simp[Y]
      have ac:Hid (cm_ L e=L):=X.out.eq hx Y;have H:=(aD.block _ o_).trans d1;obtain⟨r0,r1,r2,r3⟩:=β H;obtain⟨s0,s1,s2,s3⟩:=β (cd_ (u:= .slice (some ⟨ea,0,none⟩) n ec) H);obtain⟨t0,t1,t2,t3⟩:=β (fr_ (u:= .slice (some ⟨Z,0,none⟩) n nc) (cd_ (u:= .slice (some ⟨ea,0,none⟩) n ec) H));have HP:Hid (ma_ L w (.returned (.agg #[.slice (some ⟨ea,0,none⟩) n ec,.slice (some ⟨Z,0,none⟩) n nc])) ((wr.setCell ⟨w.heap.size+1,0,none⟩ (.slice (some ⟨ea,0,none⟩) n ec)).setCell ⟨w.heap.size+1,1,none⟩ (.slice (some ⟨Z,0,none⟩) n nc))):=by
       refine⟨some ⟨ea,0,none⟩,ec,some ⟨Z,0,none⟩,nc,by rw[HN.out], ?_, ?_⟩
       . exact((HR.out.below BV).set H).set (cd_ H)
       . exact(BV.setCell (p:=⟨w.heap.size+1,0,none⟩) (le_succ _) _).setCell (p:=⟨w.heap.size+1,1,none⟩) (le_succ _) _
      clear ss sl hx Y X H ai aE ar cx;go_wp2_with fail;refine bodyPost_ret (v:= .agg #[.slice (some ⟨ea,0,none⟩) n ec,.slice (some ⟨Z,0,none⟩) n nc]) (by simp[results,results114,go_sem,t0,t1]) rfl ?_;unfold Hid at ac;rw[ac];exact HP.out
    . have q1:(x.nb.toList==e.nb.toList)=false:=by rw[ss];simp[Y]
      cases hlb:Op.bytesLess e.nm x.nm
      . rw[hlb]at sl;have sg:Op.bytesLess x.nb.toList e.nb.toList=true:=by rw[sq_];exact pn_ _ _ hlb (fun e=>Y e.symm)
        have ae:Hid (fv_ L e (i+1) b (O++ [x])):=X.out.step hx Y (.inr hlb);clear ss hx Y X hlb;cases b
        . obtain⟨s,t,k,a,l⟩:=HO.out;obtain⟨C,D,E,F⟩:=β a.blk;have I:=κ a.blk;have d:Hid (ce_ j c 146 104 1 9 1 (wr.alloc (.cells #[.pointer (some ⟨G,0,none⟩)] 104)).drew s t O.length O.length (ba_ k) (Ζ (O.map Ex.nb))):=a.below ξ.drew;have q:Hid (ae_ (wr.alloc (.cells #[.pointer (some ⟨G,0,none⟩)] 104)).drew k O):=l.below ξ.drew;have M:Hid (Τ (wr.alloc (.cells #[.pointer (some ⟨G,0,none⟩)] 104)).drew G x):=(ar.below BV).below ξ.drew;have N:=d.out.own0;clear a l;go_upto_region 13 with fail;go_cut [] (fun wc=>e8_ j c wc O x)
          case first=>
           go_region_law
            ((refine step_append_lies _ (by rfl) _ _ _ (by rfl) (c+1) 104 iE (.pointer none) 1 8 underlying144 aj al am an rfl d_ s O.length (ba_ k) (by rfl) N ⟨wr.heap.size,0,none⟩ 1 1 [.pointer (some ⟨G,0,none⟩)] (by rfl) (by rfl) (cell_one_new _ _ _) (gt_ rfl) d_ u_ o_ s_ (wr.heap.size+1) i_ ?_;intro A z B o f m ag;obtain⟨f0,f1,f2,f3⟩:=β (d.out.grown0 f);have y:Hid (e8_ j c (B.setCell ⟨c,0,none⟩ (.slice (some ⟨A,0,none⟩) (O.length+1) z)) O x):=l8_ d.out q.out M.out o f (m.imp id (fun e=>by rw[e];simp));clear o f m))
           all_goals go_wp2_with fail
           all_goals go_meet
           all_goals exact y.out
          case rest=>
           have R:Hid (e8_ j c wc O x):=hcut;clear hcut d q M N C D E F I P Q;obtain⟨s,t,k,a,l⟩:=R.out;obtain⟨C,D,E,F⟩:=β a.blk;obtain⟨P,Q,_,_⟩:=β ((a.blw.block _ o_).trans d0);have I:=κ a.blk;have V:=η B4 a.blw;have aC:=(V.cell (p:=⟨Z,i,none⟩) ax).trans ai;have d:Hid (ce_ j c 146 104 1 9 1 (wc.alloc (.cells #[.string x.nb] 9)).drew s t (O.length+1) O.length (ba_ k) (Ζ (O.map Ex.nb))):=a.below ξ.drew;have q:Hid (ae_ (wc.alloc (.cells #[.string x.nb] 9)).drew k (O++ [x])):=l.below ξ.drew;have U:=d.out.own1;clear a l;go_upto_region 14 with fail;go_region_law
            ((refine step_append_lies _ (by rfl) _ _ _ (by rfl) (c+1) 9 iS (.string ByteArray.empty) 1 16 underlying56 ak ao ap aq rfl d_ t O.length (Ζ (O.map Ex.nb)) (by rfl) U ⟨wc.heap.size,0,none⟩ 1 1 [.string x.nb] (by rfl) (by rfl) (cell_one_new _ _ _) (gt_ rfl) d_ u_ o_ s_ (wc.heap.size+1) i_ ?_;intro A z B o f m ag;obtain⟨f0,f1,f2,f3⟩:=β (d.out.grown1 f);have y:Hid (gh_ j c (B.setCell ⟨c,1,none⟩ (.slice (some ⟨A,0,none⟩) (O.length+1) z)) (O++ [x])):=l9_ d.out q.out o f (m.imp id (fun e=>by rw[e];simp));clear o f m))
           all_goals go_wp2_with fail
           all_goals
            go_roundw
            case rel=>exact⟨i+1,false,(O++ [x]),o_,rfl,by go_num,y,ae⟩
            case measure=>exact c_
        . skip;obtain⟨s,t,k,a,l⟩:=HO.out;obtain⟨C,D,E,F⟩:=β a.blk;have I:=κ a.blk;have d:Hid (ce_ j c 146 104 1 9 1 (wr.alloc (.cells #[.pointer (some ⟨G,0,none⟩)] 104)).drew s t O.length O.length (ba_ k) (Ζ (O.map Ex.nb))):=a.below ξ.drew;have q:Hid (ae_ (wr.alloc (.cells #[.pointer (some ⟨G,0,none⟩)] 104)).drew k O):=l.below ξ.drew;have M:Hid (Τ (wr.alloc (.cells #[.pointer (some ⟨G,0,none⟩)] 104)).drew G x):=(ar.below BV).below ξ.drew;have N:=d.out.own0;clear a l;go_upto_region 13 with fail;go_cut [] (fun wc=>e8_ j c wc O x)
          case first=>
           go_region_law
            ((refine step_append_lies _ (by rfl) _ _ _ (by rfl) (c+1) 104 iE (.pointer none) 1 8 underlying144 aj al am an rfl d_ s O.length (ba_ k) (by rfl) N ⟨wr.heap.size,0,none⟩ 1 1 [.pointer (some ⟨G,0,none⟩)] (by rfl) (by rfl) (cell_one_new _ _ _) (gt_ rfl) d_ u_ o_ s_ (wr.heap.size+1) i_ ?_;intro A z B o f m ag;obtain⟨f0,f1,f2,f3⟩:=β (d.out.grown0 f);have y:Hid (e8_ j c (B.setCell ⟨c,0,none⟩ (.slice (some ⟨A,0,none⟩) (O.length+1) z)) O x):=l8_ d.out q.out M.out o f (m.imp id (fun e=>by rw[e];simp));clear o f m))
           all_goals go_wp2_with fail
           all_goals go_meet
           all_goals exact y.out
          case rest=>
           have R:Hid (e8_ j c wc O x):=hcut;clear hcut d q M N C D E F I P Q;obtain⟨s,t,k,a,l⟩:=R.out;obtain⟨C,D,E,F⟩:=β a.blk;obtain⟨P,Q,_,_⟩:=β ((a.blw.block _ o_).trans d0);have I:=κ a.blk;have V:=η B4 a.blw;have aC:=(V.cell (p:=⟨Z,i,none⟩) ax).trans ai;have d:Hid (ce_ j c 146 104 1 9 1 (wc.alloc (.cells #[.string x.nb] 9)).drew s t (O.length+1) O.length (ba_ k) (Ζ (O.map Ex.nb))):=a.below ξ.drew;have q:Hid (ae_ (wc.alloc (.cells #[.string x.nb] 9)).drew k (O++ [x])):=l.below ξ.drew;have U:=d.out.own1;clear a l;go_upto_region 14 with fail;go_region_law
            ((refine step_append_lies _ (by rfl) _ _ _ (by rfl) (c+1) 9 iS (.string ByteArray.empty) 1 16 underlying56 ak ao ap aq rfl d_ t O.length (Ζ (O.map Ex.nb)) (by rfl) U ⟨wc.heap.size,0,none⟩ 1 1 [.string x.nb] (by rfl) (by rfl) (cell_one_new _ _ _) (gt_ rfl) d_ u_ o_ s_ (wc.heap.size+1) i_ ?_;intro A z B o f m ag;obtain⟨f0,f1,f2,f3⟩:=β (d.out.grown1 f);have y:Hid (gh_ j c (B.setCell ⟨c,1,none⟩ (.slice (some ⟨A,0,none⟩) (O.length+1) z)) (O++ [x])):=l9_ d.out q.out o f (m.imp id (fun e=>by rw[e];simp));clear o f m))
           all_goals go_wp2_with fail
           all_goals
            go_roundw
            case rel=>exact⟨i+1,true,(O++ [x]),o_,rfl,by go_num,y,ae⟩
            case measure=>exact c_
      . rw[hlb]at sl;have sg:Op.bytesLess x.nb.toList e.nb.toList=false:=by rw[sq_];exact l3_ hlb
        cases b
        . have ae:Hid (fv_ L e (i+1) true ((O++ [e])++ [x])):=X.out.ins HS.out hx Y hlb;clear ss hx Y X hlb;obtain⟨s,t,k,a,l⟩:=HO.out;obtain⟨C,D,E,F⟩:=β a.blk;have I:=κ a.blk;have d:Hid (ce_ j c 146 104 1 9 1 (wr.alloc (.cells #[.pointer (some ⟨g,0,none⟩)] 104)) s t O.length O.length (ba_ k) (Ζ (O.map Ex.nb))):=a.below ξ;have q:Hid (ae_ (wr.alloc (.cells #[.pointer (some ⟨g,0,none⟩)] 104)) k O):=l.below ξ;have M:Hid (Τ (wr.alloc (.cells #[.pointer (some ⟨g,0,none⟩)] 104)) g e):=(HE.out.below BV).below ξ;have N:=d.out.own0;clear a l;go_upto_region 10 with fail;go_cut [] (fun wc=>e8_ j c wc O e)
          case first=>
           go_wp2_with (at_builtin;refine Υ underlying144 aj al am an N ?_;intro A z B o f m;obtain⟨f0,f1,f2,f3⟩:=β (d.out.grown0 f);have y:Hid (e8_ j c (B.setCell ⟨c,0,none⟩ (.slice (some ⟨A,0,none⟩) (O.length+1) z)) O e):=l8_ d.out q.out M.out o f (m.imp id (fun e=>by rw[e]));clear o f m)
           all_goals go_meet
           all_goals exact y.out
          case rest=>
           have R:Hid (e8_ j c wc O e):=hcut;clear hcut d q M N C D E F I P Q;obtain⟨s,t,k,a,l⟩:=R.out;obtain⟨C,D,E,F⟩:=β a.blk;obtain⟨P,Q,_,_⟩:=β ((a.blw.block _ o_).trans d0);have I:=κ a.blk;have V:=η B4 a.blw;have d:Hid (ce_ j c 146 104 1 9 1 (wc.alloc (.cells #[.string e.nb] 9)) s t (O.length+1) O.length (ba_ k) (Ζ (O.map Ex.nb))):=a.below ξ;have q:Hid (ae_ (wc.alloc (.cells #[.string e.nb] 9)) k (O++ [e])):=l.below ξ;have U:=d.out.own1;clear a l;go_upto_region 11 with fail;go_cut [] (fun wc=>gh_ j c wc (O++ [e]))
           case first=>
            go_wp2_with (at_builtin;refine Υ underlying56 ak ao ap aq U ?_;intro A z B o f m;obtain⟨f0,f1,f2,f3⟩:=β (d.out.grown1 f);have y:Hid (gh_ j c (B.setCell ⟨c,1,none⟩ (.slice (some ⟨A,0,none⟩) (O.length+1) z)) (O++ [e])):=l9_ d.out q.out o f (m.imp id (fun e=>by rw[e]));clear o f m)
            all_goals go_meet
            all_goals exact y.out
           case rest=>
            have ah:Hid (gh_ j c wc (O++ [e])):=hcut;clear hcut d q U C D E F I P Q R V;have aK:(O++ [e]).length<=i+2:=s_;obtain⟨K,aJ⟩:=δ (O++ [e]);rw[aJ.out]at ah ae aK;obtain⟨P,Q,_,_⟩:wc.cell? ⟨w.heap.size,0,none⟩=some (.slice (some ⟨ea,0,none⟩) n ec)/\wc.cell? ⟨w.heap.size,1,none⟩=some (.slice (some ⟨Z,0,none⟩) n nc)/\True/\True:=by
             obtain⟨_,_,_,h,_⟩:=ah.out;obtain⟨P,Q,_,_⟩:=β ((h.blw.block _ o_).trans d0);exact⟨P,Q,trivial,trivial⟩
            have aG:Bl w wc:=by
             obtain⟨_,_,_,h,_⟩:=ah.out;exact B4.trans (h.blw.mono o_)
            have cx:=(aG.cell (p:=⟨ea,i,none⟩) aI).trans aE;obtain⟨s,t,k,a,l⟩:=ah.out;obtain⟨C,D,E,F⟩:=β a.blk;have I:=κ a.blk;have d:Hid (ce_ j c 146 104 1 9 1 (wc.alloc (.cells #[.pointer (some ⟨G,0,none⟩)] 104)).drew s t K.length K.length (ba_ k) (Ζ (K.map Ex.nb))):=a.below ξ.drew;have q:Hid (ae_ (wc.alloc (.cells #[.pointer (some ⟨G,0,none⟩)] 104)).drew k K):=l.below ξ.drew;have M:Hid (Τ (wc.alloc (.cells #[.pointer (some ⟨G,0,none⟩)] 104)).drew G x):=(ar.below aG).below ξ.drew;have N:=d.out.own0;clear a l;go_upto_region 13 with fail;go_cut [] (fun wc=>e8_ j c wc K x)
            case first=>
             go_region_law
              ((refine step_append_lies _ (by rfl) _ _ _ (by rfl) (c+1) 104 iE (.pointer none) 1 8 underlying144 aj al am an rfl d_ s K.length (ba_ k) (by rfl) N ⟨wc.heap.size,0,none⟩ 1 1 [.pointer (some ⟨G,0,none⟩)] (by rfl) (by rfl) (cell_one_new _ _ _) (gt_ rfl) d_ u_ o_ s_ (wc.heap.size+1) i_ ?_;intro A z B o f m ag;obtain⟨f0,f1,f2,f3⟩:=β (d.out.grown0 f);have y:Hid (e8_ j c (B.setCell ⟨c,0,none⟩ (.slice (some ⟨A,0,none⟩) (K.length+1) z)) K x):=l8_ d.out q.out M.out o f (m.imp id (fun e=>by rw[e];simp));clear o f m))
             all_goals go_wp2_with fail
             all_goals go_meet
             all_goals exact y.out
            case rest=>
             have R:Hid (e8_ j c wc K x):=hcut;clear hcut d q M N C D E F I P Q;obtain⟨s,t,k,a,l⟩:=R.out;obtain⟨C,D,E,F⟩:=β a.blk;obtain⟨P,Q,_,_⟩:=β ((a.blw.block _ o_).trans d0);have I:=κ a.blk;have V:=η B4 a.blw;have aC:=(V.cell (p:=⟨Z,i,none⟩) ax).trans ai;have d:Hid (ce_ j c 146 104 1 9 1 (wc.alloc (.cells #[.string x.nb] 9)).drew s t (K.length+1) K.length (ba_ k) (Ζ (K.map Ex.nb))):=a.below ξ.drew;have q:Hid (ae_ (wc.alloc (.cells #[.string x.nb] 9)).drew k (K++ [x])):=l.below ξ.drew;have U:=d.out.own1;clear a l;go_upto_region 14 with fail;go_region_law
              ((refine step_append_lies _ (by rfl) _ _ _ (by rfl) (c+1) 9 iS (.string ByteArray.empty) 1 16 underlying56 ak ao ap aq rfl d_ t K.length (Ζ (K.map Ex.nb)) (by rfl) U ⟨wc.heap.size,0,none⟩ 1 1 [.string x.nb] (by rfl) (by rfl) (cell_one_new _ _ _) (gt_ rfl) d_ u_ o_ s_ (wc.heap.size+1) i_ ?_;intro A z B o f m ag;obtain⟨f0,f1,f2,f3⟩:=β (d.out.grown1 f);have y:Hid (gh_ j c (B.setCell ⟨c,1,none⟩ (.slice (some ⟨A,0,none⟩) (K.length+1) z)) (K++ [x])):=l9_ d.out q.out o f (m.imp id (fun e=>by rw[e];simp));clear o f m))
             all_goals go_wp2_with fail
             all_goals
              go_roundw
              case rel=>exact⟨i+1,true,(K++ [x]),o_,rfl,by go_num,y,ae⟩
              case measure=>exact c_
        . have ae:Hid (fv_ L e (i+1) true (O++ [x])):=X.out.step hx Y (.inl rfl);clear ss hx Y X hlb;obtain⟨s,t,k,a,l⟩:=HO.out;obtain⟨C,D,E,F⟩:=β a.blk;have I:=κ a.blk;have d:Hid (ce_ j c 146 104 1 9 1 (wr.alloc (.cells #[.pointer (some ⟨G,0,none⟩)] 104)).drew s t O.length O.length (ba_ k) (Ζ (O.map Ex.nb))):=a.below ξ.drew;have q:Hid (ae_ (wr.alloc (.cells #[.pointer (some ⟨G,0,none⟩)] 104)).drew k O):=l.below ξ.drew;have M:Hid (Τ (wr.alloc (.cells #[.pointer (some ⟨G,0,none⟩)] 104)).drew G x):=(ar.below BV).below ξ.drew;have N:=d.out.own0;clear a l;go_upto_region 13 with fail;go_cut [] (fun wc=>e8_ j c wc O x)
          case first=>
           go_region_law
            ((refine step_append_lies _ (by rfl) _ _ _ (by rfl) (c+1) 104 iE (.pointer none) 1 8 underlying144 aj al am an rfl d_ s O.length (ba_ k) (by rfl) N ⟨wr.heap.size,0,none⟩ 1 1 [.pointer (some ⟨G,0,none⟩)] (by rfl) (by rfl) (cell_one_new _ _ _) (gt_ rfl) d_ u_ o_ s_ (wr.heap.size+1) i_ ?_;intro A z B o f m ag;obtain⟨f0,f1,f2,f3⟩:=β (d.out.grown0 f);have y:Hid (e8_ j c (B.setCell ⟨c,0,none⟩ (.slice (some ⟨A,0,none⟩) (O.length+1) z)) O x):=l8_ d.out q.out M.out o f (m.imp id (fun e=>by rw[e];simp));clear o f m))
           all_goals go_wp2_with fail
           all_goals go_meet
           all_goals exact y.out
          case rest=>
           have R:Hid (e8_ j c wc O x):=hcut;clear hcut d q M N C D E F I P Q;obtain⟨s,t,k,a,l⟩:=R.out;obtain⟨C,D,E,F⟩:=β a.blk;obtain⟨P,Q,_,_⟩:=β ((a.blw.block _ o_).trans d0);have I:=κ a.blk;have V:=η B4 a.blw;have aC:=(V.cell (p:=⟨Z,i,none⟩) ax).trans ai;have d:Hid (ce_ j c 146 104 1 9 1 (wc.alloc (.cells #[.string x.nb] 9)).drew s t (O.length+1) O.length (ba_ k) (Ζ (O.map Ex.nb))):=a.below ξ.drew;have q:Hid (ae_ (wc.alloc (.cells #[.string x.nb] 9)).drew k (O++ [x])):=l.below ξ.drew;have U:=d.out.own1;clear a l;go_upto_region 14 with fail;go_region_law
            ((refine step_append_lies _ (by rfl) _ _ _ (by rfl) (c+1) 9 iS (.string ByteArray.empty) 1 16 underlying56 ak ao ap aq rfl d_ t O.length (Ζ (O.map Ex.nb)) (by rfl) U ⟨wc.heap.size,0,none⟩ 1 1 [.string x.nb] (by rfl) (by rfl) (cell_one_new _ _ _) (gt_ rfl) d_ u_ o_ s_ (wc.heap.size+1) i_ ?_;intro A z B o f m ag;obtain⟨f0,f1,f2,f3⟩:=β (d.out.grown1 f);have y:Hid (gh_ j c (B.setCell ⟨c,1,none⟩ (.slice (some ⟨A,0,none⟩) (O.length+1) z)) (O++ [x])):=l9_ d.out q.out o f (m.imp id (fun e=>by rw[e];simp));clear o f m))
           all_goals go_wp2_with fail
           all_goals
            go_roundw
            case rel=>exact⟨i+1,true,(O++ [x]),o_,rfl,by go_num,y,ae⟩
            case measure=>exact c_
  . have aM:¬(i:Int)<(n:Int):=o_;have ay:Hid (cm_ L e=if b then O else O++ [e]):=X.out.fin (by rw[HN.out];omega);clear X;cases b
    . have ac:=α ay;clear ay;obtain⟨s,t,k,a,l⟩:=HO.out;obtain⟨C,D,E,F⟩:=β a.blk;have I:=κ a.blk;have d:Hid (ce_ j c 146 104 1 9 1 (wr.alloc (.cells #[.pointer (some ⟨g,0,none⟩)] 104)) s t O.length O.length (ba_ k) (Ζ (O.map Ex.nb))):=a.below ξ;have q:Hid (ae_ (wr.alloc (.cells #[.pointer (some ⟨g,0,none⟩)] 104)) k O):=l.below ξ;have M:Hid (Τ (wr.alloc (.cells #[.pointer (some ⟨g,0,none⟩)] 104)) g e):=(HE.out.below BV).below ξ;have N:=d.out.own0;clear a l;go_upto_region 16 with fail;go_cut [] (fun wc=>e8_ j c wc O e)
      case first=>
       go_wp2_with (at_builtin;refine Υ underlying144 aj al am an N ?_;intro A z B o f m;obtain⟨f0,f1,f2,f3⟩:=β (d.out.grown0 f);have y:Hid (e8_ j c (B.setCell ⟨c,0,none⟩ (.slice (some ⟨A,0,none⟩) (O.length+1) z)) O e):=l8_ d.out q.out M.out o f (m.imp id (fun e=>by rw[e]));clear o f m)
       all_goals go_meet
       all_goals exact y.out
      case rest=>
       have R:Hid (e8_ j c wc O e):=hcut;clear hcut d q M N C D E F I P Q;obtain⟨s,t,k,a,l⟩:=R.out;obtain⟨C,D,E,F⟩:=β a.blk;obtain⟨P,Q,_,_⟩:=β ((a.blw.block _ o_).trans d0);have I:=κ a.blk;have V:=η B4 a.blw;have d:Hid (ce_ j c 146 104 1 9 1 (wc.alloc (.cells #[.string e.nb] 9)) s t (O.length+1) O.length (ba_ k) (Ζ (O.map Ex.nb))):=a.below ξ;have q:Hid (ae_ (wc.alloc (.cells #[.string e.nb] 9)) k (O++ [e])):=l.below ξ;have U:=d.out.own1;clear a l;go_upto_region 17 with fail;go_cut [] (fun wc=>gh_ j c wc (O++ [e]))
       case first=>
        go_wp2_with (at_builtin;refine Υ underlying56 ak ao ap aq U ?_;intro A z B o f m;obtain⟨f0,f1,f2,f3⟩:=β (d.out.grown1 f);have y:Hid (gh_ j c (B.setCell ⟨c,1,none⟩ (.slice (some ⟨A,0,none⟩) (O.length+1) z)) (O++ [e])):=l9_ d.out q.out o f (m.imp id (fun e=>by rw[e]));clear o f m)
        all_goals go_meet
        all_goals exact y.out
       case rest=>
        have ah:Hid (gh_ j c wc (O++ [e])):=hcut;clear hcut d q U C D E F I P Q R V;obtain⟨T,S,ab,aa,aw,au,af⟩:=ah.out.rs;have aA:=η B4 af;obtain⟨C,D,E,F⟩:=β aw;have H:=(af.block _ o_).trans d1;obtain⟨r0,r1,r2,r3⟩:=β H;obtain⟨J,ad⟩:=δ (((O++ [e])).length);rw[ad.out]at C D;obtain⟨s0,s1,s2,s3⟩:=β (cd_ (u:= .slice T J S) H);obtain⟨t0,t1,t2,t3⟩:=β (fr_ (u:= .slice ab J aa) (cd_ (u:= .slice T J S) H));have HP:Hid (ma_ ((O++ [e])) w (.returned (.agg #[.slice T J S,.slice ab J aa])) ((wc.setCell ⟨w.heap.size+1,0,none⟩ (.slice T J S)).setCell ⟨w.heap.size+1,1,none⟩ (.slice ab J aa))):=by
         refine⟨T,S,ab,aa,by rw[ad.out], ?_, ?_⟩
         . exact(au.set H).set (cd_ H)
         . exact(aA.setCell (p:=⟨w.heap.size+1,0,none⟩) (le_succ _) _).setCell (p:=⟨w.heap.size+1,1,none⟩) (le_succ _) _
        clear au aw H ad af;go_wp2_with fail;refine bodyPost_ret (v:= .agg #[.slice T J S,.slice ab J aa]) (by simp[results,results114,go_sem,t0,t1]) rfl ?_;unfold Hid at ac;rw[ac];exact HP.out
    . have ac:=α ay;clear ay;obtain⟨T,S,ab,aa,aw,au,af⟩:=HO.out.rs;have aA:=η B4 af;obtain⟨C,D,E,F⟩:=β aw;have H:=(af.block _ o_).trans d1;obtain⟨r0,r1,r2,r3⟩:=β H;obtain⟨J,ad⟩:=δ ((O).length);rw[ad.out]at C D;obtain⟨s0,s1,s2,s3⟩:=β (cd_ (u:= .slice T J S) H);obtain⟨t0,t1,t2,t3⟩:=β (fr_ (u:= .slice ab J aa) (cd_ (u:= .slice T J S) H));have HP:Hid (ma_ (O) w (.returned (.agg #[.slice T J S,.slice ab J aa])) ((wr.setCell ⟨w.heap.size+1,0,none⟩ (.slice T J S)).setCell ⟨w.heap.size+1,1,none⟩ (.slice ab J aa))):=by
       refine⟨T,S,ab,aa,by rw[ad.out], ?_, ?_⟩
       . exact(au.set H).set (cd_ H)
       . exact(aA.setCell (p:=⟨w.heap.size+1,0,none⟩) (le_succ _) _).setCell (p:=⟨w.heap.size+1,1,none⟩) (le_succ _) _
      clear au aw H ad af;go_wp2_with fail;refine bodyPost_ret (v:= .agg #[.slice T J S,.slice ab J aa]) (by simp[results,results114,go_sem,t0,t1]) rfl ?_;unfold Hid at ac;rw[ac];exact HP.out
def gi_ (W:World)(b:Nat)(w:World)(L:List Ex):Prop:=∃eo ec no nc,w.heap[b]? =some (.cells #[.slice eo L.length ec,.slice no L.length nc] 146 (0,0))/\cn_ w eo ec no nc L/\Below b W w
theorem gi_.below {L:List Ex}(h:gi_ W b w L)(hb:Bl w w'):gi_ W b w' L:=by
 obtain⟨d,c,no,g,a,e,f⟩:=h;exact⟨d,c,no,g,(hb.block _ (κ a)).trans a,e.below hb,f.trans (hb.mono (by have:=κ a;omega))⟩
theorem gi_.lt {L:List Ex}(h:gi_ W b w L):b<w.heap.size:=by obtain⟨_,_,_,_,h,_⟩:=h;exact κ h
theorem gi_.blw {L:List Ex}(h:gi_ W b w L):Below b W w:=by obtain⟨_,_,_,_,_,_,h⟩:=h;exact h
theorem gi_.put {L:List Ex}(hw:w.heap[b]? =some (.cells #[x,y] 146 (0,0)))(hB:Below b W w)(h:cn_ w eo ec no nc L)(hn:L.length=n):
 gi_ W b ((w.setCell ⟨b,0,none⟩ (.slice eo n ec)).setCell ⟨b,1,none⟩ (.slice no n nc)) L:=by
 subst hn;exact⟨eo,ec,no,nc,fr_ (cd_ hw),(h.set hw).set (cd_ hw),(hB.setCell (p:=⟨b,0,none⟩) ι _).setCell (p:=⟨b,1,none⟩) ι _⟩
theorem ai8_ {cs:Array Value}(hT:ε (fun k=>k=b) w w')(hb:w.heap[b]? =some (.cells cs 146 (0,0))){e:Ex}(h:Τ w g e):Τ w' g e:=by
 have i:∀(k:Nat) (cs:Array Value),w.heap[k]? =some (.cells cs 199 (0,0))->w'.heap[k]? =some (.cells cs 199 (0,0)):=by
  intro k cs m;refine hT.heap m ?_;intro e;have n:k=b:=e;subst n;rw[hb]at m;simp at m
 induction e generalizing g with
 |nil=>exact i _ _ h
 |one S=>exact i _ _ h
 |thn a b iha ihb=>obtain⟨c,j,d,f,l⟩:=h;exact⟨c,j,i _ _ d,iha f,ihb l⟩
 |alt a b iha ihb=>obtain⟨c,j,d,f,l⟩:=h;exact⟨c,j,i _ _ d,iha f,ihb l⟩
 |star a iha=>obtain⟨c,d,f⟩:=h;exact⟨c,i _ _ d,iha f⟩
theorem y4_ (h:ε (fun k=>k=b) w w'):ε (fun k=>k=b) w (w'.setCell ⟨b,i,none⟩ u):=
 ⟨h.os,h.tape,h.output,by simpa using h.size,fun k hk hn=>by rw[Below.heap_setCell w' ⟨b,i,none⟩ u k hn];exact h.block k hk hn⟩
structure iy_ (L:List Ex)(c i:Nat)(M:List Ex):Prop where
 eq:M=(L.take i).foldl (fun out e=>fq_ out (e.behind c)) []
 srt:dr_ M
 can:∀x∈M,x.can
 len:M.length<=i*20000
structure iz_ (M B:List Ex)(l k:Nat)(M':List Ex):Prop where
 eq:M'=fq_ M (B.take k)
 srt:dr_ M'
 can:∀x∈M',x.can
 len:M'.length<=l+k
theorem iy_.start (L:List Ex)(c:Nat):iy_ L c 0 []:=⟨rfl,List.Pairwise.nil,i_,i_⟩
theorem iy_.k {L M:List Ex}(h:iy_ L c i M)(B:List Ex):iz_ M B (i*20000) 0 M:=by
 refine⟨by simp[fq_],h.srt,h.can, ?_⟩;have:=h.len;rw[Nat.add_zero];exact this
theorem iz_.step {M B M':List Ex}{l k:Nat}{d:Ex}(h:iz_ M B l k M')(hd:B[k]? =some d)(hc:d.can):iz_ M B l (k+1) (cm_ M' d):=by
 refine⟨?_,vg_ hc h.can h.srt,fun x hx=> ?_, ?_⟩
 . rw[take_add_one,hd];unfold fq_;rw[foldl_append];have:=h.eq;unfold fq_ at this;rw[<-this];rfl
 . rcases (oz_ hc h.can).1 hx with rfl|hx
   . exact hc
   . exact h.can x hx
 . have:=vk_ M' d;have:=h.len;omega
theorem iz_.fin {L M M':List Ex}{x:Ex}(h:iz_ M (x.behind c) (i*20000) (x.behind c).length M')(hM:iy_ L c i M)(hx:L[i]? =some x)(hl:(x.behind c).length<=20000):iy_ L c (i+1) M':=by
 refine⟨?_,h.srt,h.can,by have:=h.len;omega⟩;rw[take_add_one,hx,foldl_append,<-hM.eq,h.eq,tk_ ι];rfl
theorem ai9_ (w:World)(eo no:Option Addr)(ec nc c:Nat)(L:List Ex)(h:cn_ w eo ec no nc L)(hc:c<8)(hl:L.length<=16)(hlet:∀x∈L,x.letters<=20000)(hcan:∀x∈L,∀d∈x.behind c,d.can/\d.nm.length<=2^60):
 Calls prog 116 #[.agg #[.slice eo L.length ec,.slice no L.length nc],.int .i64 (c:Int)] w (ma_ (ga_ L c) w):=by
 obtain⟨n,Z⟩:=δ (L.length);rw[Z.out]at hl ⊢;obtain⟨W,hW,BW,d0,d1,d2⟩:=fe_ w #[.slice eo n ec,.slice no n nc] 146 #[.slice none 0 0,.slice none 0 0] 146 #[.slice none 0 0,.slice none 0 0] 146;have T:Hid (gi_ W (w.heap.size+1+1) W []):=⟨none,0,none,0,d2,cn_.nil W,μ⟩;have HR:=α h;have aS:=α hlet;have aO:=α hcan;clear h hlet hcan d2;go_enter func116,ntmps116;go_upto_region 2 with fail;rw[<-hW];clear hW;obtain⟨f,aD⟩:∃x,w.heap.size+1+1=x:=⟨_,rfl⟩;rw[aD]at T ⊢;have bc:w.heap.size+1<f:=o_;clear aD;go_wp2_with fail;go_loopw [6,7,8] (fun i' _ _ wr=>∃(i:Nat) (M:List Ex),i<=n/\i'= .int .i64 (i:Int)/\Hid (gi_ W f wr M)/\Hid (iy_ L c i M)) (fun i' _ _ _=>n - (intOf i').toNat)
 case atStart=>exact⟨0,[],o_,rfl,T,iy_.start L c⟩
 case round=>
  clear T;obtain⟨i,M,hi,rfl,t,C⟩:=hrel;have O:=t.out.blw;have bd:=t.out.lt;have I:=η BW O;obtain⟨x0,x1,_,_⟩:=β ((O.block _ o_).trans d0);by_cases a6:i<n
  . have a7:(i:Int)<(n:Int):=o_;have hL:i<L.length:=by rw[Z.out];exact a6
    obtain⟨x,R⟩:∃x,L[i]? =some x:=⟨L[i],ge_ hL⟩;have ag:=mem_of_getElem? R;obtain⟨ea,gx,rfl,a3,aF,au⟩:=HR.out.exp R;have cx:=(I.cell (p:=⟨ea,i,none⟩) a3).trans aF;have bf:=aS.out x ag;have l:=aiz_ x gx c wr hc (au.below I) o_;have ay:=lr_ x c;have HD:Hid (∀d∈x.behind c,d.can/\d.nm.length<=2^60):=aO.out x ag;have U:Hid (∀b,iz_ M (x.behind c) (i*20000) (x.behind c).length b->iy_ L c (i+1) b):=fun b h=>h.fin C.out R o_
    have V:Hid (iz_ M (x.behind c) (i*20000) 0 M):=C.out.k _;obtain⟨D,ak⟩:=δ (x.behind c);rw[ak.out]at l ay HD U V;clear R ag aF au ak C;go_wp2_with fail;refine l.mono ?_;clear l;rintro r S ⟨v1,aZ,rfl,aK,ae,ac⟩;have bh:=ac.size;have al:Hid (gi_ W f S M):=t.out.below ac;have aR:=α ae.len;obtain⟨m,Y⟩:=δ (D.length);rw[Y.out]at ay U;have aQ:=α ae;have am:Hid (S.ownsRow wr.heap.size 104 1 v1 m (ba_ aZ)):=by unfold Hid;rw[<-Y.out,<-aR.out];exact aK
    obtain⟨K,N,rfl⟩:∃K N,v1= .slice K m N:=by
     obtain⟨K,N,e,_⟩:=Β am.out;exact⟨K,N,e⟩
    have bg:m<=20000:=o_;clear aK ae ac cx x0 x1 I O t;go_wp2_with fail;go_loopw [8] (fun k' wi=>∃(k:Nat) (b:List Ex),k<=m/\k'= .int .i64 (k:Int)/\Hid (gi_ W f wi b)/\Hid (iz_ M D (i*20000) k b)/\ε (fun j=>j=f) S wi) (fun k' _=>m - (intOf k').toNat)
    case atStart=>exact⟨0,M,o_,rfl,al,V,⟨rfl,rfl,rfl,ι,fun _ _ _=>rfl⟩⟩
    case round=>
     clear V;obtain⟨k,b,hk,rfl,J,s,E⟩:=hrel;have a2:=J.out.lt;by_cases a4:k<m
     . have a5:(k:Int)<(m:Int):=o_;obtain⟨d,P⟩:∃d,D[k]? =some d:=⟨D[k]'(by rw[Y.out];exact a4),ge_ _⟩;obtain⟨aG,aH⟩:=HD.out d (mem_of_getElem? P);obtain⟨gd,aI,aq⟩:=aQ.out.get P;obtain⟨a1,ba,hv,bb,a0,aE⟩:=p4_ am.out aI;simp only[Value.slice.injEq]at hv;obtain⟨rfl,_,rfl⟩:=hv;obtain⟨_,_,_,_,aA,_,_⟩:=al.out;have ar:=ai8_ E aA aq;have cd:wr.cell? ⟨a1,k,none⟩=some (.pointer (some ⟨gd,0,none⟩)):=by
        rw[World.cell?_of_block (a:=⟨a1,k,none⟩) (E.block a1 a0 (by intro e;omega))];exact aE
       have be:(0:Int)<=(k:Int):=o_;have ai:Hid (iz_ M D (i*20000) (k+1) (cm_ b d)):=s.out.step P aG;obtain⟨aY,aX,a9,a8,af,aw,aC⟩:=J.out;have aJ:b.length<=2^20:=by have:=s.out.len;omega
       have ad:Bl wr wr.drew:=μ.drew;have l:=y3_ wr.drew aY a9 aX a8 b gd d (aw.below ad) (ar.below ad) s.out.srt aJ aH;obtain⟨y0,y1,z0,z1⟩:=β af;have ah:=α af;have aN:=α aC;have y:=α E;obtain⟨lm,aT⟩:=δ (b.length);rw[aT.out]at l y0 y1 ah aJ;obtain⟨MN,aU⟩:=δ (cm_ b d);rw[aU.out]at l ai;clear P aG aH aI aq aE aA ar af aw aC E J s ad;go_wp2_with fail;go_region_with (go_at_call 114;refine l.mono ?_;rintro r w6 ⟨ab,aa,aM,aL,rfl,ax,ap⟩;have o:Bl wr w6:=(Below.refl wr.heap.size wr).drew.trans ap;have Q:=(o.block f a2).trans ah.out;obtain⟨p0,p1,p2,p3⟩:=β Q;obtain⟨F,aj⟩:∃q,Hid (MN.length=q):=⟨_,rfl⟩;rw[aj.out];obtain⟨s0,s1,s2,s3⟩:=β (cd_ (u:= .slice ab F aa) Q);have aP:Hid (gi_ W f ((w6.setCell ⟨f,0,none⟩ (.slice ab F aa)).setCell ⟨f,1,none⟩ (.slice aM F aL)) MN):=gi_.put Q (aN.out.trans (o.mono o_)) ax aj.out;have aW:Hid (ε (fun j=>j=f) S ((w6.setCell ⟨f,0,none⟩ (.slice ab F aa)).setCell ⟨f,1,none⟩ (.slice aM F aL))):=y4_ (y4_ ⟨o.os.trans y.out.os,o.tape.trans y.out.tape,o.output.trans y.out.output,Nat.le_trans y.out.size o.size,fun j hj hn=>(o.block j (Nat.lt_of_lt_of_le hj y.out.size)).trans (y.out.block j hj hn)⟩);clear ax ap Q l)
       all_goals go_wp2_with fail
       all_goals
        go_roundw
        case rel=>exact⟨k+1,MN,o_,by go_num,aP,ai,aW.out⟩
        case measure=>exact c_
     . have a5:¬(k:Int)<(m:Int):=o_;obtain rfl:k=m:=o_;have aV:Hid (iy_ L c (i+1) b):=U.out b s.out;clear s E;go_wp2_with fail;go_roundw
       case rel=>exact⟨i+1,b,o_,by go_num,J,aV⟩
       case measure=>exact c_
  . have a7:¬(i:Int)<(n:Int):=o_;have an:Hid (ga_ L c=M):=by
     unfold Hid ga_;rw[C.out.eq,tk_ (by rw[Z.out];omega)]
    obtain⟨A,z,H,G,az,av,aB⟩:=t.out;obtain⟨y0,y1,z0,z1⟩:=β az;have B:=(aB.block _ o_).trans d1;obtain⟨r0,r1,r2,r3⟩:=β B;obtain⟨g,X⟩:=δ (M.length);rw[X.out]at y0 y1;obtain⟨s0,s1,s2,s3⟩:=β (cd_ (u:= .slice A g z) B);obtain⟨t0,t1,t2,t3⟩:=β (fr_ (u:= .slice H g G) (cd_ (u:= .slice A g z) B));have HP:Hid (ma_ M w (.returned (.agg #[.slice A g z,.slice H g G])) ((wr.setCell ⟨w.heap.size+1,0,none⟩ (.slice A g z)).setCell ⟨w.heap.size+1,1,none⟩ (.slice H g G))):=by
     refine⟨A,z,H,G,by rw[X.out], ?_, ?_⟩
     . exact(av.set B).set (cd_ B)
     . exact(I.setCell (p:=⟨w.heap.size+1,0,none⟩) (le_succ _) _).setCell (p:=⟨w.heap.size+1,1,none⟩) (le_succ _) _
    clear av az B X aB O C t;go_wp2_with fail;refine bodyPost_ret (v:= .agg #[.slice A g z,.slice H g G]) (by simp[results,results116,go_sem,t0,t1]) rfl ?_;unfold Hid at an;rw[an];exact HP.out
end Go.Proofs.YtpngikmcjkjdaaaGreatDoor
