import Derived.Test.YtpngikmcjkjdaaaGreatDoorG0
import Derived.Deep.AppendLies
import Derived.Deep.RegionLaw
import Derived.Deep.RegionWith
import Derived.Test.YtpngikmcjkjdaaaGreatDoorG35
set_option linter.unusedVariables false
set_option linter.unusedSimpArgs false
set_option maxRecDepth 20000
set_option maxHeartbeats 80000000
namespace Go.Proofs.YtpngikmcjkjdaaaGreatDoor
open Go.RowKit Tryz
def fg_ (W:World)(b:Nat)(w:World)(O:List Ex):Prop:=∃v0 v1 gs,bd_ W b 146 104 1 9 1 w v0 v1 O.length O.length (a3_ gs) (strs (O.map Ex.nb))/\a1_ w gs O
def dr_ (W:World)(b:Nat)(w:World)(O:List Ex)(e:Ex):Prop:=∃v0 v1 gs,bd_ W b 146 104 1 9 1 w v0 v1 (O.length+1) O.length (a3_ gs) (strs (O.map Ex.nb))/\a1_ w gs (O++ [e])
theorem td_ {w:World}{b:Nat}{x y u:Value}{i:Nat}(hb:w.heap[b]? =some (.cells #[x,y] 146 (0,0))){g:Nat}{e:Ex}(h:ExAt w g e):ExAt (w.setCell ⟨b,i,none⟩ u) g e:=by
 have key:∀(k:Nat) (cs:Array Value),w.heap[k]? =some (.cells cs 199 (0,0))->(w.setCell ⟨b,i,none⟩ u).heap[k]? =some (.cells cs 199 (0,0)):=by
  intro k cs hk;refine aj_ hk ?_;intro e;simp only at e;subst e;rw[hb]at hk;simp at hk
 induction e generalizing g with
 |nil=>exact key _ _ h
 |one S=>exact key _ _ h
 |thn a b iha ihb=>obtain⟨ga,gb,h1,h2,h3⟩:=h;exact⟨ga,gb,key _ _ h1,iha h2,ihb h3⟩
 |alt a b iha ihb=>obtain⟨ga,gb,h1,h2,h3⟩:=h;exact⟨ga,gb,key _ _ h1,iha h2,ihb h3⟩
 |star a iha=>obtain⟨ga,h1,h2⟩:=h;exact⟨ga,key _ _ h1,iha h2⟩
theorem qs_ {w w':World}{base n t s:Nat}{v:Value}{xs:List Value}(ho:w.ownsRow base t s v n xs)(ht:t≠199)(hg:w.grownBy w' v.ownBlock){g:Nat}{e:Ex}(h:ExAt w g e):ExAt w' g e:=by
 have key:∀(b:Nat) (cs:Array Value),w.heap[b]? =some (.cells cs 199 (0,0))->w'.heap[b]? =some (.cells cs 199 (0,0)):=by
  intro b cs hb;rw[hg.block b (ac_ hb) ?_,hb];intro e;rcases ho.2 with ⟨rfl,_⟩|⟨a,cap,cur,rfl,_,h1,_⟩
  . simp[Value.ownBlock]at e
  . simp only[Value.ownBlock,Option.some.injEq]at e;subst e;rw[hb]at h1;simp at h1;exact ht h1.2.symm
 induction e generalizing g with
 |nil=>exact key _ _ h
 |one S=>exact key _ _ h
 |thn a b iha ihb=>obtain⟨ga,gb,h1,h2,h3⟩:=h;exact⟨ga,gb,key _ _ h1,iha h2,ihb h3⟩
 |alt a b iha ihb=>obtain⟨ga,gb,h1,h2,h3⟩:=h;exact⟨ga,gb,key _ _ h1,iha h2,ihb h3⟩
 |star a iha=>obtain⟨ga,h1,h2⟩:=h;exact⟨ga,key _ _ h1,iha h2⟩
section
variable {W w w2:World} {b:Nat} {v0 v1:Value} {gs:List Nat} {O:List Ex} {e:Ex}
theorem ie_ (h:bd_ W b 146 104 1 9 1 w v0 v1 O.length O.length (a3_ gs) (strs (O.map Ex.nb)))(hE:a1_ w gs O){g k cap:Nat}(he:ExAt w k e)
 (hown:w2.ownsRow (b+1) 104 1 (.slice (some ⟨g,0,none⟩) (O.length+1) cap) (O.length+1) (a3_ gs++ [.pointer (some ⟨k,0,none⟩)])) (hg:w.grownBy w2 v0.ownBlock) (hf:v0.ownBlock=some g\/g=w.heap.size):
 dr_ W b (w2.setCell ⟨b,0,none⟩ (.slice (some ⟨g,0,none⟩) (O.length+1) cap)) O e:=by
 refine⟨_,_,gs++ [k],h.put0 (by rw[iv_];exact hown) hg hf, ?_⟩;exact(hE.snoc he).imp (fun _ _ hx=>td_ (h.grown0 hg) (qs_ h.own0 d_ hg hx))
theorem ka_ (h:bd_ W b 146 104 1 9 1 w v0 v1 (O.length+1) O.length (a3_ gs) (strs (O.map Ex.nb)))(hE:a1_ w gs (O++ [e])){g cap:Nat}
 (hown:w2.ownsRow (b+1) 9 1 (.slice (some ⟨g,0,none⟩) (O.length+1) cap) (O.length+1) (strs (O.map Ex.nb)++ [.string e.nb])) (hg:w.grownBy w2 v1.ownBlock) (hf:v1.ownBlock=some g\/g=w.heap.size):
 fg_ W b (w2.setCell ⟨b,1,none⟩ (.slice (some ⟨g,0,none⟩) (O.length+1) cap)) (O++ [e]):=by
 have hl:(O++ [e]).length=O.length+1:=i_;refine⟨v0,.slice (some ⟨g,0,none⟩) (O.length+1) cap,gs, ?_, ?_⟩
 . rw[hl,List.map_append,show [e].map Ex.nb=[e.nb]from rfl,<-gy_];exact h.put1 hown hg hf
 . exact hE.imp (fun _ _ hx=>td_ (h.grown1 hg) (qs_ h.own1 d_ hg hx))
end
structure WRel (L:List Ex)(e:Ex)(i:Nat)(b:Bool)(O:List Ex):Prop where
 all:insE L e=O++(if b then L.drop i else insE (L.drop i) e)
 pre:b=false->O=L.take i
 ne:b=true->∀x∈L.drop i,x.nm≠e.nm
 len:O.length<=i+1
theorem WRel.start (L:List Ex)(e:Ex):WRel L e 0 false []:=⟨i_,fun _=>rfl,fun h=>by simp at h,i_⟩
section
variable {L:List Ex} {e x:Ex} {i:Nat} {b:Bool} {O:List Ex}
theorem po_ (hx:L[i]? =some x):L.drop i=x::L.drop (i+1):=by
 have hj:=(List.getElem?_eq_some_iff.1 hx).1;rw[List.drop_eq_getElem_cons hj];rw[List.getElem?_eq_getElem hj]at hx;simp at hx;rw[hx]
theorem WRel.eq (h:WRel L e i b O)(hx:L[i]? =some x)(hn:x.nm=e.nm):insE L e=L:=by
 have hd:=po_ hx;cases b with
 |true=>exact absurd hn (h.ne rfl x (by rw[hd];simp))
 |false=>
  have:=h.all;rw[hd]at this;simp only[Bool.false_eq_true,if_false,insE,if_pos hn]at this;rw[this,h.pre rfl,<-hd,List.take_append_drop]
theorem WRel.ins (h:WRel L e i false O)(hs:SrtE L)(hx:L[i]? =some x)(hn:x.nm≠e.nm)(hl:Op.bytesLess e.nm x.nm=true):WRel L e (i+1) true ((O++ [e])++ [x]):=by
 have hd:=po_ hx;refine⟨?_,fun h=>by simp at h,fun _ y hy=> ?_, ?_⟩
 . have:=h.all;rw[hd]at this;simp only[Bool.false_eq_true,if_false,insE,if_neg hn,if_pos hl]at this;rw[this];simp
 . have hsd:SrtE (L.drop i):=List.Pairwise.sublist (List.drop_sublist i L) hs;rw[hd]at hsd;have h1:=(List.pairwise_cons.1 hsd).1 y hy;intro e1;have h2:=ip_ _ _ _ hl h1;rw[e1,ht_]at h2;simp at h2
 . have:=h.pre rfl;have hi:=(List.getElem?_eq_some_iff.1 hx).1;have:O.length<=i:=by rw[this,List.length_take];omega
   simp;omega
theorem WRel.step (h:WRel L e i b O)(hx:L[i]? =some x)(hn:x.nm≠e.nm)(hl:b=true\/Op.bytesLess e.nm x.nm=false):WRel L e (i+1) b (O++ [x]):=by
 have hd:=po_ hx;have hi:=(List.getElem?_eq_some_iff.1 hx).1;refine⟨?_,fun hb=> ?_,fun hb y hy=>h.ne hb y (by rw[hd];simp[hy]), ?_⟩
 . have:=h.all;rw[hd]at this;cases b with
   |true=>simp only[if_true]at this ⊢;rw[this];simp
   |false=>
    have hl:Op.bytesLess e.nm x.nm=false:=by rcases hl with hl|hl<;>simp_all
    simp only[Bool.false_eq_true,if_false,insE,if_neg hn,hl]at this ⊢;rw[this];simp
 . rw[h.pre hb,List.take_add_one,hx];rfl
 . have:=h.len;simp;omega
theorem WRel.fin (h:WRel L e i b O)(hi:L.length<=i):insE L e=if b then O else O++ [e]:=by
 have:=h.all;rw[List.drop_of_length_le hi]at this;cases b<;>simpa [insE] using this
end
def m0_ (L:List Ex)(w:World)(r:Ending)(w':World):Prop:=∃eo ec no nc,r= .returned (.agg #[.slice eo L.length ec,.slice no L.length nc])/\RsAt w' eo ec no nc L/\Below w.heap.size w w'
theorem nx_ (a b:Ex):Op.bytesLess a.nb.toList b.nb.toList=Op.bytesLess a.nm b.nm:=by
 rw[ByteArray.toList_eq,ByteArray.toList_eq];simp[Ex.nb]
theorem acj_ (a b:Ex):(a.nb.toList==b.nb.toList)=decide (a.nm=b.nm):=by
 rw[ByteArray.toList_eq,ByteArray.toList_eq];simp only[Ex.nb];rw[Bool.eq_iff_iff];simp
theorem fg_.rs {W w:World}{b:Nat}{O:List Ex}(h:fg_ W b w O):∃eo ec no nc,w.heap[b]? =some (.cells #[.slice eo O.length ec,.slice no O.length nc] 146 (0,0))/\RsAt w eo ec no nc O/\Below b W w:=by
 obtain⟨v0,v1,gs,h,hE⟩:=h;obtain⟨eo,ec,rfl,_⟩:=af_ h.own0;obtain⟨no,nc,rfl,_⟩:=af_ h.own1;exact⟨eo,ec,no,nc,h.blk,⟨⟨gs,mz_ h.own0 o_,hE⟩,mz_ h.own1 o_⟩,h.blw⟩
theorem RsAt.set {w:World}{eo no:Option Addr}{ec nc:Nat}{L:List Ex}(h:RsAt w eo ec no nc L){b i:Nat}{x y u:Value}(hb:w.heap[b]? =some (.cells #[x,y] 146 (0,0))):RsAt (w.setCell ⟨b,i,none⟩ u) eo ec no nc L:=by
 obtain⟨⟨gs,h1,h2⟩,h3⟩:=h;have key:∀ {t n:Nat} {v:Value} {xs:List Value},t≠146->w.ownsRow 0 t 1 v n xs->(w.setCell ⟨b,i,none⟩ u).ownsRow 0 t 1 v n xs:=by
  intro t n v xs ht ho;refine⟨ho.1, ?_⟩;rcases ho.2 with e1|⟨g,cap,cur,e1,e2,e3,r⟩
  . exact .inl e1
  . refine .inr ⟨g,cap,cur,e1,e2,aj_ e3 ?_,r⟩;intro e;simp only at e;subst e;rw[hb]at e3;simp at e3;exact ht e3.2.symm
 exact⟨⟨gs,key d_ h1,h2.imp (fun _ _ hx=>td_ hb hx)⟩,key d_ h3⟩
theorem te_ (w:World)(eo no:Option Addr)(ec nc:Nat)(L:List Ex)(g:Nat)(e:Ex)(h:RsAt w eo ec no nc L)(he:ExAt w g e)(hs:SrtE L)(hl:L.length<=2^20)(hz:e.nm.length<=2^60):
 Calls prog 114 #[.agg #[.slice eo L.length ec,.slice no L.length nc],.pointer (some ⟨g,0,none⟩)] w (m0_ (insE L e) w):=by
 obtain⟨iE,hiE,hzE,hzE1,hzE2⟩:=info_parts iu_;obtain⟨iS,hiS,hzS,hzS1,hzS2⟩:=info_parts of_;obtain⟨n,HN⟩:=hx__ (L.length);rw[HN.out]at hl ⊢;obtain⟨W,hW,BW,b0,b1⟩:=n2__ w #[.slice eo n ec,.slice no n nc] 146 #[.slice none 0 0,.slice none 0 0] 146;have hs1:=ac_ b1;have HC:=acg_ e g W (he.below BW) hz;have HR:=hi__ h;have HE:=hi__ he;have HS:=hi__ hs;clear h he hs hz;go_enter func114,ntmps114;go_upto_region 1 with fail;rw[<-hW];clear hW;go_wp2_with fail;refine HC.mono ?_;clear HC;rintro r w3 ⟨rfl,hB3⟩;have hsz3:=hB3.size;obtain⟨W4,hW4,-,-,-⟩:=nw__ w3 #[.slice none 0 0,.slice none 0 0] 146;have B4:Below w.heap.size w W4:=by rw[hW4];exact(BW.trans (hB3.mono o_)).alloc o_ _
 have B4':Below W.heap.size W W4:=by rw[hW4];exact hB3.alloc o_ _
 have d0:=(B4'.block _ o_).trans b0;have d1:=(B4'.block _ hs1).trans b1;have d2:=hn__ hW4;have hs4:=ac_ d2;obtain⟨bo,HBO⟩:=hx__ (w3.heap.size);have hO:fg_ W4 bo W4 []:=by
  rw[<-HBO.out];exact⟨.slice none 0 0,.slice none 0 0,[],⟨br__,d2,on__,on__,fun g h=>by simp[Value.ownBlock]at h⟩,trivial⟩
 have HO0:=hi__ hO;rw[HBO.out]at hs4 hsz3;clear hO d2 b0 b1 hB3;go_upto_region 3 with fail;rw[<-hW4];rw[HBO.out];clear hW4;go_wp2_with fail;go_loopw [7,8] (fun b' i' wr=>∃(i:Nat) (b:Bool) (O:List Ex),i<=n/\b'= .bool b/\i'= .int .i64 (i:Int)/\Hid (fg_ W4 bo wr O)/\Hid (WRel L e i b O)) (fun _ i' _=>n - (intOf i').toNat)
 case atStart=>exact⟨0,false,[],o_,rfl,rfl,HO0,WRel.start L e⟩
 case round=>
  clear HO0;obtain⟨i,b,O,hi,rfl,rfl,HO,HRL⟩:=hrel;have hOl:O.length<=i+1:=HRL.out.len;have hBo:Below bo W4 wr:=by obtain⟨_,_,_,h,_⟩:=HO.out;exact h.blw
  have hbs:bo<wr.heap.size:=by obtain⟨_,_,_,h,_⟩:=HO.out;exact ac_ h.blk
  have BV:Below w.heap.size w wr:=B4.trans (hBo.mono o_);obtain⟨x0,x1,_,_⟩:=aa_ ((hBo.block _ o_).trans d0);by_cases hlt:i<n
  . have hlt2:(i:Int)<(n:Int):=o_;have hL:i<L.length:=by rw[HN.out];exact hlt
    obtain⟨x,hx⟩:∃x,L[i]? =some x:=⟨L[i],List.getElem?_eq_getElem hL⟩;obtain⟨na,rfl,hna,hcn⟩:=HR.out.name hx;obtain⟨ea,gx,rfl,hea,hcx,hEx⟩:=HR.out.exp hx;have cn:=(BV.cell (p:=⟨na,i,none⟩) hna).trans hcn;have cx:=(BV.cell (p:=⟨ea,i,none⟩) hea).trans hcx;have ss:=acj_ x e;have sl:=nx_ e x;by_cases hq:x.nm=e.nm
    . have q1:(x.nb.toList==e.nb.toList)=true:=by rw[ss];simp[hq]
      have HFIN:Hid (insE L e=L):=HRL.out.eq hx hq;have k1:=(hBo.block _ o_).trans d1;obtain⟨r0,r1,r2,r3⟩:=aa_ k1;obtain⟨s0,s1,s2,s3⟩:=aa_ (bg_ (u:= .slice (some ⟨ea,0,none⟩) n ec) k1);obtain⟨t0,t1,t2,t3⟩:=aa_ (c7_ (u:= .slice (some ⟨na,0,none⟩) n nc) (bg_ (u:= .slice (some ⟨ea,0,none⟩) n ec) k1));have HP:Hid (m0_ L w (.returned (.agg #[.slice (some ⟨ea,0,none⟩) n ec,.slice (some ⟨na,0,none⟩) n nc])) ((wr.setCell ⟨w.heap.size+1,0,none⟩ (.slice (some ⟨ea,0,none⟩) n ec)).setCell ⟨w.heap.size+1,1,none⟩ (.slice (some ⟨na,0,none⟩) n nc))):=by
       refine⟨some ⟨ea,0,none⟩,ec,some ⟨na,0,none⟩,nc,by rw[HN.out], ?_, ?_⟩
       . exact((HR.out.below BV).set k1).set (bg_ k1)
       . exact(BV.setCell (p:=⟨w.heap.size+1,0,none⟩) (Nat.le_succ _) _).setCell (p:=⟨w.heap.size+1,1,none⟩) (Nat.le_succ _) _
      clear ss sl hx hq HRL k1 hcn hcx hEx cx;go_wp2_with fail;refine bodyPost_ret (v:= .agg #[.slice (some ⟨ea,0,none⟩) n ec,.slice (some ⟨na,0,none⟩) n nc]) (by simp[results,results114,go_sem,t0,t1]) rfl ?_;unfold Hid at HFIN;rw[HFIN];exact HP.out
    . have q1:(x.nb.toList==e.nb.toList)=false:=by rw[ss];simp[hq]
      have HX:Hid (L[i]? =some x):=hx;have HQ:Hid (x.nm≠e.nm):=hq;cases hlb:Op.bytesLess e.nm x.nm
      . rw[hlb]at sl;have sg:Op.bytesLess x.nb.toList e.nb.toList=true:=by rw[nx_];exact ok_ _ _ hlb (fun e=>hq e.symm)
        have HNX:Hid (WRel L e (i+1) b (O++ [x])):=HRL.out.step hx hq (.inr hlb);clear ss hx hq HRL hlb;cases b
        . obtain⟨v0,v1,gs,hT0,hEs⟩:=HO.out;obtain⟨y0,y1,z0,z1⟩:=aa_ hT0.blk;have hbsz:=ac_ hT0.blk;have HT:Hid (bd_ W4 bo 146 104 1 9 1 (wr.alloc (.cells #[.pointer (some ⟨gx,0,none⟩)] 104)).drew v0 v1 O.length O.length (a3_ gs) (strs (O.map Ex.nb))):=hT0.below ba__.drew;have HEX:Hid (a1_ (wr.alloc (.cells #[.pointer (some ⟨gx,0,none⟩)] 104)).drew gs O):=hEs.below ba__.drew;have HK:Hid (ExAt (wr.alloc (.cells #[.pointer (some ⟨gx,0,none⟩)] 104)).drew gx x):=(hEx.below BV).below ba__.drew;have hna0:=HT.out.own0;clear hT0 hEs;go_upto_region 13 with fail;go_cut [] (fun wc=>dr_ W4 bo wc O x)
          case first=>
           go_region_law
            ((refine step_append_lies _ (by rfl) _ _ _ (by rfl) (bo+1) 104 iE (.pointer none) 1 8 underlying144 hiE hzE hzE1 hzE2 rfl d_ v0 O.length (a3_ gs) (by rfl) hna0 ⟨wr.heap.size,0,none⟩ 1 1 [.pointer (some ⟨gx,0,none⟩)] (by rfl) (by rfl) (cell_one_new _ _ _) (oc__ rfl) d_ u_ o_ s_ (wr.heap.size+1) i_ ?_;intro g' cap' w6 hown hgr hfr hlt6;obtain⟨f0,f1,f2,f3⟩:=aa_ (HT.out.grown0 hgr);have HF:Hid (dr_ W4 bo (w6.setCell ⟨bo,0,none⟩ (.slice (some ⟨g',0,none⟩) (O.length+1) cap')) O x):=ie_ HT.out HEX.out HK.out hown hgr (hfr.imp id (fun e=>by rw[e];simp));clear hown hgr hfr))
           all_goals go_wp2_with fail
           all_goals go_meet
           all_goals exact HF.out
          case rest=>
           have HH:Hid (dr_ W4 bo wc O x):=hcut;clear hcut HT HEX HK hna0 y0 y1 z0 z1 hbsz x0 x1;obtain⟨v0,v1,gs,hT0,hEs⟩:=HH.out;obtain⟨y0,y1,z0,z1⟩:=aa_ hT0.blk;obtain⟨x0,x1,_,_⟩:=aa_ ((hT0.blw.block _ o_).trans d0);have hbsz:=ac_ hT0.blk;have BV2:Below w.heap.size w wc:=B4.trans (hT0.blw.mono o_);have cn2:=(BV2.cell (p:=⟨na,i,none⟩) hna).trans hcn;have HT:Hid (bd_ W4 bo 146 104 1 9 1 (wc.alloc (.cells #[.string x.nb] 9)).drew v0 v1 (O.length+1) O.length (a3_ gs) (strs (O.map Ex.nb))):=hT0.below ba__.drew;have HEX:Hid (a1_ (wc.alloc (.cells #[.string x.nb] 9)).drew gs (O++ [x])):=hEs.below ba__.drew;have hna1:=HT.out.own1;clear hT0 hEs;go_upto_region 14 with fail;go_region_law
            ((refine step_append_lies _ (by rfl) _ _ _ (by rfl) (bo+1) 9 iS (.string ByteArray.empty) 1 16 underlying56 hiS hzS hzS1 hzS2 rfl d_ v1 O.length (strs (O.map Ex.nb)) (by rfl) hna1 ⟨wc.heap.size,0,none⟩ 1 1 [.string x.nb] (by rfl) (by rfl) (cell_one_new _ _ _) (oc__ rfl) d_ u_ o_ s_ (wc.heap.size+1) i_ ?_;intro g' cap' w6 hown hgr hfr hlt6;obtain⟨f0,f1,f2,f3⟩:=aa_ (HT.out.grown1 hgr);have HF:Hid (fg_ W4 bo (w6.setCell ⟨bo,1,none⟩ (.slice (some ⟨g',0,none⟩) (O.length+1) cap')) (O++ [x])):=ka_ HT.out HEX.out hown hgr (hfr.imp id (fun e=>by rw[e];simp));clear hown hgr hfr))
           all_goals go_wp2_with fail
           all_goals
            go_roundw
            case rel=>exact⟨i+1,false,(O++ [x]),o_,rfl,by go_num,HF,HNX⟩
            case measure=>simp[intOf];omega
        . skip;obtain⟨v0,v1,gs,hT0,hEs⟩:=HO.out;obtain⟨y0,y1,z0,z1⟩:=aa_ hT0.blk;have hbsz:=ac_ hT0.blk;have HT:Hid (bd_ W4 bo 146 104 1 9 1 (wr.alloc (.cells #[.pointer (some ⟨gx,0,none⟩)] 104)).drew v0 v1 O.length O.length (a3_ gs) (strs (O.map Ex.nb))):=hT0.below ba__.drew;have HEX:Hid (a1_ (wr.alloc (.cells #[.pointer (some ⟨gx,0,none⟩)] 104)).drew gs O):=hEs.below ba__.drew;have HK:Hid (ExAt (wr.alloc (.cells #[.pointer (some ⟨gx,0,none⟩)] 104)).drew gx x):=(hEx.below BV).below ba__.drew;have hna0:=HT.out.own0;clear hT0 hEs;go_upto_region 13 with fail;go_cut [] (fun wc=>dr_ W4 bo wc O x)
          case first=>
           go_region_law
            ((refine step_append_lies _ (by rfl) _ _ _ (by rfl) (bo+1) 104 iE (.pointer none) 1 8 underlying144 hiE hzE hzE1 hzE2 rfl d_ v0 O.length (a3_ gs) (by rfl) hna0 ⟨wr.heap.size,0,none⟩ 1 1 [.pointer (some ⟨gx,0,none⟩)] (by rfl) (by rfl) (cell_one_new _ _ _) (oc__ rfl) d_ u_ o_ s_ (wr.heap.size+1) i_ ?_;intro g' cap' w6 hown hgr hfr hlt6;obtain⟨f0,f1,f2,f3⟩:=aa_ (HT.out.grown0 hgr);have HF:Hid (dr_ W4 bo (w6.setCell ⟨bo,0,none⟩ (.slice (some ⟨g',0,none⟩) (O.length+1) cap')) O x):=ie_ HT.out HEX.out HK.out hown hgr (hfr.imp id (fun e=>by rw[e];simp));clear hown hgr hfr))
           all_goals go_wp2_with fail
           all_goals go_meet
           all_goals exact HF.out
          case rest=>
           have HH:Hid (dr_ W4 bo wc O x):=hcut;clear hcut HT HEX HK hna0 y0 y1 z0 z1 hbsz x0 x1;obtain⟨v0,v1,gs,hT0,hEs⟩:=HH.out;obtain⟨y0,y1,z0,z1⟩:=aa_ hT0.blk;obtain⟨x0,x1,_,_⟩:=aa_ ((hT0.blw.block _ o_).trans d0);have hbsz:=ac_ hT0.blk;have BV2:Below w.heap.size w wc:=B4.trans (hT0.blw.mono o_);have cn2:=(BV2.cell (p:=⟨na,i,none⟩) hna).trans hcn;have HT:Hid (bd_ W4 bo 146 104 1 9 1 (wc.alloc (.cells #[.string x.nb] 9)).drew v0 v1 (O.length+1) O.length (a3_ gs) (strs (O.map Ex.nb))):=hT0.below ba__.drew;have HEX:Hid (a1_ (wc.alloc (.cells #[.string x.nb] 9)).drew gs (O++ [x])):=hEs.below ba__.drew;have hna1:=HT.out.own1;clear hT0 hEs;go_upto_region 14 with fail;go_region_law
            ((refine step_append_lies _ (by rfl) _ _ _ (by rfl) (bo+1) 9 iS (.string ByteArray.empty) 1 16 underlying56 hiS hzS hzS1 hzS2 rfl d_ v1 O.length (strs (O.map Ex.nb)) (by rfl) hna1 ⟨wc.heap.size,0,none⟩ 1 1 [.string x.nb] (by rfl) (by rfl) (cell_one_new _ _ _) (oc__ rfl) d_ u_ o_ s_ (wc.heap.size+1) i_ ?_;intro g' cap' w6 hown hgr hfr hlt6;obtain⟨f0,f1,f2,f3⟩:=aa_ (HT.out.grown1 hgr);have HF:Hid (fg_ W4 bo (w6.setCell ⟨bo,1,none⟩ (.slice (some ⟨g',0,none⟩) (O.length+1) cap')) (O++ [x])):=ka_ HT.out HEX.out hown hgr (hfr.imp id (fun e=>by rw[e];simp));clear hown hgr hfr))
           all_goals go_wp2_with fail
           all_goals
            go_roundw
            case rel=>exact⟨i+1,true,(O++ [x]),o_,rfl,by go_num,HF,HNX⟩
            case measure=>simp[intOf];omega
      . rw[hlb]at sl;have sg:Op.bytesLess x.nb.toList e.nb.toList=false:=by rw[nx_];exact no_ hlb
        cases b
        . have HNX:Hid (WRel L e (i+1) true ((O++ [e])++ [x])):=HRL.out.ins HS.out hx hq hlb;clear ss hx hq HRL hlb;obtain⟨v0,v1,gs,hT0,hEs⟩:=HO.out;obtain⟨y0,y1,z0,z1⟩:=aa_ hT0.blk;have hbsz:=ac_ hT0.blk;have HT:Hid (bd_ W4 bo 146 104 1 9 1 (wr.alloc (.cells #[.pointer (some ⟨g,0,none⟩)] 104)) v0 v1 O.length O.length (a3_ gs) (strs (O.map Ex.nb))):=hT0.below ba__;have HEX:Hid (a1_ (wr.alloc (.cells #[.pointer (some ⟨g,0,none⟩)] 104)) gs O):=hEs.below ba__;have HK:Hid (ExAt (wr.alloc (.cells #[.pointer (some ⟨g,0,none⟩)] 104)) g e):=(HE.out.below BV).below ba__;have hna0:=HT.out.own0;clear hT0 hEs;go_upto_region 10 with fail;go_cut [] (fun wc=>dr_ W4 bo wc O e)
          case first=>
           go_wp2_with (at_builtin;refine ae_ _ rfl _ _ 144 rfl (bo+1) 104 iE (.pointer none) 1 8 underlying144 hiE hzE hzE1 hzE2 rfl d_ v0 O.length (a3_ gs) rfl hna0 ⟨wr.heap.size,0,none⟩ 1 1 [.pointer (some ⟨g,0,none⟩)] rfl rfl (cell_one_new _ _ _) (oc__ rfl) d_ u_ o_ s_ ?_;intro g' cap' w6 hown hgr hfr;obtain⟨f0,f1,f2,f3⟩:=aa_ (HT.out.grown0 hgr);have HF:Hid (dr_ W4 bo (w6.setCell ⟨bo,0,none⟩ (.slice (some ⟨g',0,none⟩) (O.length+1) cap')) O e):=ie_ HT.out HEX.out HK.out hown hgr (hfr.imp id (fun e=>by rw[e]));clear hown hgr hfr)
           all_goals go_meet
           all_goals exact HF.out
          case rest=>
           have HH:Hid (dr_ W4 bo wc O e):=hcut;clear hcut HT HEX HK hna0 y0 y1 z0 z1 hbsz x0 x1;obtain⟨v0,v1,gs,hT0,hEs⟩:=HH.out;obtain⟨y0,y1,z0,z1⟩:=aa_ hT0.blk;obtain⟨x0,x1,_,_⟩:=aa_ ((hT0.blw.block _ o_).trans d0);have hbsz:=ac_ hT0.blk;have BV2:Below w.heap.size w wc:=B4.trans (hT0.blw.mono o_);skip;have HT:Hid (bd_ W4 bo 146 104 1 9 1 (wc.alloc (.cells #[.string e.nb] 9)) v0 v1 (O.length+1) O.length (a3_ gs) (strs (O.map Ex.nb))):=hT0.below ba__;have HEX:Hid (a1_ (wc.alloc (.cells #[.string e.nb] 9)) gs (O++ [e])):=hEs.below ba__;have hna1:=HT.out.own1;clear hT0 hEs;go_upto_region 11 with fail;go_cut [] (fun wc=>fg_ W4 bo wc (O++ [e]))
           case first=>
            go_wp2_with (at_builtin;refine ae_ _ rfl _ _ 56 rfl (bo+1) 9 iS (.string ByteArray.empty) 1 16 underlying56 hiS hzS hzS1 hzS2 rfl d_ v1 O.length (strs (O.map Ex.nb)) rfl hna1 ⟨wc.heap.size,0,none⟩ 1 1 [.string e.nb] rfl rfl (cell_one_new _ _ _) (oc__ rfl) d_ u_ o_ s_ ?_;intro g' cap' w6 hown hgr hfr;obtain⟨f0,f1,f2,f3⟩:=aa_ (HT.out.grown1 hgr);have HF:Hid (fg_ W4 bo (w6.setCell ⟨bo,1,none⟩ (.slice (some ⟨g',0,none⟩) (O.length+1) cap')) (O++ [e])):=ka_ HT.out HEX.out hown hgr (hfr.imp id (fun e=>by rw[e]));clear hown hgr hfr)
            all_goals go_meet
            all_goals exact HF.out
           case rest=>
            have HOB:Hid (fg_ W4 bo wc (O++ [e])):=hcut;clear hcut HT HEX hna1 y0 y1 z0 z1 hbsz x0 x1 HH BV2;have hlen2:(O++ [e]).length<=i+2:=s_;obtain⟨O2,HO2E⟩:=hx__ (O++ [e]);rw[HO2E.out]at HOB HNX hlen2;obtain⟨x0,x1,_,_⟩:wc.cell? ⟨w.heap.size,0,none⟩=some (.slice (some ⟨ea,0,none⟩) n ec)/\wc.cell? ⟨w.heap.size,1,none⟩=some (.slice (some ⟨na,0,none⟩) n nc)/\True/\True:=by
             obtain⟨_,_,_,h,_⟩:=HOB.out;obtain⟨x0,x1,_,_⟩:=aa_ ((h.blw.block _ o_).trans d0);exact⟨x0,x1,trivial,trivial⟩
            have BVC:Below w.heap.size w wc:=by
             obtain⟨_,_,_,h,_⟩:=HOB.out;exact B4.trans (h.blw.mono o_)
            have cx:=(BVC.cell (p:=⟨ea,i,none⟩) hea).trans hcx;obtain⟨v0,v1,gs,hT0,hEs⟩:=HOB.out;obtain⟨y0,y1,z0,z1⟩:=aa_ hT0.blk;have hbsz:=ac_ hT0.blk;have HT:Hid (bd_ W4 bo 146 104 1 9 1 (wc.alloc (.cells #[.pointer (some ⟨gx,0,none⟩)] 104)).drew v0 v1 O2.length O2.length (a3_ gs) (strs (O2.map Ex.nb))):=hT0.below ba__.drew;have HEX:Hid (a1_ (wc.alloc (.cells #[.pointer (some ⟨gx,0,none⟩)] 104)).drew gs O2):=hEs.below ba__.drew;have HK:Hid (ExAt (wc.alloc (.cells #[.pointer (some ⟨gx,0,none⟩)] 104)).drew gx x):=(hEx.below BVC).below ba__.drew;have hna0:=HT.out.own0;clear hT0 hEs;go_upto_region 13 with fail;go_cut [] (fun wc=>dr_ W4 bo wc O2 x)
            case first=>
             go_region_law
              ((refine step_append_lies _ (by rfl) _ _ _ (by rfl) (bo+1) 104 iE (.pointer none) 1 8 underlying144 hiE hzE hzE1 hzE2 rfl d_ v0 O2.length (a3_ gs) (by rfl) hna0 ⟨wc.heap.size,0,none⟩ 1 1 [.pointer (some ⟨gx,0,none⟩)] (by rfl) (by rfl) (cell_one_new _ _ _) (oc__ rfl) d_ u_ o_ s_ (wc.heap.size+1) i_ ?_;intro g' cap' w6 hown hgr hfr hlt6;obtain⟨f0,f1,f2,f3⟩:=aa_ (HT.out.grown0 hgr);have HF:Hid (dr_ W4 bo (w6.setCell ⟨bo,0,none⟩ (.slice (some ⟨g',0,none⟩) (O2.length+1) cap')) O2 x):=ie_ HT.out HEX.out HK.out hown hgr (hfr.imp id (fun e=>by rw[e];simp));clear hown hgr hfr))
             all_goals go_wp2_with fail
             all_goals go_meet
             all_goals exact HF.out
            case rest=>
             have HH:Hid (dr_ W4 bo wc O2 x):=hcut;clear hcut HT HEX HK hna0 y0 y1 z0 z1 hbsz x0 x1;obtain⟨v0,v1,gs,hT0,hEs⟩:=HH.out;obtain⟨y0,y1,z0,z1⟩:=aa_ hT0.blk;obtain⟨x0,x1,_,_⟩:=aa_ ((hT0.blw.block _ o_).trans d0);have hbsz:=ac_ hT0.blk;have BV2:Below w.heap.size w wc:=B4.trans (hT0.blw.mono o_);have cn2:=(BV2.cell (p:=⟨na,i,none⟩) hna).trans hcn;have HT:Hid (bd_ W4 bo 146 104 1 9 1 (wc.alloc (.cells #[.string x.nb] 9)).drew v0 v1 (O2.length+1) O2.length (a3_ gs) (strs (O2.map Ex.nb))):=hT0.below ba__.drew;have HEX:Hid (a1_ (wc.alloc (.cells #[.string x.nb] 9)).drew gs (O2++ [x])):=hEs.below ba__.drew;have hna1:=HT.out.own1;clear hT0 hEs;go_upto_region 14 with fail;go_region_law
              ((refine step_append_lies _ (by rfl) _ _ _ (by rfl) (bo+1) 9 iS (.string ByteArray.empty) 1 16 underlying56 hiS hzS hzS1 hzS2 rfl d_ v1 O2.length (strs (O2.map Ex.nb)) (by rfl) hna1 ⟨wc.heap.size,0,none⟩ 1 1 [.string x.nb] (by rfl) (by rfl) (cell_one_new _ _ _) (oc__ rfl) d_ u_ o_ s_ (wc.heap.size+1) i_ ?_;intro g' cap' w6 hown hgr hfr hlt6;obtain⟨f0,f1,f2,f3⟩:=aa_ (HT.out.grown1 hgr);have HF:Hid (fg_ W4 bo (w6.setCell ⟨bo,1,none⟩ (.slice (some ⟨g',0,none⟩) (O2.length+1) cap')) (O2++ [x])):=ka_ HT.out HEX.out hown hgr (hfr.imp id (fun e=>by rw[e];simp));clear hown hgr hfr))
             all_goals go_wp2_with fail
             all_goals
              go_roundw
              case rel=>exact⟨i+1,true,(O2++ [x]),o_,rfl,by go_num,HF,HNX⟩
              case measure=>simp[intOf];omega
        . have HNX:Hid (WRel L e (i+1) true (O++ [x])):=HRL.out.step hx hq (.inl rfl);clear ss hx hq HRL hlb;obtain⟨v0,v1,gs,hT0,hEs⟩:=HO.out;obtain⟨y0,y1,z0,z1⟩:=aa_ hT0.blk;have hbsz:=ac_ hT0.blk;have HT:Hid (bd_ W4 bo 146 104 1 9 1 (wr.alloc (.cells #[.pointer (some ⟨gx,0,none⟩)] 104)).drew v0 v1 O.length O.length (a3_ gs) (strs (O.map Ex.nb))):=hT0.below ba__.drew;have HEX:Hid (a1_ (wr.alloc (.cells #[.pointer (some ⟨gx,0,none⟩)] 104)).drew gs O):=hEs.below ba__.drew;have HK:Hid (ExAt (wr.alloc (.cells #[.pointer (some ⟨gx,0,none⟩)] 104)).drew gx x):=(hEx.below BV).below ba__.drew;have hna0:=HT.out.own0;clear hT0 hEs;go_upto_region 13 with fail;go_cut [] (fun wc=>dr_ W4 bo wc O x)
          case first=>
           go_region_law
            ((refine step_append_lies _ (by rfl) _ _ _ (by rfl) (bo+1) 104 iE (.pointer none) 1 8 underlying144 hiE hzE hzE1 hzE2 rfl d_ v0 O.length (a3_ gs) (by rfl) hna0 ⟨wr.heap.size,0,none⟩ 1 1 [.pointer (some ⟨gx,0,none⟩)] (by rfl) (by rfl) (cell_one_new _ _ _) (oc__ rfl) d_ u_ o_ s_ (wr.heap.size+1) i_ ?_;intro g' cap' w6 hown hgr hfr hlt6;obtain⟨f0,f1,f2,f3⟩:=aa_ (HT.out.grown0 hgr);have HF:Hid (dr_ W4 bo (w6.setCell ⟨bo,0,none⟩ (.slice (some ⟨g',0,none⟩) (O.length+1) cap')) O x):=ie_ HT.out HEX.out HK.out hown hgr (hfr.imp id (fun e=>by rw[e];simp));clear hown hgr hfr))
           all_goals go_wp2_with fail
           all_goals go_meet
           all_goals exact HF.out
          case rest=>
           have HH:Hid (dr_ W4 bo wc O x):=hcut;clear hcut HT HEX HK hna0 y0 y1 z0 z1 hbsz x0 x1;obtain⟨v0,v1,gs,hT0,hEs⟩:=HH.out;obtain⟨y0,y1,z0,z1⟩:=aa_ hT0.blk;obtain⟨x0,x1,_,_⟩:=aa_ ((hT0.blw.block _ o_).trans d0);have hbsz:=ac_ hT0.blk;have BV2:Below w.heap.size w wc:=B4.trans (hT0.blw.mono o_);have cn2:=(BV2.cell (p:=⟨na,i,none⟩) hna).trans hcn;have HT:Hid (bd_ W4 bo 146 104 1 9 1 (wc.alloc (.cells #[.string x.nb] 9)).drew v0 v1 (O.length+1) O.length (a3_ gs) (strs (O.map Ex.nb))):=hT0.below ba__.drew;have HEX:Hid (a1_ (wc.alloc (.cells #[.string x.nb] 9)).drew gs (O++ [x])):=hEs.below ba__.drew;have hna1:=HT.out.own1;clear hT0 hEs;go_upto_region 14 with fail;go_region_law
            ((refine step_append_lies _ (by rfl) _ _ _ (by rfl) (bo+1) 9 iS (.string ByteArray.empty) 1 16 underlying56 hiS hzS hzS1 hzS2 rfl d_ v1 O.length (strs (O.map Ex.nb)) (by rfl) hna1 ⟨wc.heap.size,0,none⟩ 1 1 [.string x.nb] (by rfl) (by rfl) (cell_one_new _ _ _) (oc__ rfl) d_ u_ o_ s_ (wc.heap.size+1) i_ ?_;intro g' cap' w6 hown hgr hfr hlt6;obtain⟨f0,f1,f2,f3⟩:=aa_ (HT.out.grown1 hgr);have HF:Hid (fg_ W4 bo (w6.setCell ⟨bo,1,none⟩ (.slice (some ⟨g',0,none⟩) (O.length+1) cap')) (O++ [x])):=ka_ HT.out HEX.out hown hgr (hfr.imp id (fun e=>by rw[e];simp));clear hown hgr hfr))
           all_goals go_wp2_with fail
           all_goals
            go_roundw
            case rel=>exact⟨i+1,true,(O++ [x]),o_,rfl,by go_num,HF,HNX⟩
            case measure=>simp[intOf];omega
  . have hlt2:¬(i:Int)<(n:Int):=o_;have HFN:Hid (insE L e=if b then O else O++ [e]):=HRL.out.fin (by rw[HN.out];omega);clear HRL;cases b
    . have HFIN:Hid (insE L e=O++ [e]):=HFN;clear HFN;obtain⟨v0,v1,gs,hT0,hEs⟩:=HO.out;obtain⟨y0,y1,z0,z1⟩:=aa_ hT0.blk;have hbsz:=ac_ hT0.blk;have HT:Hid (bd_ W4 bo 146 104 1 9 1 (wr.alloc (.cells #[.pointer (some ⟨g,0,none⟩)] 104)) v0 v1 O.length O.length (a3_ gs) (strs (O.map Ex.nb))):=hT0.below ba__;have HEX:Hid (a1_ (wr.alloc (.cells #[.pointer (some ⟨g,0,none⟩)] 104)) gs O):=hEs.below ba__;have HK:Hid (ExAt (wr.alloc (.cells #[.pointer (some ⟨g,0,none⟩)] 104)) g e):=(HE.out.below BV).below ba__;have hna0:=HT.out.own0;clear hT0 hEs;go_upto_region 16 with fail;go_cut [] (fun wc=>dr_ W4 bo wc O e)
      case first=>
       go_wp2_with (at_builtin;refine ae_ _ rfl _ _ 144 rfl (bo+1) 104 iE (.pointer none) 1 8 underlying144 hiE hzE hzE1 hzE2 rfl d_ v0 O.length (a3_ gs) rfl hna0 ⟨wr.heap.size,0,none⟩ 1 1 [.pointer (some ⟨g,0,none⟩)] rfl rfl (cell_one_new _ _ _) (oc__ rfl) d_ u_ o_ s_ ?_;intro g' cap' w6 hown hgr hfr;obtain⟨f0,f1,f2,f3⟩:=aa_ (HT.out.grown0 hgr);have HF:Hid (dr_ W4 bo (w6.setCell ⟨bo,0,none⟩ (.slice (some ⟨g',0,none⟩) (O.length+1) cap')) O e):=ie_ HT.out HEX.out HK.out hown hgr (hfr.imp id (fun e=>by rw[e]));clear hown hgr hfr)
       all_goals go_meet
       all_goals exact HF.out
      case rest=>
       have HH:Hid (dr_ W4 bo wc O e):=hcut;clear hcut HT HEX HK hna0 y0 y1 z0 z1 hbsz x0 x1;obtain⟨v0,v1,gs,hT0,hEs⟩:=HH.out;obtain⟨y0,y1,z0,z1⟩:=aa_ hT0.blk;obtain⟨x0,x1,_,_⟩:=aa_ ((hT0.blw.block _ o_).trans d0);have hbsz:=ac_ hT0.blk;have BV2:Below w.heap.size w wc:=B4.trans (hT0.blw.mono o_);skip;have HT:Hid (bd_ W4 bo 146 104 1 9 1 (wc.alloc (.cells #[.string e.nb] 9)) v0 v1 (O.length+1) O.length (a3_ gs) (strs (O.map Ex.nb))):=hT0.below ba__;have HEX:Hid (a1_ (wc.alloc (.cells #[.string e.nb] 9)) gs (O++ [e])):=hEs.below ba__;have hna1:=HT.out.own1;clear hT0 hEs;go_upto_region 17 with fail;go_cut [] (fun wc=>fg_ W4 bo wc (O++ [e]))
       case first=>
        go_wp2_with (at_builtin;refine ae_ _ rfl _ _ 56 rfl (bo+1) 9 iS (.string ByteArray.empty) 1 16 underlying56 hiS hzS hzS1 hzS2 rfl d_ v1 O.length (strs (O.map Ex.nb)) rfl hna1 ⟨wc.heap.size,0,none⟩ 1 1 [.string e.nb] rfl rfl (cell_one_new _ _ _) (oc__ rfl) d_ u_ o_ s_ ?_;intro g' cap' w6 hown hgr hfr;obtain⟨f0,f1,f2,f3⟩:=aa_ (HT.out.grown1 hgr);have HF:Hid (fg_ W4 bo (w6.setCell ⟨bo,1,none⟩ (.slice (some ⟨g',0,none⟩) (O.length+1) cap')) (O++ [e])):=ka_ HT.out HEX.out hown hgr (hfr.imp id (fun e=>by rw[e]));clear hown hgr hfr)
        all_goals go_meet
        all_goals exact HF.out
       case rest=>
        have HOB:Hid (fg_ W4 bo wc (O++ [e])):=hcut;clear hcut HT HEX hna1 y0 y1 z0 z1 hbsz x0 x1 HH BV2;obtain⟨eo',ec',no',nc',hblk,hRs,hblw⟩:=HOB.out.rs;have BVE:Below w.heap.size w wc:=B4.trans (hblw.mono o_);obtain⟨y0,y1,z0,z1⟩:=aa_ hblk;have k1:=(hblw.block _ o_).trans d1;obtain⟨r0,r1,r2,r3⟩:=aa_ k1;obtain⟨lq,HLQ⟩:=hx__ (((O++ [e])).length);rw[HLQ.out]at y0 y1;obtain⟨s0,s1,s2,s3⟩:=aa_ (bg_ (u:= .slice eo' lq ec') k1);obtain⟨t0,t1,t2,t3⟩:=aa_ (c7_ (u:= .slice no' lq nc') (bg_ (u:= .slice eo' lq ec') k1));have HP:Hid (m0_ ((O++ [e])) w (.returned (.agg #[.slice eo' lq ec',.slice no' lq nc'])) ((wc.setCell ⟨w.heap.size+1,0,none⟩ (.slice eo' lq ec')).setCell ⟨w.heap.size+1,1,none⟩ (.slice no' lq nc'))):=by
         refine⟨eo',ec',no',nc',by rw[HLQ.out], ?_, ?_⟩
         . exact(hRs.set k1).set (bg_ k1)
         . exact(BVE.setCell (p:=⟨w.heap.size+1,0,none⟩) (Nat.le_succ _) _).setCell (p:=⟨w.heap.size+1,1,none⟩) (Nat.le_succ _) _
        clear hRs hblk k1 HLQ hblw;go_wp2_with fail;refine bodyPost_ret (v:= .agg #[.slice eo' lq ec',.slice no' lq nc']) (by simp[results,results114,go_sem,t0,t1]) rfl ?_;unfold Hid at HFIN;rw[HFIN];exact HP.out
    . have HFIN:Hid (insE L e=O):=HFN;clear HFN;obtain⟨eo',ec',no',nc',hblk,hRs,hblw⟩:=HO.out.rs;have BVE:Below w.heap.size w wr:=B4.trans (hblw.mono o_);obtain⟨y0,y1,z0,z1⟩:=aa_ hblk;have k1:=(hblw.block _ o_).trans d1;obtain⟨r0,r1,r2,r3⟩:=aa_ k1;obtain⟨lq,HLQ⟩:=hx__ ((O).length);rw[HLQ.out]at y0 y1;obtain⟨s0,s1,s2,s3⟩:=aa_ (bg_ (u:= .slice eo' lq ec') k1);obtain⟨t0,t1,t2,t3⟩:=aa_ (c7_ (u:= .slice no' lq nc') (bg_ (u:= .slice eo' lq ec') k1));have HP:Hid (m0_ (O) w (.returned (.agg #[.slice eo' lq ec',.slice no' lq nc'])) ((wr.setCell ⟨w.heap.size+1,0,none⟩ (.slice eo' lq ec')).setCell ⟨w.heap.size+1,1,none⟩ (.slice no' lq nc'))):=by
       refine⟨eo',ec',no',nc',by rw[HLQ.out], ?_, ?_⟩
       . exact(hRs.set k1).set (bg_ k1)
       . exact(BVE.setCell (p:=⟨w.heap.size+1,0,none⟩) (Nat.le_succ _) _).setCell (p:=⟨w.heap.size+1,1,none⟩) (Nat.le_succ _) _
      clear hRs hblk k1 HLQ hblw;go_wp2_with fail;refine bodyPost_ret (v:= .agg #[.slice eo' lq ec',.slice no' lq nc']) (by simp[results,results114,go_sem,t0,t1]) rfl ?_;unfold Hid at HFIN;rw[HFIN];exact HP.out
def fh_ (W:World)(b:Nat)(w:World)(L:List Ex):Prop:=∃eo ec no nc,w.heap[b]? =some (.cells #[.slice eo L.length ec,.slice no L.length nc] 146 (0,0))/\RsAt w eo ec no nc L/\Below b W w
theorem fh_.below {W w w':World}{b:Nat}{L:List Ex}(h:fh_ W b w L)(hb:Below w.heap.size w w'):fh_ W b w' L:=by
 obtain⟨eo,ec,no,nc,h1,h2,h3⟩:=h;exact⟨eo,ec,no,nc,(hb.block _ (ac_ h1)).trans h1,h2.below hb,h3.trans (hb.mono (by have:=ac_ h1;omega))⟩
theorem fh_.lt {W w:World}{b:Nat}{L:List Ex}(h:fh_ W b w L):b<w.heap.size:=by obtain⟨_,_,_,_,h,_⟩:=h;exact ac_ h
theorem fh_.blw {W w:World}{b:Nat}{L:List Ex}(h:fh_ W b w L):Below b W w:=by obtain⟨_,_,_,_,_,_,h⟩:=h;exact h
theorem fh_.put {W w:World}{b n ec nc:Nat}{eo no:Option Addr}{x y:Value}{L:List Ex}(hw:w.heap[b]? =some (.cells #[x,y] 146 (0,0)))(hB:Below b W w)(h:RsAt w eo ec no nc L)(hn:L.length=n):
 fh_ W b ((w.setCell ⟨b,0,none⟩ (.slice eo n ec)).setCell ⟨b,1,none⟩ (.slice no n nc)) L:=by
 subst hn;exact⟨eo,ec,no,nc,c7_ (bg_ hw),(h.set hw).set (bg_ hw),(hB.setCell (p:=⟨b,0,none⟩) lr__ _).setCell (p:=⟨b,1,none⟩) lr__ _⟩
theorem ack_ {w w':World}{b:Nat}{cs:Array Value}(hT:ab_ (fun k=>k=b) w w')(hb:w.heap[b]? =some (.cells cs 146 (0,0))){g:Nat}{e:Ex}(h:ExAt w g e):ExAt w' g e:=by
 have key:∀(k:Nat) (cs:Array Value),w.heap[k]? =some (.cells cs 199 (0,0))->w'.heap[k]? =some (.cells cs 199 (0,0)):=by
  intro k cs hk;refine hT.heap hk ?_;intro e;have e':k=b:=e;subst e';rw[hb]at hk;simp at hk
 induction e generalizing g with
 |nil=>exact key _ _ h
 |one S=>exact key _ _ h
 |thn a b iha ihb=>obtain⟨ga,gb,h1,h2,h3⟩:=h;exact⟨ga,gb,key _ _ h1,iha h2,ihb h3⟩
 |alt a b iha ihb=>obtain⟨ga,gb,h1,h2,h3⟩:=h;exact⟨ga,gb,key _ _ h1,iha h2,ihb h3⟩
 |star a iha=>obtain⟨ga,h1,h2⟩:=h;exact⟨ga,key _ _ h1,iha h2⟩
theorem qt_ {w w':World}{b i:Nat}{u:Value}(h:ab_ (fun k=>k=b) w w'):ab_ (fun k=>k=b) w (w'.setCell ⟨b,i,none⟩ u):=
 ⟨h.os,h.tape,h.output,by simpa using h.size,fun k hk hn=>by rw[Below.heap_setCell w' ⟨b,i,none⟩ u k hn];exact h.block k hk hn⟩
structure MRel (L:List Ex)(c i:Nat)(M:List Ex):Prop where
 eq:M=(L.take i).foldl (fun out e=>insL out (e.behind c)) []
 srt:SrtE M
 can:∀x∈M,x.can
 len:M.length<=i*20000
structure KRel (M B:List Ex)(l k:Nat)(M':List Ex):Prop where
 eq:M'=insL M (B.take k)
 srt:SrtE M'
 can:∀x∈M',x.can
 len:M'.length<=l+k
theorem MRel.start (L:List Ex)(c:Nat):MRel L c 0 []:=⟨rfl,List.Pairwise.nil,i_,i_⟩
theorem MRel.k {L M:List Ex}{c i:Nat}(h:MRel L c i M)(B:List Ex):KRel M B (i*20000) 0 M:=by
 refine⟨by simp[insL],h.srt,h.can, ?_⟩;have:=h.len;rw[Nat.add_zero];exact this
theorem KRel.step {M B M':List Ex}{l k:Nat}{d:Ex}(h:KRel M B l k M')(hd:B[k]? =some d)(hc:d.can):KRel M B l (k+1) (insE M' d):=by
 refine⟨?_,r5_ hc h.can h.srt,fun x hx=> ?_, ?_⟩
 . rw[List.take_add_one,hd];unfold insL;rw[List.foldl_append];have:=h.eq;unfold insL at this;rw[<-this];rfl
 . rcases (ku_ hc h.can).1 hx with rfl|hx
   . exact hc
   . exact h.can x hx
 . have:=r7_ M' d;have:=h.len;omega
theorem KRel.fin {L M M':List Ex}{c i:Nat}{x:Ex}(h:KRel M (x.behind c) (i*20000) (x.behind c).length M')(hM:MRel L c i M)(hx:L[i]? =some x)(hl:(x.behind c).length<=20000):MRel L c (i+1) M':=by
 refine⟨?_,h.srt,h.can,by have:=h.len;omega⟩;rw[List.take_add_one,hx,List.foldl_append,<-hM.eq,h.eq,List.take_of_length_le lr__];rfl
theorem acl_ (w:World)(eo no:Option Addr)(ec nc c:Nat)(L:List Ex)(h:RsAt w eo ec no nc L)(hc:c<8)(hl:L.length<=16)(hlet:∀x∈L,x.letters<=20000)(hcan:∀x∈L,∀d∈x.behind c,d.can/\d.nm.length<=2^60):
 Calls prog 116 #[.agg #[.slice eo L.length ec,.slice no L.length nc],.int .i64 (c:Int)] w (m0_ (fd_ L c) w):=by
 obtain⟨n,HN⟩:=hx__ (L.length);rw[HN.out]at hl ⊢;obtain⟨W,hW,BW,d0,d1,d2⟩:=n3__ w #[.slice eo n ec,.slice no n nc] 146 #[.slice none 0 0,.slice none 0 0] 146 #[.slice none 0 0,.slice none 0 0] 146;have HC0:Hid (fh_ W (w.heap.size+1+1) W []):=⟨none,0,none,0,d2,RsAt.nil W,br__⟩;have HR:=hi__ h;have HLET:=hi__ hlet;have HCAN:=hi__ hcan;clear h hlet hcan d2;go_enter func116,ntmps116;go_upto_region 2 with fail;rw[<-hW];clear hW;obtain⟨bo,hbo⟩:∃x,w.heap.size+1+1=x:=⟨_,rfl⟩;rw[hbo]at HC0 ⊢;have HBO:Hid (w.heap.size+1+1=bo):=hbo;have hbo1:w.heap.size+1<bo:=o_;clear hbo;go_wp2_with fail;go_loopw [6,7,8] (fun i' _ _ wr=>∃(i:Nat) (M:List Ex),i<=n/\i'= .int .i64 (i:Int)/\Hid (fh_ W bo wr M)/\Hid (MRel L c i M)) (fun i' _ _ _=>n - (intOf i').toNat)
 case atStart=>exact⟨0,[],o_,rfl,HC0,MRel.start L c⟩
 case round=>
  clear HC0;obtain⟨i,M,hi,rfl,HM,HRL⟩:=hrel;have hBo:=HM.out.blw;have hbs:=HM.out.lt;have BV:Below w.heap.size w wr:=BW.trans (hBo.mono o_);obtain⟨x0,x1,_,_⟩:=aa_ ((hBo.block _ o_).trans d0);by_cases hlt:i<n
  . have hlt2:(i:Int)<(n:Int):=o_;have hL:i<L.length:=by rw[HN.out];exact hlt
    obtain⟨x,hx⟩:∃x,L[i]? =some x:=⟨L[i],List.getElem?_eq_getElem hL⟩;have hxm:=List.mem_of_getElem? hx;obtain⟨ea,gx,rfl,hea,hcx,hEx⟩:=HR.out.exp hx;have cx:=(BV.cell (p:=⟨ea,i,none⟩) hea).trans hcx;have hlx:=HLET.out x hxm;have HC:=w3_ x gx c wr hc (hEx.below BV) o_;have hbl:=ge_ x c;have HD:Hid (∀d∈x.behind c,d.can/\d.nm.length<=2^60):=HCAN.out x hxm;have HFIN:Hid (∀M',KRel M (x.behind c) (i*20000) (x.behind c).length M'->MRel L c (i+1) M'):=fun M' h=>h.fin HRL.out hx o_
    have HK0:Hid (KRel M (x.behind c) (i*20000) 0 M):=HRL.out.k _;obtain⟨LB,HLB⟩:=hx__ (x.behind c);rw[HLB.out]at HC hbl HD HFIN HK0;clear hx hxm hcx hEx HLB HRL;go_wp2_with fail;refine HC.mono ?_;clear HC;rintro r w1 ⟨v1,gs1,rfl,ho1,hL1,hB1⟩;have hsz1:=hB1.size;have HM1:Hid (fh_ W bo w1 M):=HM.out.below hB1;have HLEN:Hid (gs1.length=LB.length):=hL1.len;obtain⟨m,HMM⟩:=hx__ (LB.length);rw[HMM.out]at hbl HFIN;have HL1:Hid (a1_ w1 gs1 LB):=hL1;have HO1:Hid (w1.ownsRow wr.heap.size 104 1 v1 m (a3_ gs1)):=by unfold Hid;rw[<-HMM.out,<-HLEN.out];exact ho1
    obtain⟨ao,cap,rfl⟩:∃ao cap,v1= .slice ao m cap:=by
     obtain⟨ao,cap,e,_⟩:=af_ HO1.out;exact⟨ao,cap,e⟩
    have hmb:m<=20000:=o_;have hbs1:bo<w1.heap.size:=o_;clear ho1 hL1 hB1 cx x0 x1 BV hBo HM;go_wp2_with fail;go_loopw [8] (fun k' wi=>∃(k:Nat) (M':List Ex),k<=m/\k'= .int .i64 (k:Int)/\Hid (fh_ W bo wi M')/\Hid (KRel M LB (i*20000) k M')/\ab_ (fun j=>j=bo) w1 wi) (fun k' _=>m - (intOf k').toNat)
    case atStart=>exact⟨0,M,o_,rfl,HM1,HK0,⟨rfl,rfl,rfl,lr__,fun _ _ _=>rfl⟩⟩
    case round=>
     clear HK0;obtain⟨k,M',hk,rfl,HM',HKR,hT⟩:=hrel;have hbs':=HM'.out.lt;by_cases hlk:k<m
     . have hlk2:(k:Int)<(m:Int):=o_;obtain⟨d,hd⟩:∃d,LB[k]? =some d:=⟨LB[k]'(by rw[HMM.out];exact hlk),List.getElem?_eq_getElem _⟩;obtain⟨hdc,hdn⟩:=HD.out d (List.mem_of_getElem? hd);obtain⟨gd,hgd,hEd⟩:=HL1.out.get hd;obtain⟨a1,cap1,hv,ha1,ha2,hcd⟩:=jg_ HO1.out hgd;simp only[Value.slice.injEq]at hv;obtain⟨rfl,_,rfl⟩:=hv;obtain⟨_,_,_,_,hblk1,_,_⟩:=HM1.out;have hEd':=ack_ hT hblk1 hEd;have cd:wr.cell? ⟨a1,k,none⟩=some (.pointer (some ⟨gd,0,none⟩)):=by
        rw[World.cell?_of_block (a:=⟨a1,k,none⟩) (hT.block a1 ha2 (by intro e;have e':a1=bo:=e;omega))];exact hcd
       have hk0:(0:Int)<=(k:Int):=o_;have HKN:Hid (KRel M LB (i*20000) (k+1) (insE M' d)):=HKR.out.step hd hdc;obtain⟨eo2,ec2,no2,nc2,hblk2,hRs2,hblw2⟩:=HM'.out;have hlM:M'.length<=2^20:=by have:=HKR.out.len;omega
       have hBd:Below wr.heap.size wr wr.drew:=br__.drew;have HC:=te_ wr.drew eo2 no2 ec2 nc2 M' gd d (hRs2.below hBd) (hEd'.below hBd) HKR.out.srt hlM hdn;obtain⟨y0,y1,z0,z1⟩:=aa_ hblk2;have HBLK:Hid (wr.heap[bo]? =some (.cells #[.slice eo2 M'.length ec2,.slice no2 M'.length nc2] 146 (0,0))):=hblk2;have HBLW:Hid (Below bo W wr):=hblw2;have HT:Hid (ab_ (fun j=>j=bo) w1 wr):=hT;obtain⟨lm,HLM⟩:=hx__ (M'.length);rw[HLM.out]at HC y0 y1 HBLK hlM;obtain⟨MN,HMN⟩:=hx__ (insE M' d);rw[HMN.out]at HC HKN;clear hd hdc hdn hgd hEd hcd hblk1 hEd' hblk2 hRs2 hblw2 hT HM' HKR hBd;go_wp2_with fail;go_region_with (go_at_call 114;refine HC.mono ?_;rintro r w6 ⟨eo3,ec3,no3,nc3,rfl,hRs6,hB6'⟩;have hB6:Below wr.heap.size wr w6:=(Below.refl wr.heap.size wr).drew.trans hB6';have hk6:=(hB6.block bo hbs').trans HBLK.out;obtain⟨p0,p1,p2,p3⟩:=aa_ hk6;obtain⟨l3,HL3⟩:∃q,Hid (MN.length=q):=⟨_,rfl⟩;rw[HL3.out];obtain⟨s0,s1,s2,s3⟩:=aa_ (bg_ (u:= .slice eo3 l3 ec3) hk6);have HCN:Hid (fh_ W bo ((w6.setCell ⟨bo,0,none⟩ (.slice eo3 l3 ec3)).setCell ⟨bo,1,none⟩ (.slice no3 l3 nc3)) MN):=fh_.put hk6 (HBLW.out.trans (hB6.mono o_)) hRs6 HL3.out;have HTN:Hid (ab_ (fun j=>j=bo) w1 ((w6.setCell ⟨bo,0,none⟩ (.slice eo3 l3 ec3)).setCell ⟨bo,1,none⟩ (.slice no3 l3 nc3))):=qt_ (qt_ ⟨hB6.os.trans HT.out.os,hB6.tape.trans HT.out.tape,hB6.output.trans HT.out.output,Nat.le_trans HT.out.size hB6.size,fun j hj hn=>(hB6.block j (Nat.lt_of_lt_of_le hj HT.out.size)).trans (HT.out.block j hj hn)⟩);clear hRs6 hB6' hk6 HC)
       all_goals go_wp2_with fail
       all_goals
        go_roundw
        case rel=>exact⟨k+1,MN,o_,by go_num,HCN,HKN,HTN.out⟩
        case measure=>simp[intOf];omega
     . have hlk2:¬(k:Int)<(m:Int):=o_;obtain rfl:k=m:=o_;have HMR:Hid (MRel L c (i+1) M'):=HFIN.out M' HKR.out;clear HKR hT;go_wp2_with fail;go_roundw
       case rel=>exact⟨i+1,M',o_,by go_num,HM',HMR⟩
       case measure=>simp[intOf];omega
  . have hlt2:¬(i:Int)<(n:Int):=o_;have HST:Hid (fd_ L c=M):=by
     unfold Hid fd_;rw[HRL.out.eq,List.take_of_length_le (by rw[HN.out];omega)]
    obtain⟨eo',ec',no',nc',hblk,hRs,hblw⟩:=HM.out;obtain⟨y0,y1,z0,z1⟩:=aa_ hblk;have k1:=(hblw.block _ o_).trans d1;obtain⟨r0,r1,r2,r3⟩:=aa_ k1;obtain⟨lq,HLQ⟩:=hx__ (M.length);rw[HLQ.out]at y0 y1;obtain⟨s0,s1,s2,s3⟩:=aa_ (bg_ (u:= .slice eo' lq ec') k1);obtain⟨t0,t1,t2,t3⟩:=aa_ (c7_ (u:= .slice no' lq nc') (bg_ (u:= .slice eo' lq ec') k1));have HP:Hid (m0_ M w (.returned (.agg #[.slice eo' lq ec',.slice no' lq nc'])) ((wr.setCell ⟨w.heap.size+1,0,none⟩ (.slice eo' lq ec')).setCell ⟨w.heap.size+1,1,none⟩ (.slice no' lq nc'))):=by
     refine⟨eo',ec',no',nc',by rw[HLQ.out], ?_, ?_⟩
     . exact(hRs.set k1).set (bg_ k1)
     . exact(BV.setCell (p:=⟨w.heap.size+1,0,none⟩) (Nat.le_succ _) _).setCell (p:=⟨w.heap.size+1,1,none⟩) (Nat.le_succ _) _
    clear hRs hblk k1 HLQ hblw hBo HRL HM;go_wp2_with fail;refine bodyPost_ret (v:= .agg #[.slice eo' lq ec',.slice no' lq nc']) (by simp[results,results116,go_sem,t0,t1]) rfl ?_;unfold Hid at HST;rw[HST];exact HP.out
end Go.Proofs.YtpngikmcjkjdaaaGreatDoor
