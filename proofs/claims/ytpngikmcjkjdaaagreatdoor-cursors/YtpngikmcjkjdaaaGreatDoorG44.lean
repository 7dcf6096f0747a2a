import Derived.Test.YtpngikmcjkjdaaaGreatDoorG0
import Derived.Test.YtpngikmcjkjdaaaGreatDoorG24
import Derived.Test.YtpngikmcjkjdaaaGreatDoorG31
import Derived.Test.YtpngikmcjkjdaaaGreatDoorG40
import Derived.Test.YtpngikmcjkjdaaaGreatDoorG43
set_option linter.unusedVariables false
set_option linter.unusedSimpArgs false
set_option maxRecDepth 20000
set_option maxHeartbeats 80000000
namespace Go.Proofs.YtpngikmcjkjdaaaGreatDoor
open Go.RowKit Tryz
theorem ft_ {S:Nat->Prop}{w w1 w2:World}(h1:ab_ S w w1)(h2:ab_ S w1 w2):ab_ S w w2:=
 ⟨h2.os.trans h1.os,h2.tape.trans h1.tape,h2.output.trans h1.output,Nat.le_trans h1.size h2.size,fun k hk hs=>(h2.block k (Nat.lt_of_lt_of_le hk h1.size) hs).trans (h1.block k hk hs)⟩
theorem acw_ {w:World}{b1 b2 e s n:Nat}{v:Value}{x:List Value}(h:w.ownsRow b1 e s v n x)(hb:b2<=b1):w.ownsRow b2 e s v n x:=by
 refine⟨h.1, ?_⟩;rcases h.2 with e1|⟨g,cap,cur,e1,e2,r⟩
 . exact .inl e1
 . exact .inr ⟨g,cap,cur,e1,Nat.le_trans hb e2,r⟩
theorem acx_ {t:Nat->ByteArray}{n p:Nat}{s:ByteArray}(hs:SrtB t n)(hn:n<=60)(htu:∀i,i<n->de_ (t i)=true)(hp:IsPl t n s p):SrtB (addT t n s p) (addN t n s p)/\addN t n s p<=60/\∀i,i<addN t n s p->de_ (addT t n s p i)=true:=by
 unfold addT addN;cases h:dn_ t n s p with
 |false=>exact⟨hs,hn,htu⟩
 |true=>
  simp only[dn_,Bool.and_eq_true,Bool.not_eq_true',decide_eq_true_eq,decide_eq_false_iff_not]at h;obtain⟨⟨h1,h2⟩,h3⟩:=h;simp only[if_true];refine⟨hp.ins_srt hs h2,o_,fun i hi=> ?_⟩;unfold ins;split
  . have:=hp.le;exact htu i o_
  . split
    . exact h1
    . exact htu (i - 1) o_
theorem z6_ {t:Nat->ByteArray}{n p:Nat}{s:ByteArray}(hs:SrtB t n)(hn:n<=60)(htu:∀i,i<n->de_ (t i)=true)(hp:IsPl t n s p):SrtB (fk_ t n s p) (e7_ t n s p)/\e7_ t n s p<=60/\∀i,i<e7_ t n s p->de_ (fk_ t n s p i)=true:=by
 unfold fk_ e7_;cases h:c5_ t n s p with
 |false=>exact⟨hs,hn,htu⟩
 |true=>
  simp only[c5_,Bool.and_eq_true,decide_eq_true_eq]at h;obtain⟨h1,h2,h3⟩:=h;simp only[if_true];refine⟨ad0_ hs h2,o_,fun i hi=> ?_⟩;unfold del;split
  . exact htu i o_
  . exact htu (i+1) o_
def bl_ (Wo:World)(bw:Nat)(vts vbs:Value)(hs:List Hd)(ps:List Bk)(n:Nat)(lab:Nat->Nat)(w:World)(e:Ending)(w':World):Prop:=
 e= .returned (.bool true)/\ab_ (fun k=>k=bw\/lab k≠0) w w'/\∃vtx' ps' xs' lab',WbAt Wo w' bw vts vbs vtx' hs ps' xs' lab'/\dm_ ps'=dm_ ps/\xs'.length<=n+1
theorem jm_ {ps:List Bk}{i:Nat}(hi:i<ps.length){d':Bk}(hbp:d'.bp=ps[i].bp):dm_ (ps.set i d')=dm_ ps:=by
 apply List.ext_getElem?;intro j;by_cases hj:j<ps.length
 . rw[hc_ ps j hj,hc_ _ j (by simpa using hj)];by_cases e:i=j
   . subst e;simp[hbp]
   . rw[List.getElem_set_ne e]
 . rw[List.getElem?_eq_none (by simp[dm_];omega),List.getElem?_eq_none (by simp[dm_];omega)]
theorem ll_ {Wo w W w1 w2:World}{bw:Nat}{vts vbs vtx:Value}{hs:List Hd}{ps:List Bk}{xs:List Value}{lab:Nat->Nat}(h:WbAt Wo w bw vts vbs vtx hs ps xs lab){i:Nat}(hi:i<ps.length)(BW:Below w.heap.size w W)
 {t':Nat->ByteArray} {n':Nat} {ry':Value} (ht1:ab_ (fun k=>k=ps[i].bx) W w1) (hx:BxAt w1 ps[i].bx t' n' ps[i].cx) (ht2:ab_ (fun k=>k=ps[i].br) w1 w2) (hy:ByAt w2 ps[i].br ry' t' n' ps[i].cy) (hry:∀g,ry'.ownBlock=some g->ps[i].ry.ownBlock=some g\/w1.heap.size<=g)
 (hg:SrtB t' n'/\n'<=60/\∀j,j<n'->de_ (t' j)=true):bl_ Wo bw vts vbs hs ps xs.length lab w (.returned (.bool true)) w2:=by
 obtain⟨hd,hl⟩:=h.bks i hi;have hT:ab_ (fun k=>lab k=3+2*i) w w2:=
  ft_ (cy_ BW) (ft_ (dt_ ht1 (fun k e=>by rw[e];exact hl _ (.inr (.inl rfl)))) (dt_ ht2 (fun k e=>by rw[e];exact hl _ (.inr (.inr (.inl rfl))))))
 have hd2:=(hd.below BW).step ht1 hx ht2 hy hg.1 hg.2.1 hg.2.2;obtain⟨lab',hw⟩:=h.book hi hT hd2 rfl (fun k hk=>by
  rcases hk with e|e|e|e|e
  . exact .inl (hl k (.inl e))
  . exact .inl (hl k (.inr (.inl e)))
  . exact .inl (hl k (.inr (.inr (.inl e))))
  . rcases hry k e with e|e
    . exact .inl (hl k (.inr (.inr (.inr (.inl e)))))
    . right;have:=BW.size;have:=ht1.size;omega
  . exact .inl (hl k (.inr (.inr (.inr (.inr e))))))
 exact⟨rfl,dt_ hT (fun k e=> .inr (by rw[e];omega)),vtx,_,xs,lab',hw,jm_ hi rfl,o_⟩
theorem hm_ {Wo w w2:World}{bw:Nat}{vts vbs vtx:Value}{hs:List Hd}{ps:List Bk}{xs:List Value}{lab:Nat->Nat}(h:WbAt Wo w bw vts vbs vtx hs ps xs lab)(BW:Below w.heap.size w w2):bl_ Wo bw vts vbs hs ps xs.length lab w (.returned (.bool true)) w2:=
 ⟨rfl,cy_ BW,vtx,ps,xs,lab,h.below BW,rfl,o_⟩
theorem xk_ (Wo w:World)(bw:Nat)(vts vbs vtx:Value)(hs:List Hd)(ps:List Bk)(xs:List Value)(lab:Nat->Nat)(h:WbAt Wo w bw vts vbs vtx hs ps xs lab)(i:Nat)(hi:i<ps.length)(a b c d:Int)(s:ByteArray)(lo:Option Addr)(ll lc:Nat)(hss:s.size<=maxLen):
 Calls prog 22 #[.pointer (some ⟨bw,0,none⟩),.agg #[.int .i64 11,.int .i64 a,.int .i64 b,.int .i64 c,.int .i64 d,.string s,.slice lo ll lc],.pointer (some ⟨ps[i].bp,0,none⟩)] w (bl_ Wo bw vts vbs hs ps xs.length lab w):=by
 obtain⟨W,hW,BW,hWs,b0⟩:=nw__ w #[.int .i64 11,.int .i64 a,.int .i64 b,.int .i64 c,.int .i64 d,.string s,.slice lo ll lc] 33;obtain⟨x0,x1,x2,x3,x4,x5,x6⟩:=bn_ b0;have hd:=(h.bks i hi).1;have hdW:=hd.below BW;obtain⟨p0,p1,_,_⟩:=aa_ hdW.pr;obtain⟨p,hp⟩:=q1_ ps[i].t s ps[i].n;have HX:=ae1_ W.drew ps[i].bx ps[i].n ps[i].t ps[i].cx s p hdW.px hd.le hss hp;have HY:∀w1,ab_ (fun k=>k=ps[i].bx) W w1->_:=fun w1 ht=>aed_ w1.drew ps[i].br ps[i].n ps[i].ry ps[i].t ps[i].cy s p (hdW.stepX ht).2 hd.le hss hd.srt hp
 have HPR:∀w1,ab_ (fun k=>k=ps[i].bx) W w1->w1.cell? ⟨ps[i].bp,0,none⟩=some (.pointer (some ⟨ps[i].bx,0,none⟩))/\w1.cell? ⟨ps[i].bp,1,none⟩=some (.pointer (some ⟨ps[i].br,0,none⟩))/\w1.cell? ⟨w.heap.size,5,none⟩=some (.string s)/\∀w2,ab_ (fun k=>k=ps[i].br) w1 w2->w2.cell? ⟨ps[i].bp,1,none⟩=some (.pointer (some ⟨ps[i].br,0,none⟩))/\w2.cell? ⟨w.heap.size,5,none⟩=some (.string s):=fun w1 ht=>by
  obtain⟨q0,q1,_,_⟩:=aa_ (hdW.stepX ht).1;have hbx:=World.rowIs.lt hd.px;have hbr:=World.rowIs.lt hd.py.1;have hbp:=ac_ hd.pr;have q5:=(World.cell?_of_block (a:=⟨w.heap.size,5,none⟩) (ht.block _ hWs (fun e=>by simp at e;omega))).trans x5;refine⟨q0,q1,q5,fun w2 ht2=>⟨?_, ?_⟩⟩
  . exact(World.cell?_of_block (a:=⟨ps[i].bp,1,none⟩) (ht2.block _ (an_ q1) (fun e=>hd.apart.2.1 e))).trans q1
  . exact(World.cell?_of_block (a:=⟨w.heap.size,5,none⟩) (ht2.block _ (an_ q5) (fun e=>by simp at e;omega))).trans q5
 have HDONE:∀w1 w2 ry',ab_ (fun k=>k=ps[i].bx) W w1->BxAt w1 ps[i].bx (addT ps[i].t ps[i].n s p) (addN ps[i].t ps[i].n s p) ps[i].cx->ab_ (fun k=>k=ps[i].br) w1 w2->ByAt w2 ps[i].br ry' (addT ps[i].t ps[i].n s p) (addN ps[i].t ps[i].n s p) ps[i].cy->(∀g,ry'.ownBlock=some g->ps[i].ry.ownBlock=some g\/w1.heap.size<=g)->Hid (bl_ Wo bw vts vbs hs ps xs.length lab w (.returned (.bool true)) w2):=fun w1 w2 ry' k1 k2 k3 k4 k5=>ll_ h hi BW k1 k2 k3 k4 k5 (acx_ hd.srt hd.le hd.tun hp)
 obtain⟨dd,HDD⟩:∃x,Hid (ps[i]=x):=⟨ps[i],by unfold Hid;rfl⟩;rw[HDD.out]at HX HY HPR HDONE p0 p1 ⊢;generalize dn_ dd.t dd.n s p=rb at*;generalize dj_ dd.t dd.n s p=re at*;have e1:(rb==rb)=true:=by cases rb<;>rfl
 clear h hd hdW hp HDD;go_enter func22,ntmps22;go_upto_region 1 with fail;rw[<-hW];clear hW;go_upto_region 3 with fail;go_region_held3 (fun w'=>w'.cell? ⟨dd.bp,0,none⟩=some (.pointer (some ⟨dd.bx,0,none⟩))/\w'.cell? ⟨w.heap.size,5,none⟩=some (.string s)) (go_keep)
  ((go_at_call 42;refine HX.mono ?_;rintro e w1 ⟨rfl,hx1,ht1'⟩;have ht1:ab_ (fun k=>k=dd.bx) W w1:=⟨ht1'.os,ht1'.tape,ht1'.output,ht1'.size,ht1'.block⟩;have HY1:=HY w1 ht1;obtain⟨q0,q1,q5,HQ2⟩:=HPR w1 ht1;have HD1:=HDONE w1;have HX1:Hid (BxAt w1 dd.bx (addT dd.t dd.n s p) (addN dd.t dd.n s p) dd.cx):=hx1;have HT1:=hi__ ht1;clear HY HPR HDONE hx1 ht1 ht1'))
 all_goals go_upto_region 4 with fail
 all_goals go_region_held3 (fun w'=>w'.cell? ⟨dd.bp,1,none⟩=some (.pointer (some ⟨dd.br,0,none⟩))/\w'.cell? ⟨w.heap.size,5,none⟩=some (.string s)) (go_keep)
  ((go_at_call 43;refine HY1.mono ?_;rintro e w2 ⟨rfl,ry',hy2,ht2',hr2⟩;have ht2:ab_ (fun k=>k=dd.br) w1 w2:=⟨ht2'.os,ht2'.tape,ht2'.output,ht2'.size,ht2'.block⟩;obtain⟨s1,s5⟩:=HQ2 w2 ht2;have HF:=HD1 w2 ry' HT1.out HX1.out ht2 hy2 hr2;clear HD1 hy2 ht2 hr2 HQ2 ht2'))
 all_goals go_wp2_with fail
 all_goals go_ret
 all_goals exact HF.out
theorem uz_ (Wo w:World)(bw:Nat)(vts vbs vtx:Value)(hs:List Hd)(ps:List Bk)(xs:List Value)(lab:Nat->Nat)(h:WbAt Wo w bw vts vbs vtx hs ps xs lab)(i:Nat)(hi:i<ps.length)(a b c d:Int)(s:ByteArray)(lo:Option Addr)(ll lc:Nat)(hss:s.size<=maxLen):
 Calls prog 22 #[.pointer (some ⟨bw,0,none⟩),.agg #[.int .i64 12,.int .i64 a,.int .i64 b,.int .i64 c,.int .i64 d,.string s,.slice lo ll lc],.pointer (some ⟨ps[i].bp,0,none⟩)] w (bl_ Wo bw vts vbs hs ps xs.length lab w):=by
 obtain⟨W,hW,BW,hWs,b0⟩:=nw__ w #[.int .i64 12,.int .i64 a,.int .i64 b,.int .i64 c,.int .i64 d,.string s,.slice lo ll lc] 33;obtain⟨x0,x1,x2,x3,x4,x5,x6⟩:=bn_ b0;have hd:=(h.bks i hi).1;have hdW:=hd.below BW;obtain⟨p0,p1,_,_⟩:=aa_ hdW.pr;obtain⟨p,hp⟩:=q1_ ps[i].t s ps[i].n;have HX:=ac8_ W.drew ps[i].bx ps[i].n ps[i].t ps[i].cx s p hdW.px hd.le hss hp;have HY:∀w1,ab_ (fun k=>k=ps[i].bx) W w1->_:=fun w1 ht=>abq_ w1.drew ps[i].br ps[i].n ps[i].ry ps[i].t ps[i].cy s p (hdW.stepX ht).2 hd.le hss hd.srt hp
 have HPR:∀w1,ab_ (fun k=>k=ps[i].bx) W w1->w1.cell? ⟨ps[i].bp,0,none⟩=some (.pointer (some ⟨ps[i].bx,0,none⟩))/\w1.cell? ⟨ps[i].bp,1,none⟩=some (.pointer (some ⟨ps[i].br,0,none⟩))/\w1.cell? ⟨w.heap.size,5,none⟩=some (.string s)/\∀w2,ab_ (fun k=>k=ps[i].br) w1 w2->w2.cell? ⟨ps[i].bp,1,none⟩=some (.pointer (some ⟨ps[i].br,0,none⟩))/\w2.cell? ⟨w.heap.size,5,none⟩=some (.string s):=fun w1 ht=>by
  obtain⟨q0,q1,_,_⟩:=aa_ (hdW.stepX ht).1;have hbx:=World.rowIs.lt hd.px;have hbr:=World.rowIs.lt hd.py.1;have hbp:=ac_ hd.pr;have q5:=(World.cell?_of_block (a:=⟨w.heap.size,5,none⟩) (ht.block _ hWs (fun e=>by simp at e;omega))).trans x5;refine⟨q0,q1,q5,fun w2 ht2=>⟨?_, ?_⟩⟩
  . exact(World.cell?_of_block (a:=⟨ps[i].bp,1,none⟩) (ht2.block _ (an_ q1) (fun e=>hd.apart.2.1 e))).trans q1
  . exact(World.cell?_of_block (a:=⟨w.heap.size,5,none⟩) (ht2.block _ (an_ q5) (fun e=>by simp at e;omega))).trans q5
 have HDONE:∀w1 w2 ry',ab_ (fun k=>k=ps[i].bx) W w1->BxAt w1 ps[i].bx (fk_ ps[i].t ps[i].n s p) (e7_ ps[i].t ps[i].n s p) ps[i].cx->ab_ (fun k=>k=ps[i].br) w1 w2->ByAt w2 ps[i].br ry' (fk_ ps[i].t ps[i].n s p) (e7_ ps[i].t ps[i].n s p) ps[i].cy->(∀g,ry'.ownBlock=some g->ps[i].ry.ownBlock=some g\/w1.heap.size<=g)->Hid (bl_ Wo bw vts vbs hs ps xs.length lab w (.returned (.bool true)) w2):=fun w1 w2 ry' k1 k2 k3 k4 k5=>ll_ h hi BW k1 k2 k3 k4 k5 (z6_ hd.srt hd.le hd.tun hp)
 obtain⟨dd,HDD⟩:∃x,Hid (ps[i]=x):=⟨ps[i],by unfold Hid;rfl⟩;rw[HDD.out]at HX HY HPR HDONE p0 p1 ⊢;generalize c5_ dd.t dd.n s p=rb at*;generalize dk_ s=re at*;have e1:(rb==rb)=true:=by cases rb<;>rfl
 clear h hd hdW hp HDD;go_enter func22,ntmps22;go_upto_region 1 with fail;rw[<-hW];clear hW;go_upto_region 7 with fail;go_region_held3 (fun w'=>w'.cell? ⟨dd.bp,0,none⟩=some (.pointer (some ⟨dd.bx,0,none⟩))/\w'.cell? ⟨w.heap.size,5,none⟩=some (.string s)) (go_keep)
  ((go_at_call 44;refine HX.mono ?_;rintro e w1 ⟨rfl,hx1,ht1'⟩;have ht1:ab_ (fun k=>k=dd.bx) W w1:=⟨ht1'.os,ht1'.tape,ht1'.output,ht1'.size,ht1'.block⟩;have HY1:=HY w1 ht1;obtain⟨q0,q1,q5,HQ2⟩:=HPR w1 ht1;have HD1:=HDONE w1;have HX1:Hid (BxAt w1 dd.bx (fk_ dd.t dd.n s p) (e7_ dd.t dd.n s p) dd.cx):=hx1;have HT1:=hi__ ht1;clear HY HPR HDONE hx1 ht1 ht1'))
 all_goals go_upto_region 8 with fail
 all_goals go_region_held3 (fun w'=>w'.cell? ⟨dd.bp,1,none⟩=some (.pointer (some ⟨dd.br,0,none⟩))/\w'.cell? ⟨w.heap.size,5,none⟩=some (.string s)) (go_keep)
  ((go_at_call 45;refine HY1.mono ?_;rintro e w2 ⟨rfl,ry',hy2,ht2',hr2⟩;have ht2:ab_ (fun k=>k=dd.br) w1 w2:=⟨ht2'.os,ht2'.tape,ht2'.output,ht2'.size,ht2'.block⟩;obtain⟨s1,s5⟩:=HQ2 w2 ht2;have HF:=HD1 w2 ry' HT1.out HX1.out ht2 hy2 hr2;clear HD1 hy2 ht2 hr2 HQ2 ht2'))
 all_goals go_wp2_with fail
 all_goals go_ret
 all_goals exact HF.out
def WbS (Wo w:World)(bw N:Nat):Prop:=∃vts vbs vtx hs ps xs lab,WbAt Wo w bw vts vbs vtx hs ps xs lab/\hs.length<=N/\ps.length<=N/\xs.length<=N
def gz_ (Wo:World)(bw N:Nat)(e:Ending)(w':World):Prop:=e= .returned (.bool true)/\WbS Wo w' bw (N+1)
theorem ld_ {Wo w:World}{bw N:Nat}{vts vbs vtx:Value}{hs:List Hd}{ps:List Bk}{xs:List Value}{lab:Nat->Nat}(h:WbAt Wo w bw vts vbs vtx hs ps xs lab)(h1:hs.length<=N)(h2:ps.length<=N)(h3:xs.length<=N){e:Ending}{w':World}(hp:f7_ (frOf Wo w vbs vtx lab) bw hs.length e w'):gz_ Wo bw N e w':=by
 obtain⟨rfl,vts',hs',hw,hl⟩:=hp;exact⟨rfl,vts',vbs,vtx,hs',ps,xs,lab,h.tables hw,o_,o_,o_⟩
theorem qw_ {ps ps':List Bk}(h:dm_ ps'=dm_ ps):ps'.length=ps.length:=by
 have:=congrArg List.length h;simpa [dm_] using this
theorem acy_:(prog.info? 45).map (fun i=>(i.zero,i.size,i.bytes))=some (some (.pointer none),1,8):=k_
theorem z7_ (Wo w:World)(bw N:Nat)(vts vbs vtx:Value)(hs:List Hd)(ps:List Bk)(xs:List Value)(lab:Nat->Nat)(h:WbAt Wo w bw vts vbs vtx hs ps xs lab)(h1:hs.length<=N)(h2:ps.length<=N)(h3:xs.length<=N)(hN:N<=4398046511104)(a b c d:Int)(s:ByteArray)(lo:Option Addr)(ll lc:Nat):
 Calls prog 12 #[.pointer (some ⟨bw,0,none⟩),.agg #[.int .i64 10,.int .i64 a,.int .i64 b,.int .i64 c,.int .i64 d,.string s,.slice lo ll lc]] w (gz_ Wo bw N):=by
 obtain⟨i0,hi0,hz0,hz01,hz02⟩:=info_parts acy_;obtain⟨W,hW,BW,hWs,b0⟩:=nw__ w #[.int .i64 10,.int .i64 a,.int .i64 b,.int .i64 c,.int .i64 d,.string s,.slice lo ll lc] 33;obtain⟨x0,x1,x2,x3,x4,x5,x6⟩:=bn_ b0;have HX:=ae2_ W (fun _=>ByteArray.empty);have HY:∀w1,_:=fun w1=>aeu_ w1 (fun _=>ByteArray.empty)
 have hbs:=ac_ h.wd.blk;have HBK:∀w1 w2 bx br,Below W.heap.size W w1->W.heap.size<=bx->BxAt w1 bx (fun _=>ByteArray.empty) 0 cur0->Below w1.heap.size w1 w2->w1.heap.size<=br->ByAt w2 br (.slice none 0 0) (fun _=>ByteArray.empty) 0 cur0->
  ((w2.alloc (.cells #[.pointer (some ⟨bx,0,none⟩),.pointer (some ⟨br,0,none⟩)] 51)).alloc (.cells #[.pointer (some ⟨w2.heap.size,0,none⟩)] 45)).ownsRow (bw+1) 45 1 vbs ps.length (dm_ ps)/\bw+1<=w2.heap.size/\
  ((w2.alloc (.cells #[.pointer (some ⟨bx,0,none⟩),.pointer (some ⟨br,0,none⟩)] 51)).alloc (.cells #[.pointer (some ⟨w2.heap.size,0,none⟩)] 45)).cell? ⟨bw,1,none⟩=some vbs/\(w2.alloc (.cells #[.pointer (some ⟨bx,0,none⟩),.pointer (some ⟨br,0,none⟩)] 51)).cell? ⟨bw,1,none⟩=some vbs/\
  ∀g cap w3,w3.ownsRow (bw+1) 45 1 (.slice (some ⟨g,0,none⟩) (ps.length+1) cap) (ps.length+1) (dm_ ps++ [.pointer (some ⟨w2.heap.size,0,none⟩)])->((w2.alloc (.cells #[.pointer (some ⟨bx,0,none⟩),.pointer (some ⟨br,0,none⟩)] 51)).alloc (.cells #[.pointer (some ⟨w2.heap.size,0,none⟩)] 45)).grownBy w3 vbs.ownBlock->(vbs.ownBlock=some g\/g=((w2.alloc (.cells #[.pointer (some ⟨bx,0,none⟩),.pointer (some ⟨br,0,none⟩)] 51)).alloc (.cells #[.pointer (some ⟨w2.heap.size,0,none⟩)] 45)).heap.size)->
   w3.heap[bw]? =some (.cells #[vts,vbs,vtx] 31 (0,0))/\(w3.setCell ⟨bw,1,none⟩ (.slice (some ⟨g,0,none⟩) (ps.length+1) cap)).cell? ⟨w2.heap.size,0,none⟩=some (.pointer (some ⟨bx,0,none⟩))/\Hid (gz_ Wo bw N (.returned (.bool true)) (w3.setCell ⟨bw,1,none⟩ (.slice (some ⟨g,0,none⟩) (ps.length+1) cap))):=by
  intro w1 w2 bx br hb1 hbx hx hb2 hbr hy;have s0:=BW.size;have s1:=hb1.size;have s2:=hb2.size;have hB2:Below w.heap.size w w2:=(BW.trans (hb1.mono s0)).trans (hb2.mono o_);have hB3:Below w.heap.size w (w2.alloc (.cells #[.pointer (some ⟨bx,0,none⟩),.pointer (some ⟨br,0,none⟩)] 51)):=hB2.alloc o_ _;have hB4:Below w.heap.size w ((w2.alloc (.cells #[.pointer (some ⟨bx,0,none⟩),.pointer (some ⟨br,0,none⟩)] 51)).alloc (.cells #[.pointer (some ⟨w2.heap.size,0,none⟩)] 45)):=hB3.alloc s_ _;refine⟨(h.below hB4).ownB,o_,(b2_ (h.below hB4).wd.blk).2.1,(b2_ (h.below hB3).wd.blk).2.1,fun g cap w3 ho hgr hf=> ?_⟩;have hpn:(w2.alloc (.cells #[.pointer (some ⟨bx,0,none⟩),.pointer (some ⟨br,0,none⟩)] 51)).heap[w2.heap.size]? =some (.cells #[.pointer (some ⟨bx,0,none⟩),.pointer (some ⟨br,0,none⟩)] 51 (0,0)):=ag_ rfl;have hbl2:Below w2.heap.size w2 (w2.alloc (.cells #[.pointer (some ⟨bx,0,none⟩),.pointer (some ⟨br,0,none⟩)] 51)):=br__.alloc lr__ _;have hd:BkAt (w2.alloc (.cells #[.pointer (some ⟨bx,0,none⟩),.pointer (some ⟨br,0,none⟩)] 51)) {bp:=w2.heap.size,bx:=bx,br:=br,t:=fun _=>ByteArray.empty,n:=0,ry:= .slice none 0 0,c:=fun _=>shut,c':=fun _=>shut,V:=fun _=>⟨0,0,0,0,0,0,fun _=>0,fun _=>0,fun _=>0⟩,V':=fun _=>⟨0,0,0,0,0,0,fun _=>0,fun _=>0,fun _=>0⟩,M:=fun _=>⟨0,fun _=>false,fun _ _=>0⟩}:=
   ⟨hpn,by show BxAt _ _ _ _ (cuv fun _=>shut);rw[ty_];exact(hx.below hb2).below hbl2,by show ByAt _ _ _ _ _ (cuv fun _=>shut);rw[ty_];exact hy.below hbl2,fun i j _ hj=>absurd hj (Nat.not_lt_zero _),Nat.zero_le _,fun i hi=>absurd hi (Nat.not_lt_zero _),fun i _=>jl_.shut _ _ _ _,fun k ⟨_,_,hk,_⟩=>by cases hk⟩
  obtain⟨k1,lab',k2⟩:=h.newBook hB3 hd (fun k hk=>by
   rcases hk with e|e|e|e|e
   . have:k=w2.heap.size:=e;omega
   . have:k=bx:=e;omega
   . have:k=br:=e;omega
   . simp[Value.ownBlock]at e
   . obtain⟨_,_,hk,_⟩:=e;cases hk) ho hgr hf
  refine⟨k1, ?_,rfl,_,_,_,_,_,_,lab',k2,o_,s_,o_⟩;have e1:w3.heap[w2.heap.size]? =some (.cells #[.pointer (some ⟨bx,0,none⟩),.pointer (some ⟨br,0,none⟩)] 51 (0,0)):=by
   rw[hgr.block _ s_ (fun e=>by have:=((h.below hB2).ownB.lt _ e.symm).2;omega),Below.heap_alloc _ _ _ i_];exact hpn
  have e2:(w3.setCell ⟨bw,1,none⟩ (.slice (some ⟨g,0,none⟩) (ps.length+1) cap)).heap[w2.heap.size]? =some (.cells #[.pointer (some ⟨bx,0,none⟩),.pointer (some ⟨br,0,none⟩)] 51 (0,0)):=aj_ e1 s_;exact(aa_ e2).1
 obtain⟨ab,cb,hvb,_⟩:=af_ h.ownB;rw[hvb]at HBK;clear h BW b0 hvb;go_enter func12,ntmps12;go_upto_region 1 with fail;rw[<-hW];clear hW;go_wp2_with (first
  |(go_at_call 19;refine HX.mono ?_;rintro e w1 ⟨hb1,bx,rfl,hbx,hx⟩;have HB1:=fun w2 br=>HBK w1 w2 bx br hb1 hbx hx;clear HBK hb1 hx)
  |(go_at_call 20;refine(HY w1).mono ?_;rintro e w2 ⟨hb2,br,rfl,hbr,hy⟩;obtain⟨hna,hsb,cb1,cb2,HNB⟩:=HB1 w2 br hb2 hbr hy;clear HB1 hb2 hy)
  |(at_builtin;refine ae_ _ rfl _ _ 28 rfl (bw+1) 45 i0 (.pointer none) 1 8 underlying28 hi0 hz0 hz01 hz02 rfl d_ _ ps.length (dm_ ps) rfl hna ⟨w2.heap.size+1,0,none⟩ 1 1 [.pointer (some ⟨w2.heap.size,0,none⟩)] rfl rfl (by have:=cell_one_new (w2.alloc (.cells #[.pointer (some ⟨bx,0,none⟩),.pointer (some ⟨br,0,none⟩)] 51)) (.pointer (some ⟨w2.heap.size,0,none⟩)) 45;simpa using this) (oc__ rfl) d_ u_ o_ s_ ?_;intro g cap w3 hown hgr hfr;obtain⟨f0,z0,F⟩:=HNB g cap w3 hown hgr hfr;obtain⟨f1,f2,f3,f4⟩:=b2_ f0;obtain⟨f5,f6⟩:=iz_ f0;clear HNB hown hgr hfr f0))
 go_ret;exact F.out
theorem i0_ {Wo w w':World}{bw:Nat}{vts vbs vtx:Value}{hs:List Hd}{ps:List Bk}{xs:List Value}{lab:Nat->Nat}(h:WbAt Wo w bw vts vbs vtx hs ps xs lab){e:Ending}{n:Nat}(hp:bl_ Wo bw vts vbs hs ps n lab w e w'):
 w'.cell? ⟨bw,1,none⟩=some vbs/\(∀k o,lab k=0->k≠bw->k<w.heap.size->w'.cell? ⟨k,o,none⟩=w.cell? ⟨k,o,none⟩)/\(∀g i,vbs.ownBlock=some g->i<ps.length->w'.cell? ⟨g,i,none⟩=(dm_ ps)[i]?):=by
 obtain⟨_,hT,vtx',ps',xs',lab',hw,hb,_⟩:=hp;refine⟨(b2_ hw.wd.blk).2.1,fun k o hl hne hk=>World.cell?_of_block (a:=⟨k,o,none⟩) (hT.block k hk (by rintro(e|e);exact hne e;exact e hl)),fun g i hg hi=> ?_⟩;have hlen:=qw_ hb;obtain⟨a,cap,hv,hs⟩:=af_ hw.ownB;obtain⟨g',e,hc⟩:=hs o_;rw[hv,e]at hg;simp only[Value.ownBlock,Option.some.injEq]at hg;subst hg;rw[<-hb];exact hc i o_
theorem h1_ (Wo w:World)(bw N:Nat)(vts vbs vtx:Value)(hs:List Hd)(ps:List Bk)(xs:List Value)(lab:Nat->Nat)(h:WbAt Wo w bw vts vbs vtx hs ps xs lab)(h1:hs.length<=N)(h2:ps.length<=N)(h3:xs.length<=N)(hN:N<=4398046511104)(k:Int)(hk:11<=k/\k<=18)(a b c d:Int)(s:ByteArray)(lo:Option Addr)(ll lc:Nat)(ha: -9223372036854775808<=a/\a<=9223372036854775807)
 (HB:∀(W:World) (vb:Value) (p:Nat) (hp:p<ps.length),Below w.heap.size w W->WbAt Wo W bw vts vb vtx hs ps xs lab->Calls prog 22 #[.pointer (some ⟨bw,0,none⟩),.agg #[.int .i64 k,.int .i64 a,.int .i64 b,.int .i64 c,.int .i64 d,.string s,.slice lo ll lc],.pointer (some ⟨ps[p].bp,0,none⟩)] W (bl_ Wo bw vts vb hs ps xs.length lab W)):
 Calls prog 12 #[.pointer (some ⟨bw,0,none⟩),.agg #[.int .i64 k,.int .i64 a,.int .i64 b,.int .i64 c,.int .i64 d,.string s,.slice lo ll lc]] w (gz_ Wo bw N):=by
 obtain⟨W,hW,BW,hWs,b0⟩:=nw__ w #[.int .i64 k,.int .i64 a,.int .i64 b,.int .i64 c,.int .i64 d,.string s,.slice lo ll lc] 33;obtain⟨x0,x1,x2,x3,x4,x5,x6⟩:=bn_ b0;have hW1:=h.below BW;obtain⟨y0,y1,y2,y3⟩:=b2_ hW1.wd.blk;replace y1:W.cell? ⟨bw,1,none⟩=some vbs:=y1;obtain⟨al,cl,rfl,hal⟩:=af_ hW1.ownB;have q1:(k==1)=false:=by rw[beq_eq_false_iff_ne];omega
 have q2:(k==2)=false:=by rw[beq_eq_false_iff_ne];omega
 have q8:(k==8)=false:=by rw[beq_eq_false_iff_ne];omega
 have q9:(k==9)=false:=by rw[beq_eq_false_iff_ne];omega
 have q10:(k==10)=false:=by rw[beq_eq_false_iff_ne];omega
 have r0:3<=k:=o_;have r1:¬k<3:=o_;have r2:¬k<=7:=o_;have r3:7<k:=o_;have r4:11<=k:=o_;have r5:¬k<11:=o_;have r6:k<=18:=o_;have r7:¬18<k:=o_;go_enter func12,ntmps12;go_upto_region 1 with fail;rw[<-hW];clear hW;by_cases h0:ps.length=0
 . rw[h0]at y1;have HF:Hid (WbAt Wo W bw vts (.slice al ps.length cl) vtx hs ps xs lab):=hW1;go_wp2_with fail;go_ret;exact⟨rfl,_,_,_,_,_,_,_,HF.out,o_,o_,o_⟩
 . obtain⟨gl,rfl,hcl⟩:=hal o_;obtain⟨pi,HPI⟩:=hx__ (ex_ a ps.length);have hpi:pi<ps.length:=by rw[<-HPI.out];exact f6_ _ _ o_
   have HP:=gq_ a ps.length W.drew o_ o_ ha.1 ha.2;rw[Int.toNat_natCast,HPI.out]at HP;have z0:=(hcl pi o_).trans (hc_ ps pi hpi);have hWd:WbAt Wo W.drew bw vts (.slice (some ⟨gl,0,none⟩) ps.length cl) vtx hs ps xs lab:=hW1.below (br__.drew);have HQ:=HB W.drew _ pi hpi BW.drew hWd;have hl0:lab w.heap.size=0:=by
    by_cases e:lab w.heap.size=0
    . exact e
    . have:=h.lt _ e;omega
   have hbw:=ac_ h.wd.blk;have KO:∀w',Hid (bl_ Wo bw vts (.slice (some ⟨gl,0,none⟩) ps.length cl) hs ps xs.length lab W.drew (.returned (.bool true)) w')->∀o,w'.cell? ⟨w.heap.size,o,none⟩=W.cell? ⟨w.heap.size,o,none⟩:=fun w' hB o=>(i0_ hWd hB.out).2.1 w.heap.size o hl0 o_ hWs
   have KB:∀w',Hid (bl_ Wo bw vts (.slice (some ⟨gl,0,none⟩) ps.length cl) hs ps xs.length lab W.drew (.returned (.bool true)) w')->w'.cell? ⟨bw,1,none⟩=some (.slice (some ⟨gl,0,none⟩) ps.length cl)/\w'.cell? ⟨gl,pi,none⟩=some (.pointer (some ⟨ps[pi].bp,0,none⟩)):=fun w' hB=>⟨(i0_ hWd hB.out).1,((i0_ hWd hB.out).2.2 gl pi rfl hpi).trans (hc_ ps pi hpi)⟩
   have KF:∀w',Hid (bl_ Wo bw vts (.slice (some ⟨gl,0,none⟩) ps.length cl) hs ps xs.length lab W.drew (.returned (.bool true)) w')->Hid (gz_ Wo bw N (.returned (.bool true)) w'):=fun w' hB=>by
    obtain⟨_,_,vtx',ps',xs',lab',hw,hb,hx⟩:=hB.out;exact⟨rfl,_,_,_,_,_,_,_,hw,o_,by have:=qw_ hb;omega,o_⟩
   obtain⟨dd,HDD⟩:∃x,Hid (ps[pi]=x):=⟨ps[pi],by unfold Hid;rfl⟩;rw[HDD.out]at z0 HQ KB;have hne:((ps.length:Int)==0)=false:=by rw[beq_eq_false_iff_ne];omega
   have hgt2:(pi:Int)<(ps.length:Int):=o_;clear HB h hW1 hWd hcl hal hl0 BW b0;go_wp2_with fail;go_region_held3 (fun w'=>w'.cell? ⟨bw,1,none⟩=some (.slice (some ⟨gl,0,none⟩) ps.length cl)/\w'.cell? ⟨w.heap.size,0,none⟩=some (.int .i64 k)/\w'.cell? ⟨w.heap.size,1,none⟩=some (.int .i64 a)/\w'.cell? ⟨w.heap.size,2,none⟩=some (.int .i64 b)/\w'.cell? ⟨w.heap.size,3,none⟩=some (.int .i64 c)/\w'.cell? ⟨w.heap.size,4,none⟩=some (.int .i64 d)/\w'.cell? ⟨w.heap.size,5,none⟩=some (.string s)/\w'.cell? ⟨w.heap.size,6,none⟩=some (.slice lo ll lc)/\w'.cell? ⟨gl,pi,none⟩=some (.pointer (some ⟨dd.bp,0,none⟩))) (go_keep)
    ((first
     |(go_at_call 16;refine HP.mono ?_;rintro e w' ⟨rfl,hw'⟩;obtain rfl:W.drew=w':=hw'.symm)
     |(go_at_call 22;refine HQ.mono ?_;rintro e w' hP;obtain rfl:e= .returned (.bool true):=hP.1;have hB:Hid (bl_ Wo bw vts (.slice (some ⟨gl,0,none⟩) ps.length cl) hs ps xs.length lab W.drew (.returned (.bool true)) w'):=hP;have k0:=(KO w' hB 0).trans x0;have k1:=(KO w' hB 1).trans x1;have k2:=(KO w' hB 2).trans x2;have k3:=(KO w' hB 3).trans x3;have k4:=(KO w' hB 4).trans x4;have k5:=(KO w' hB 5).trans x5;have k6:=(KO w' hB 6).trans x6;obtain⟨k7,k8⟩:=KB w' hB;have HFIN:=KF w' hB;clear hP hB)))
   all_goals go_wp2_with fail
   all_goals go_ret
   all_goals exact HFIN.out
theorem WbS.blw' {Wo w:World}{bw N:Nat}(h:WbS Wo w bw N):Below bw Wo w:=by
 obtain⟨vts,vbs,vtx,hs,ps,xs,lab,hw,_⟩:=h;exact hw.wd.blw
theorem WbS.below {Wo w w':World}{bw N:Nat}(h:WbS Wo w bw N)(hb:Below w.heap.size w w'):WbS Wo w' bw N:=by
 obtain⟨vts,vbs,vtx,hs,ps,xs,lab,hw,l⟩:=h;exact⟨vts,vbs,vtx,hs,ps,xs,lab,hw.below hb,l⟩
theorem WbS.more {Wo w:World}{bw N:Nat}(h:WbS Wo w bw N):WbS Wo w bw (N+1):=by
 obtain⟨vts,vbs,vtx,hs,ps,xs,lab,hw,l1,l2,l3⟩:=h;exact⟨vts,vbs,vtx,hs,ps,xs,lab,hw,o_,o_,o_⟩
theorem WbS.looks {Wo w:World}{N:Nat}(h:WbS Wo w Wo.heap.size N)(hN:N<=4398046511104)(h3:3<=Wo.heap.size)(ht:dh_ Wo):
 Calls prog 13 #[.pointer (some ⟨Wo.heap.size,0,none⟩)] w fun e w'=>e= .returned (.bool true)/\Below w.heap.size w w':=by
 obtain⟨vts,vbs,vtx,hs,ps,xs,lab,hw,l1,l2,l3⟩:=h;exact z5_ Wo w _ vts vbs vtx hs ps xs lab hw o_ o_ h3 (ht.below h3 hw.wd.blw)
theorem z8_ (ao:Option Addr)(len cap:Nat)(kd fa fb fc fd:Nat->Int)(st:Nat->ByteArray)(lo:Nat->Option Addr)(ll lc:Nat->Nat)(z:Nat->Nat->Int)(w:World)(h:o1_ w ao len kd fa fb fc fd st lo ll lc z)
 (bk nk ck:Nat) (ks:Nat->Int) (hk:∀j,j<nk->w.cell? ⟨bk,j,none⟩=some (.int .i64 (ks j))) (hnk:nk<=100) (h3:3<=w.heap.size) (hpt:dh_ w)
 (HS:∀i,i<len->inB (kd i) ks nk=true->∀w':World,Below w.heap.size w w'->WbS w w' w.heap.size i->
  Calls prog 12 #[.pointer (some ⟨w.heap.size,0,none⟩),.agg #[.int .i64 (kd i),.int .i64 (fa i),.int .i64 (fb i),.int .i64 (fc i),.int .i64 (fd i),.string (st i),.slice (lo i) (ll i) (lc i)]] w' (gz_ w w.heap.size i)):
 Calls prog 11 #[.slice ao len cap,.slice (some ⟨bk,0,none⟩) nk ck] w fun e w'=>e= .returned (.bool true)/\Below w.heap.size w w':=by
 have hln:=h.ln;have P0:WbS w (w.alloc (.cells #[.slice none 0 0,.slice none 0 0,.slice none 0 0] 31)) w.heap.size 0:=
  ⟨.slice none 0 0,.slice none 0 0,.slice none 0 0,[],[],[],fun _=>0,⟨⟨br__.alloc lr__ _,ag_ rfl,on__,fun d hd=>by simp at hd,fun d hd=>by simp at hd,List.Pairwise.nil,fun g e=>by simp[Value.ownBlock]at e,fun k o e=>by simp[frOf]at e⟩,on__,on__,fun i hi=>by simp at hi,fun i hi=>by simp at hi,fun g e=>by simp[Value.ownBlock]at e,fun g e=>by simp[Value.ownBlock]at e,fun k hl=>absurd rfl hl⟩,i_,i_,i_⟩
 go_enter func11,ntmps11;go_wp2_with fail;go_loopw [6,7,8,9] (fun i' _ _ _ wr=>∃i:Nat,i<=len/\i'= .int .i64 i/\WbS w wr w.heap.size i) (fun i' _ _ _ _=>len - (intOf i').toNat)
 case atStart=>exact⟨0,o_,rfl,P0⟩
 case round=>
  obtain⟨i,hi,rfl,hP⟩:=hrel;clear P0;by_cases hlt:i<len
  . obtain⟨b,o,rfl,c0,c1,c2,c3,c4,c5,c6⟩:=(h.below hP.blw').cel i hlt;have HK:Hid (∀j,j<nk->wr.cell? ⟨bk,j,none⟩=some (.int .i64 (ks j))):=fun j hj=>by rw[(cu_ hP.blw').1 _ _ (an_ (hk j hj))];exact hk j hj
    have HP:Hid (WbS w wr w.heap.size i):=hP;have HSS:Hid _:=HS i hlt;have H0:Hid _:=h;clear hP h HS hk;obtain⟨k,HKD⟩:=hx__ (kd i);rw[HKD.out]at c0;rename World=>wo
    go_upto_region 5 with fail;go_cut [7] (fun v wc=>v= .bool (inB k ks 0)/\wc=wo)
    case first=>
     by_cases k1:k=1
     . subst k1;go_wp2_with fail;go_meet
       exact⟨rfl,rfl⟩
     . have hb1:(k==1)=false:=by simp[k1]
       go_wp2_with fail;go_meet
       exact⟨by simp[inB,hb1],rfl⟩
    case rest=>
     obtain⟨rfl,hwc⟩:=hcut;obtain rfl:wo=wc:=hwc.symm;go_wp2_with fail;go_loopw [7,8] (fun v j' wr=>∃j q:Nat,j<=nk/\v= .bool (inB k ks j)/\j'= .int .i64 j/\wr=wo.drewN q) (fun _ j' _=>nk - (intOf j').toNat)
     case atStart=>exact⟨0,0,o_,rfl,rfl,rfl⟩
     case round=>
      obtain⟨j,q,hj,rfl,rfl,rfl⟩:=hrel;by_cases hltj:j<nk
      . have d0:=HK.out j hltj;obtain⟨kj,HKJ⟩:=hx__ (ks j);rw[HKJ.out]at d0;obtain⟨bb,HBB⟩:=hx__ (inB k ks j);rw[HBB.out];have HN:Hid (inB k ks (j+1)=(bb||(k==kj))):=by unfold Hid;simp only[inB];rw[HBB.out,HKJ.out]
        cases bb
        . go_wp2_with fail;go_quiet (fail);go_wp2_with fail;go_roundw
          case rel=>exact⟨j+1,_,o_,by rw[HN.out];simp,by go_num,rfl⟩
          case measure=>simp[intOf];omega
        . go_wp2_with fail;go_quiet (fail);go_wp2_with fail;go_roundw
          case rel=>exact⟨j+1,_,o_,by rw[HN.out];simp,by go_num,rfl⟩
          case measure=>simp[intOf];omega
      . have he:j=nk:=o_;subst he;obtain⟨bb,HBB⟩:=hx__ (inB k ks j);rw[HBB.out];have hPq:=HP.out.below (below_drewN br__ q);have hBq:Below w.heap.size w (wo.drewN q):=hPq.blw';cases bb
        . have HPQ:Hid (WbS w (wo.drewN q) w.heap.size i):=hPq;clear hPq hBq;go_wp2_with fail;go_roundw
          case rel=>exact⟨i+1,o_,by go_num,HPQ.out.more⟩
          case measure=>simp[intOf];omega
        . have HC:=HSS.out (by rw[HKD.out];exact HBB.out) (wo.drewN q) hBq hPq;rw[HKD.out]at HC;clear hPq hBq;go_wp2_with fail;refine Calls.mono HC ?_;rintro e w1 ⟨rfl,hW1⟩;have HC2:=hW1.looks o_ h3 hpt;have HW1:Hid (WbS w w1 w.heap.size (i+1)):=hW1;clear HC hW1;go_wp2_with fail;refine HC2.mono ?_;rintro e w2 ⟨rfl,hB2⟩;clear HC2;go_wp2_with fail;go_roundw
          case rel=>exact⟨i+1,o_,by go_num,HW1.out.below hB2⟩
          case measure=>simp[intOf];omega
  . have he:i=len:=o_;subst he;have HP:Hid (WbS w wr w.heap.size i):=hP;clear hP h HS hk;go_wp2_with fail;go_ret;exact⟨rfl,HP.out.blw'⟩
theorem ab_.cut {S:Nat->Prop}{W w2:World}(hT:ab_ S W w2):∃Wv:World,ab_ S W Wv/\Below Wv.heap.size Wv w2/\Wv.heap.size=W.heap.size/\∀k,k<W.heap.size->Wv.heap[k]? =w2.heap[k]? :=by
 have hsz:=hT.size;have hz:(w2.heap.extract 0 W.heap.size).size=W.heap.size:=s_;have hg:∀k,k<W.heap.size->(w2.heap.extract 0 W.heap.size)[k]? =w2.heap[k]? :=fun k hk=>by
  rw[Array.getElem?_extract];simp;omega
 refine⟨{w2 with heap:=w2.heap.extract 0 W.heap.size},⟨hT.os,hT.tape,hT.output, ?_,fun k hk hs=>(hg k hk).trans (hT.block k hk hs)⟩,⟨rfl,rfl,rfl, ?_,fun k hk=> ?_⟩,hz,hg⟩
 . show W.heap.size<=(w2.heap.extract 0 W.heap.size).size
   omega
 . show(w2.heap.extract 0 W.heap.size).size<=w2.heap.size
   omega
 . have hk':k<W.heap.size:=by
    have:k<(w2.heap.extract 0 W.heap.size).size:=hk;omega
   exact(hg k hk').symm
theorem n1_ {c c':Nat->Cu}(h:∀i,i<4->(c i).op=(c' i).op)(k:Int):opB c' k=opB c k:=by
 unfold opB;by_cases hk:0<=k/\k<4
 . rw[h k.toNat o_]
 . simp[hk]
theorem xl_ {x y:Cu}(h1:x.bg=y.bg)(h2:x.la=y.la)(M:Tab)(s:ByteArray):dx_ y M s=dx_ x M s:=by unfold dx_;rw[h1,h2]
theorem o2_ {x y:Cu}(h1:x.bg=y.bg)(h2:x.la=y.la)(M:Tab)(t:Nat->ByteArray):∀n,as_ y M t n=as_ x M t n
 |0=>rfl
 |n+1=>by rw[as_,as_,o2_ h1 h2 M t n,xl_ h1 h2]
theorem ts_ {x y:Cu}(h1:x.bg=y.bg)(h2:x.la=y.la)(M:Tab)(t:Nat->ByteArray)(n l:Nat):bx_ y M t n l=bx_ x M t n l/\df_ y M t n l=df_ x M t n l:=by
 unfold bx_ df_;rw[o2_ h1 h2];exact⟨rfl,rfl⟩
theorem ga_ (c:Nat->Cu)(k:Nat)(d:Cu):b3_ c k d k=d:=if_pos rfl
theorem fi_ (c:Nat->Cu){k i:Nat}(d:Cu)(h:i≠k):b3_ c k d i=c i:=if_neg h
theorem Bk.next {d:Bk}{w:World}(h:d.cur w)(m:Nat)(L:List ByteArray):({d with c:=dd_ d.c m L,c':=dd_ d.c' m L}:Bk).cur w/\∀k,({d with c:=dd_ d.c m L,c':=dd_ d.c' m L}:Bk).more k->d.more k:=by
 unfold dd_;cases hl:L.getLast? with
 |none=>exact⟨h,fun k hk=>hk⟩
 |some s=>
  have hop:∀(c:Nat->Cu) i,(b3_ c m {c m with bg:=true,la:=s} i).op=(c i).op:=fun c i=>by
   by_cases e:i=m
   . subst e;rw[ga_]
   . rw[fi_ _ _ e]
  refine⟨fun i hi=> ?_,fun k ⟨i,hi,ho,hk⟩=>⟨i,hi,by rw[<-hop d.c i];exact ho,hk⟩⟩;show jl_ w (b3_ d.c m {d.c m with bg:=true,la:=s} i) (b3_ d.c' m {d.c' m with bg:=true,la:=s} i) _ _ _
  obtain⟨h1,h2,h3,h4⟩:=h i hi;by_cases e:i=m
  . subst e;rw[ga_,ga_];exact⟨h1,rfl,rfl,h4⟩
  . rw[fi_ _ _ e,fi_ _ _ e];exact⟨h1,h2,h3,h4⟩
theorem Bk.close {d:Bk}{w:World}(h:d.cur w)(k:Int):({d with c:=ef_ d.c k,c':=ef_ d.c' k}:Bk).cur w/\∀j,({d with c:=ef_ d.c k,c':=ef_ d.c' k}:Bk).more j->d.more j:=by
 have ho:=n1_ (fun i hi=>(h i hi).op) k;unfold ef_;rw[ho];cases opB d.c k with
 |false=>exact⟨h,fun k hk=>hk⟩
 |true=>
  refine⟨fun i hi=> ?_,fun j ⟨i,hi,hop,hj⟩=> ?_⟩
  . show jl_ w (b3_ d.c k.toNat shut i) (b3_ d.c' k.toNat shut i) _ _ _
    by_cases e:i=k.toNat
    . subst e;rw[ga_,ga_];exact jl_.shut _ _ _ _
    . rw[fi_ _ _ e,fi_ _ _ e];exact h i hi
  . have hop':(b3_ d.c k.toNat shut i).op=true:=hop;by_cases e:i=k.toNat
    . subst e;rw[ga_]at hop';cases hop'
    . rw[fi_ _ _ e]at hop';exact⟨i,hi,hop',hj⟩
theorem j2_ {Wo w W w1 w2:World}{bw:Nat}{vts vbs vtx:Value}{hs:List Hd}{ps:List Bk}{xs:List Value}{lab:Nat->Nat}(h:WbAt Wo w bw vts vbs vtx hs ps xs lab){i:Nat}(hi:i<ps.length)(BW:Below w.heap.size w W)
 {d':Bk} (hd':d'= {ps[i]with c:=d'.c,c':=d'.c',V:=d'.V,V':=d'.V',M:=d'.M}) (ht1:ab_ (fun k=>k=ps[i].bx) W w1) (hx:BxAt w1 ps[i].bx ps[i].t ps[i].n (cuv d'.c)) (ht2:ab_ (fun k=>k=ps[i].br) w1 w2) (hy:ByAt w2 ps[i].br ps[i].ry ps[i].t ps[i].n (cuv d'.c'))
 (hc:d'.cur w2) (hm:∀k,d'.more k->ps[i].more k\/(W.heap.size<=k/\k<w2.heap.size)):ab_ (fun k=>lab k=3+2*i) w w2/\BkAt w2 d'/\d'.bp=ps[i].bp/\∀k,d'.foot k->lab k=3+2*i\/W.heap.size<=k:=by
 obtain⟨hd,hl⟩:=h.bks i hi;have hdW:=hd.below BW;have hT:ab_ (fun k=>lab k=3+2*i) w w2:=
  ft_ (cy_ BW) (ft_ (dt_ ht1 (fun k e=>by rw[e];exact hl _ (.inr (.inl rfl)))) (dt_ ht2 (fun k e=>by rw[e];exact hl _ (.inr (.inr (.inl rfl))))))
 have hs1:=ht1.size;have hs2:=ht2.size;rw[hd']at hc hm ⊢;refine⟨hT,⟨ht2.heap (hdW.stepX ht1).1 hdW.apart.2.1,World.rowIs.of_block hx (ht2.block _ (World.rowIs.lt hx) hdW.apart.2.2.1),hy,hd.srt,hd.le,hd.tun,hc,fun k hk=> ?_⟩,rfl,fun k hk=> ?_⟩
 . rcases hm k hk with e|⟨e1,e2⟩
   . have:=hdW.mo k e;exact⟨o_,this.2⟩
   . have l1:=hdW.lt _ (.inl rfl);have l2:=hdW.lt _ (.inr (.inl rfl));have l3:=hdW.lt _ (.inr (.inr (.inl rfl)));exact⟨e2,by show k≠ps[i].bp;omega,by show k≠ps[i].bx;omega,by show k≠ps[i].br;omega⟩
 . rcases hk with e|e|e|e|e
   . exact .inl (hl k (.inl e))
   . exact .inl (hl k (.inr (.inl e)))
   . exact .inl (hl k (.inr (.inr (.inl e))))
   . exact .inl (hl k (.inr (.inr (.inr (.inl e)))))
   . rcases hm k e with e|e
     . exact .inl (hl k (.inr (.inr (.inr (.inr e)))))
     . exact .inr e.1
theorem acz_ (w:World)(k:Int):Calls prog 91 #[.slice none 0 0,.int .i64 k] w fun e w'=>e= .returned (.slice none 0 0)/\w'=w:=by
 go_enter func91,ntmps91;go_wp2_with fail;go_loopw [6] (fun i' wr=>i'= .int .i64 0/\wr=w) (fun _ _=>0)
 case atStart=>exact⟨rfl,rfl⟩
 case round=>
  obtain⟨rfl,rfl⟩:=hrel;go_wp2_with fail;go_ret;exact⟨rfl,rfl⟩
theorem ac0_ (Wo w0 w:World)(bw:Nat)(vts vbs vtx:Value)(hs:List Hd)(ps:List Bk)(xs:List Value)(lab:Nat->Nat)(h:WbAt Wo w0 bw vts vbs vtx hs ps xs lab)(hB:Below w0.heap.size w0 w)(hx:xs.length<=4398046511104)
 (u:Value) (hu:w.ownsRow w0.heap.size 9 1 u 0 []):
 Calls prog 51 #[.pointer (some ⟨bw,0,none⟩),.slice none 0 0,u] w fun e w'=>e= .returned (.bool true)/\ab_ (fun k=>k=bw\/lab k≠0) w0 w'/\∃vtx' x lab',WbAt Wo w' bw vts vbs vtx' hs ps (xs++ [x]) lab':=by
 obtain⟨i0,hi0,hz0,hz01,hz02⟩:=info_parts vt_;have hbs:=ac_ h.wd.blk;have HS:=mg_ w (.slice none 0 0) u 0 _ [] i_ on__ hu;have hws:=hB.size;have HW1:∀w1,Below w.heap.size w w1->w1.cell? ⟨bw,2,none⟩=some vtx/\Below w0.heap.size w0 w1:=fun w1 hb=>by
  have hb01:=hB.trans (hb.mono hws);exact⟨(b2_ (h.below hb01).wd.blk).2.2.1,hb01⟩
 obtain⟨at',ct,hvt,_⟩:=af_ h.ownX;have HNT:∀w2,Below w0.heap.size w0 w2->∀g' cap' w3,w3.ownsRow (bw+1) 56 1 (.slice (some ⟨g',0,none⟩) (xs.length+1) cap') (xs.length+1) (xs++ [.slice none 0 0])->(w2.alloc (.cells #[.slice none 0 0] 56)).grownBy w3 vtx.ownBlock->(vtx.ownBlock=some g'\/g'=(w2.alloc (.cells #[.slice none 0 0] 56)).heap.size)->
  w3.heap[bw]? =some (.cells #[vts,vbs,vtx] 31 (0,0))/\Hid (ab_ (fun k=>k=bw\/lab k≠0) w0 (w3.setCell ⟨bw,2,none⟩ (.slice (some ⟨g',0,none⟩) (xs.length+1) cap'))/\∃lab',WbAt Wo (w3.setCell ⟨bw,2,none⟩ (.slice (some ⟨g',0,none⟩) (xs.length+1) cap')) bw vts vbs (.slice (some ⟨g',0,none⟩) (xs.length+1) cap') hs ps (xs++ [.slice none 0 0]) lab'):=by
  intro w2 hb g' cap' w3 ho hgr hf;exact h.newText hb (.inl rfl) (fun j e=>by simp[Value.ownBlock]at e) ho hgr hf
 have HNA:∀w2,Below w0.heap.size w0 w2->(w2.alloc (.cells #[.slice none 0 0] 56)).ownsRow (bw+1) 56 1 vtx xs.length xs/\bw+1<=w2.heap.size:=fun w2 hb=>⟨(h.below hb).ownX.alloc _,by have:=hb.size;omega⟩
 rw[hvt]at HW1 HNA HNT;clear h hu hB;go_enter func51,ntmps51;go_wp2_with (first
  |(go_at_call 90;refine HS.mono ?_;rintro e w1 ⟨rfl,hb1⟩;obtain⟨c1,hb2⟩:=HW1 w1 hb1;obtain⟨hna,hsb⟩:=HNA w1 hb2;have HNT2:=HNT w1 hb2;have HOV1:=acz_ w1 (xs.length:Int);clear HW1 HNA HNT hb1 hb2)
  |(go_at_call 91;refine HOV1.mono ?_;rintro e w2 ⟨rfl,hw2⟩;obtain rfl:w1=w2:=hw2.symm)
  |(at_builtin;refine ae_ _ rfl _ _ 29 rfl (bw+1) 56 i0 (.slice none 0 0) 1 24 underlying29 hi0 hz0 hz01 hz02 rfl d_ _ xs.length xs rfl hna ⟨w1.heap.size,0,none⟩ 1 1 [.slice none 0 0] rfl rfl (cell_one_new _ _ _) (oc__ rfl) d_ u_ o_ s_ ?_;intro g' cap' w3 hown hgr hfr;obtain⟨f0,F⟩:=HNT2 g' cap' w3 hown hgr hfr;obtain⟨f1,f2,f3,f4⟩:=b2_ f0;have f5:=iz_ f0;clear HNT2 hown hgr hfr f0))
 go_ret;obtain⟨hTF,lab',hF⟩:=F.out;exact⟨rfl,hTF,_,_,lab',hF⟩
end Go.Proofs.YtpngikmcjkjdaaaGreatDoor
