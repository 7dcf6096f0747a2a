import Derived.Test.YtpngikmcjkjdaaaGreatDoorG0
import Derived.Test.YtpngikmcjkjdaaaGreatDoorG11
import Derived.Test.YtpngikmcjkjdaaaGreatDoorG12
import Derived.Test.YtpngikmcjkjdaaaGreatDoorG2
import Derived.Test.YtpngikmcjkjdaaaGreatDoorG25
import Derived.Test.YtpngikmcjkjdaaaGreatDoorG30
import Derived.Test.YtpngikmcjkjdaaaGreatDoorG40
import Derived.Test.YtpngikmcjkjdaaaGreatDoorG44
set_option linter.unusedVariables false
set_option linter.unusedSimpArgs false
set_option maxRecDepth 20000
set_option maxHeartbeats 80000000
namespace Go.Proofs.YtpngikmcjkjdaaaGreatDoor
open Go.RowKit Tryz
theorem BkAt.cur2 {W w1 w2:World}{d:Bk}(h:BkAt W d)(ht1:ab_ (fun k=>k=d.bx) W w1)(ht2:ab_ (fun k=>k=d.br) w1 w2):d.cur w2:=
 d.cst W w2 h.cu (fun k hm=>(ht2.block k (Nat.lt_of_lt_of_le (h.mo k hm).1 ht1.size) (h.mo k hm).2.2.2).trans (ht1.block k (h.mo k hm).1 (h.mo k hm).2.2.1))
theorem BkAt.cur1 {W w1:World}{d:Bk}(h:BkAt W d)(ht1:ab_ (fun k=>k=d.bx) W w1):d.cur w1:=
 d.cst W w1 h.cu (fun k hm=>ht1.block k (h.mo k hm).1 (h.mo k hm).2.2.1)
section
variable (Wo w:World) (bw:Nat) (vts vbs vtx:Value) (hs:List Hd) (ps:List Bk) (xs:List Value) (lab:Nat->Nat) (h:WbAt Wo w bw vts vbs vtx hs ps xs lab) (i:Nat) (hi:i<ps.length) (a b c d:Int) (s:ByteArray) (lo:Option Addr) (ll lc:Nat)
include h
theorem tt_:
 Calls prog 22 #[.pointer (some ⟨bw,0,none⟩),.agg #[.int .i64 18,.int .i64 a,.int .i64 b,.int .i64 c,.int .i64 d,.string s,.slice lo ll lc],.pointer (some ⟨ps[i].bp,0,none⟩)] w (bl_ Wo bw vts vbs hs ps xs.length lab w):=by
 obtain⟨W,hW,BW,hWs,b0⟩:=nw__ w #[.int .i64 18,.int .i64 a,.int .i64 b,.int .i64 c,.int .i64 d,.string s,.slice lo ll lc] 33;obtain⟨x0,x1,x2,x3,x4,x5,x6⟩:=bn_ b0;have hd:=(h.bks i hi).1;have hdW:=hd.below BW;obtain⟨p0,p1,_,_⟩:=aa_ hdW.pr;have HX:=yy_ W.drew ps[i].bx ps[i].n ps[i].t ps[i].c b hdW.px;have HY:∀w1,ab_ (fun k=>k=ps[i].bx) W w1->_:=fun w1 ht=>yz_ w1.drew ps[i].br ps[i].n ps[i].ry ps[i].t ps[i].c' b (hdW.stepX ht).2
 have hce:fl_ ps[i].c' b=fl_ ps[i].c b:=by unfold fl_;rw[n1_ (fun j hj=>(hd.cu j hj).op) b]
 rw[hce]at HY;have HPR:∀w1,ab_ (fun k=>k=ps[i].bx) W w1->w1.cell? ⟨ps[i].bp,1,none⟩=some (.pointer (some ⟨ps[i].br,0,none⟩))/\w1.cell? ⟨w.heap.size,2,none⟩=some (.int .i64 b)/\(w1.cell? ⟨ps[i].bp,0,none⟩=some (.pointer (some ⟨ps[i].bx,0,none⟩))/\∀w2,ab_ (fun k=>k=ps[i].br) w1 w2->w2.cell? ⟨ps[i].bp,1,none⟩=some (.pointer (some ⟨ps[i].br,0,none⟩))/\w2.cell? ⟨w.heap.size,2,none⟩=some (.int .i64 b)):=fun w1 ht=>by
  have e1:=(hdW.stepX ht).1;have l2:=hd.lt _ (.inr (.inl rfl));have l3:=hd.lt _ (.inr (.inr (.inl rfl)));have f1:=ht.heap b0 o_;obtain⟨q0,q1,_,_⟩:=aa_ e1;obtain⟨_,_,r2,_⟩:=bn_ f1;refine⟨q1,r2,q0,fun w2 ht2=> ?_⟩;obtain⟨_,u1,_,_⟩:=aa_ (ht2.heap e1 hdW.apart.2.1);obtain⟨_,_,u2,_⟩:=bn_ (ht2.heap f1 o_);exact⟨u1,u2⟩
 have HDONE:∀w1 w2,ab_ (fun k=>k=ps[i].bx) W w1->BxAt w1 ps[i].bx ps[i].t ps[i].n (cuv (ef_ ps[i].c b))->ab_ (fun k=>k=ps[i].br) w1 w2->ByAt w2 ps[i].br ps[i].ry ps[i].t ps[i].n (cuv (ef_ ps[i].c' b))->Hid (bl_ Wo bw vts vbs hs ps xs.length lab w (.returned (.bool true)) w2):=fun w1 w2 k1 k2 k3 k4=>by
  have hcl:=Bk.close (hdW.cur2 k1 k3) b;obtain⟨t1,t2,t3,t4⟩:=j2_ h hi BW (d':= {ps[i]with c:=ef_ ps[i].c b,c':=ef_ ps[i].c' b}) rfl k1 k2 k3 k4 hcl.1 (fun k hk=> .inl (hcl.2 k hk));obtain⟨lab',hw⟩:=h.book hi t1 t2 t3 (fun k hk=>(t4 k hk).imp id (fun e=>by have:=BW.size;omega));exact⟨rfl,dt_ t1 (fun k e=> .inr (by rw[e];omega)),vtx,_,xs,lab',hw,jm_ hi rfl,o_⟩
 obtain⟨dd,HDD⟩:∃x,Hid (ps[i]=x):=⟨ps[i],by unfold Hid;rfl⟩;rw[HDD.out]at HX HY HPR HDONE p0 p1 ⊢;generalize fl_ dd.c b=re at*;clear h hd hdW HDD hce;go_enter func22,ntmps22;go_upto_region 1 with fail;rw[<-hW];clear hW;go_upto_region 29 with fail;go_region_held3 (fun w'=>w'.cell? ⟨dd.bp,0,none⟩=some (.pointer (some ⟨dd.bx,0,none⟩))/\w'.cell? ⟨w.heap.size,2,none⟩=some (.int .i64 b)) (go_keep)
  ((go_at_call 54;refine HX.mono ?_;rintro e w1 ⟨rfl,hx1,ht1'⟩;have ht1:ab_ (fun k=>k=dd.bx) W w1:=⟨ht1'.os,ht1'.tape,ht1'.output,ht1'.size,ht1'.block⟩;have HY1:=HY w1 ht1;obtain⟨q1,q2,q0,HQ2⟩:=HPR w1 ht1;have HD1:=HDONE w1;have HX1:Hid (BxAt w1 dd.bx dd.t dd.n (cuv (ef_ dd.c b))):=hx1;have HT1:=hi__ ht1;clear HY HPR HDONE hx1 ht1 ht1'))
 all_goals go_upto_region 30 with fail
 all_goals go_region_held3 (fun w'=>w'.cell? ⟨dd.bp,1,none⟩=some (.pointer (some ⟨dd.br,0,none⟩))/\w'.cell? ⟨w.heap.size,2,none⟩=some (.int .i64 b)) (go_keep)
  ((go_at_call 55;refine HY1.mono ?_;rintro e w2 ⟨rfl,hy2,ht2'⟩;have ht2:ab_ (fun k=>k=dd.br) w1 w2:=⟨ht2'.os,ht2'.tape,ht2'.output,ht2'.size,ht2'.block⟩;obtain⟨s1,s2⟩:=HQ2 w2 ht2;have HF:=HD1 w2 HT1.out HX1.out ht2 hy2;clear HD1 hy2 ht2 HQ2 ht2'))
 all_goals go_wp2_with fail
 all_goals go_ret
 all_goals exact HF.out
theorem u0_ (hx:xs.length<=4398046511104)(h3:3<=bw)(ht:dh_ w):
 Calls prog 22 #[.pointer (some ⟨bw,0,none⟩),.agg #[.int .i64 17,.int .i64 a,.int .i64 b,.int .i64 c,.int .i64 d,.string s,.slice lo ll lc],.pointer (some ⟨ps[i].bp,0,none⟩)] w (bl_ Wo bw vts vbs hs ps xs.length lab w):=by
 obtain⟨W,hW,BW,hWs,b0⟩:=nw__ w #[.int .i64 17,.int .i64 a,.int .i64 b,.int .i64 c,.int .i64 d,.string s,.slice lo ll lc] 33;obtain⟨x0,x1,x2,x3,x4,x5,x6⟩:=bn_ b0;have hd:=(h.bks i hi).1;have hdW:=hd.below BW;obtain⟨p0,p1,_,_⟩:=aa_ hdW.pr;have hne:cn_ ps[i].c' b c=cn_ ps[i].c b c:=by unfold cn_;rw[n1_ (fun j hj=>(hd.cu j hj).op) b]
 by_cases hno:cn_ ps[i].c b c=0
 . have hop:opB ps[i].c b=true:=by
    cases hh:opB ps[i].c b with
    |true=>rfl
    |false=>simp[cn_,hh]at hno
   have hlim:1<=c/\c<=50:=by
    refine Classical.byContradiction fun hn=> ?_
    simp[cn_,hop,hn]at hno
   have hb4:0<=b/\b<4:=by
    refine Classical.byContradiction fun hn=> ?_
    rw[i3_ hn]at hop;cases hop
   obtain⟨m,rfl⟩:∃m:Nat,b=m:=⟨b.toNat,o_⟩;obtain⟨limit,rfl⟩:∃l:Nat,c=l:=⟨c.toNat,o_⟩;have hm:m<4:=o_;rw[ml_ _ hm]at hop;have hcu:=hdW.cu m hm;obtain⟨kM,kT,kT',⟨kA,kN⟩,kA',kN'⟩:=hcu.tab hop;have hop':(ps[i].c' m).op=true:=by rw[<-hcu.op];exact hop
   obtain⟨hcl,hcb⟩:=ts_ hcu.bg hcu.la (ps[i].M m) ps[i].t ps[i].n limit;have HX:=abu_ W.drew ps[i].bx ps[i].n m limit ps[i].t ps[i].c (ps[i].V m) (ps[i].M m) hdW.px hd.le hm hop o_ o_ hd.tun kA kN kM (kT.below (br__.drew));have HY:∀w1,ab_ (fun k=>k=ps[i].bx) W w1->_:=fun w1 ht=>ab7_ w1.drew ps[i].br ps[i].n m limit ps[i].ry ps[i].t ps[i].c' (ps[i].V' m) (ps[i].M m) (hdW.stepX ht).2 hd.le hm hop' o_ o_ hd.tun kA' kN' kM ((((hdW.cur1 ht) m hm).tab hop).2.2.1.below (br__.drew))
   rw[hcl,hcb]at HY;have hLl:(bx_ (ps[i].c m) (ps[i].M m) ps[i].t ps[i].n limit).length<=100000:=by
    unfold bx_;rw[List.length_take];omega
   generalize bx_ (ps[i].c m) (ps[i].M m) ps[i].t ps[i].n limit=L at*;generalize df_ (ps[i].c m) (ps[i].M m) ps[i].t ps[i].n limit=fb at*;have HPR:∀w1,ab_ (fun k=>k=ps[i].bx) W w1->w1.cell? ⟨ps[i].bp,1,none⟩=some (.pointer (some ⟨ps[i].br,0,none⟩))/\(w1.cell? ⟨w.heap.size,2,none⟩=some (.int .i64 (m:Int))/\w1.cell? ⟨w.heap.size,3,none⟩=some (.int .i64 (limit:Int)))/\(w1.cell? ⟨ps[i].bp,0,none⟩=some (.pointer (some ⟨ps[i].bx,0,none⟩))/\∀w2,ab_ (fun k=>k=ps[i].br) w1 w2->w2.cell? ⟨ps[i].bp,1,none⟩=some (.pointer (some ⟨ps[i].br,0,none⟩))/\w2.cell? ⟨w.heap.size,2,none⟩=some (.int .i64 (m:Int))/\w2.cell? ⟨w.heap.size,3,none⟩=some (.int .i64 (limit:Int))):=fun w1 ht=>by
    have e1:=(hdW.stepX ht).1;have l2:=hd.lt _ (.inr (.inl rfl));have l3:=hd.lt _ (.inr (.inr (.inl rfl)));have f1:=ht.heap b0 o_;obtain⟨q0,q1,_,_⟩:=aa_ e1;obtain⟨_,_,r2,r3,_⟩:=bn_ f1;refine⟨q1,⟨r2,r3⟩,q0,fun w2 ht2=> ?_⟩;obtain⟨_,u1,_,_⟩:=aa_ (ht2.heap e1 hdW.apart.2.1);obtain⟨_,_,u2,u3,_⟩:=bn_ (ht2.heap f1 o_);exact⟨u1,u2,u3⟩
   have HL:∀w1 w2 v u,ab_ (fun k=>k=ps[i].bx) W w1->w1.ownsRow W.heap.size 9 1 v L.length (strs L)->BxAt w1 ps[i].bx ps[i].t ps[i].n (cuv (dd_ ps[i].c m L))->ab_ (fun k=>k=ps[i].br) w1 w2->w2.ownsRow w1.heap.size 9 1 u L.length (strs L)->ByAt w2 ps[i].br ps[i].ry ps[i].t ps[i].n (cuv (dd_ ps[i].c' m L))->Calls prog 51 #[.pointer (some ⟨bw,0,none⟩),v,u] w2 (bl_ Wo bw vts vbs hs ps xs.length lab w):=fun w1 w2 v u k1 kv k2 k3 ku k4=>by
    have hnx:=Bk.next (hdW.cur2 k1 k3) m L;have s1:=k1.size;have s2:=k3.size;have s0:=BW.size;obtain⟨t1,t2,t3,t4⟩:=j2_ h hi BW (d':= {ps[i]with c:=dd_ ps[i].c m L,c':=dd_ ps[i].c' m L}) rfl k1 k2 k3 k4 hnx.1 (fun k hk=> .inl (hnx.2 k hk));obtain⟨Wv,v1,v2,v3,v4⟩:=(ft_ (dt_ k1 (S':=fun k=>k=ps[i].bx\/k=ps[i].br) (fun k e=> .inl e)) (dt_ k3 (fun k e=> .inr e)):ab_ (fun k=>k=ps[i].bx\/k=ps[i].br) W w2).cut;have hlab:=(h.bks i hi).2;have hTv:ab_ (fun k=>lab k=3+2*i) w Wv:=ft_ (cy_ BW) (dt_ v1 (fun k e=>by
     rcases e with e|e
     . rw[e];exact hlab _ (.inr (.inl rfl))
     . rw[e];exact hlab _ (.inr (.inr (.inl rfl)))))
    have hfoot:∀k,({ps[i]with c:=dd_ ps[i].c m L,c':=dd_ ps[i].c' m L}:Bk).foot k->ps[i].foot k:=fun k hk=>by
     rcases hk with e|e|e|e|e
     . exact .inl e
     . exact .inr (.inl e)
     . exact .inr (.inr (.inl e))
     . exact .inr (.inr (.inr (.inl e)))
     . exact .inr (.inr (.inr (.inr (hnx.2 k e))))
    have hdv:BkAt Wv {ps[i]with c:=dd_ ps[i].c m L,c':=dd_ ps[i].c' m L}:=t2.keep (fun k hk=>v4 k (hdW.lt k (hfoot k hk)));obtain⟨lab',hw,hl'⟩:=h.bookL hi hTv hdv rfl (fun k hk=> .inl (hlab k (hfoot k hk)));have htv:dh_ Wv:=ht.touch hTv (fun k e=>by
     have:=(h.out k (by rw[e];omega)).1;omega) (by have:=ac_ h.wd.blk;omega)
    have kv2:w2.ownsRow Wv.heap.size 9 1 v L.length (strs L):=by
     rw[v3];exact gi_ kv (hdW.stepX k1).2.1 k3
    have ku2:w2.ownsRow Wv.heap.size 9 1 u L.length (strs L):=by
     rw[v3];exact acw_ ku s1
    have fin:∀e w',(e= .returned (.bool true)/\ab_ (fun k=>k=bw\/lab' k≠0) Wv w'/\∃vtx' x lab'',WbAt Wo w' bw vts vbs vtx' hs (ps.set i {ps[i]with c:=dd_ ps[i].c m L,c':=dd_ ps[i].c' m L}) (xs++ [x]) lab'')->bl_ Wo bw vts vbs hs ps xs.length lab w e w':=by
     rintro e w' ⟨rfl,hT,vtx',x,lab'',hw'⟩;refine⟨rfl,⟨hT.os.trans hTv.os,hT.tape.trans hTv.tape,hT.output.trans hTv.output,Nat.le_trans hTv.size hT.size,fun k hk hn=> ?_⟩,vtx',_,xs++ [x],lab'',hw',jm_ hi rfl,i_⟩;have n1:k≠bw:=fun e=>hn (.inl e)
     have n2:lab k=0:=Classical.byContradiction fun e=>hn (.inr e)
     have n3:lab' k=0:=Classical.byContradiction fun e=>by
      rcases hl' k e with e|e
      . exact e n2
      . omega
     exact(hT.block k (by rw[v3];omega) (fun e=>e.elim n1 (fun e=>e n3))).trans (hTv.block k hk (by rw[n2];omega))
    by_cases hvn:v= .slice none 0 0
    . subst hvn;have hL0:L=[]:=by
       rcases kv.2 with ⟨_,e⟩|⟨g,cap,cur,e,_⟩
       . exact List.length_eq_zero_iff.1 e
       . simp at e
      subst hL0;exact(ac0_ Wo Wv w2 bw vts vbs vtx hs _ xs lab' hw v2 hx u ku2).mono fin
    . exact(z4_ Wo Wv w2 bw vts vbs vtx hs _ xs lab' hw v2 hx h3 htv L hLl v u hvn kv2 ku2).mono fin
   obtain⟨dd,HDD⟩:∃x,Hid (ps[i]=x):=⟨ps[i],by unfold Hid;rfl⟩;rw[HDD.out]at HX HY HPR HL p0 p1 ⊢;have e1:(fb==fb)=true:=by cases fb<;>rfl
   clear h hd hdW HDD hne hno ht hcu kM kT kT' kA kN kA' kN' hop hop' hcl hcb hLl;go_enter func22,ntmps22;go_upto_region 1 with fail;rw[<-hW];clear hW;go_upto_region 22 with fail;go_region_held3 (fun w'=>w'.cell? ⟨dd.bp,0,none⟩=some (.pointer (some ⟨dd.bx,0,none⟩))/\w'.cell? ⟨w.heap.size,2,none⟩=some (.int .i64 (m:Int))/\w'.cell? ⟨w.heap.size,3,none⟩=some (.int .i64 (limit:Int))) (go_keep)
    ((go_at_call 52;refine HX.mono ?_;rintro e w1 ⟨v,rfl,hv1,hx1,ht1'⟩;have ht1:ab_ (fun k=>k=dd.bx) W w1:=⟨ht1'.os,ht1'.tape,ht1'.output,ht1'.size,ht1'.block⟩;have HY1:=HY w1 ht1;obtain⟨q1,⟨q2,q3⟩,q0,HQ2⟩:=HPR w1 ht1;have HL1:=fun w2 u=>HL w1 w2 v u ht1 hv1 hx1;clear HY HPR HL hx1 ht1 ht1' hv1))
   all_goals go_upto_region 23 with fail
   all_goals go_region_held3 (fun w'=>w'.cell? ⟨dd.bp,1,none⟩=some (.pointer (some ⟨dd.br,0,none⟩))/\w'.cell? ⟨w.heap.size,2,none⟩=some (.int .i64 (m:Int))/\w'.cell? ⟨w.heap.size,3,none⟩=some (.int .i64 (limit:Int))) (go_keep)
    ((go_at_call 53;refine HY1.mono ?_;rintro e w2 ⟨u,rfl,hu2,hy2,ht2'⟩;have ht2:ab_ (fun k=>k=dd.br) w1 w2:=⟨ht2'.os,ht2'.tape,ht2'.output,ht2'.size,ht2'.block⟩;obtain⟨s1,s2,s3⟩:=HQ2 w2 ht2;have HL2:=HL1 w2 u ht2 hu2 hy2;clear HL1 hy2 ht2 HQ2 ht2' hu2))
   all_goals go_wp2_with (go_at_call 51;refine HL2.mono ?_;rintro e w3 hP;have HP:Hid (bl_ Wo bw vts vbs hs ps xs.length lab w e w3):=hP;obtain rfl:e= .returned (.bool true):=hP.1;clear hP)
   all_goals go_ret
   all_goals exact HP.out
 . have HX:=abt_ W.drew ps[i].bx ps[i].n ps[i].t ps[i].c b c hdW.px hno;have HY:=abx_ W.drew.drew ps[i].br ps[i].n ps[i].ry ps[i].t ps[i].c' b c hdW.py (by rw[hne];exact hno);rw[hne]at HY;have HF:Hid (∀w2,Below w.heap.size w w2->bl_ Wo bw vts vbs hs ps xs.length lab w (.returned (.bool true)) w2):=fun w2 hb=>hm_ h hb
   obtain⟨dd,HDD⟩:∃x,Hid (ps[i]=x):=⟨ps[i],by unfold Hid;rfl⟩;rw[HDD.out]at HX HY p0 p1 hno ⊢;generalize cn_ dd.c b c=re at*;have e1:(re==0)=false:=by simpa using hno
   have z1:=xd_ underlying56 W.drew.drew;clear h hd hdW HDD hne ht;go_enter func22,ntmps22;go_upto_region 1 with fail;rw[<-hW];clear hW;go_upto_region 22 with fail;go_region_held3 (fun w'=>w'.cell? ⟨dd.bp,0,none⟩=some (.pointer (some ⟨dd.bx,0,none⟩))/\w'.cell? ⟨w.heap.size,2,none⟩=some (.int .i64 b)/\w'.cell? ⟨w.heap.size,3,none⟩=some (.int .i64 c)) (go_keep)
    ((go_at_call 52;refine HX.mono ?_;rintro e w1 ⟨rfl,hw1⟩;obtain rfl:W.drew=w1:=hw1.symm))
   all_goals go_upto_region 23 with fail
   all_goals go_region_held3 (fun w'=>w'.cell? ⟨dd.bp,1,none⟩=some (.pointer (some ⟨dd.br,0,none⟩))/\w'.cell? ⟨w.heap.size,2,none⟩=some (.int .i64 b)/\w'.cell? ⟨w.heap.size,3,none⟩=some (.int .i64 c)) (go_keep)
    ((go_at_call 53;refine HY.mono ?_;rintro e w2 ⟨rfl,hw2⟩;obtain rfl:W.drew.drew=w2:=hw2.symm))
   all_goals go_wp2_with fail
   all_goals go_ret
   all_goals exact HF.out _ BW.drew.drew
end
theorem Lay.Has.from {V:Lay}{n k N:Nat}(h:V.Has n k)(hF:V.From N n):N<=k:=by
 rcases h with rfl|rfl|⟨i,hi,rfl⟩
 . exact hF.a
 . exact hF.b
 . exact hF.r i hi
def upk {α:Type}(f:Nat->α)(k:Nat)(x:α):Nat->α:=fun i=>if i=k then x else f i
theorem kc_ {α:Type}(f:Nat->α)(k:Nat)(x:α):upk f k x k=x:=if_pos rfl
theorem kd_ {α:Type}(f:Nat->α){k i:Nat}(x:α)(h:i≠k):upk f k x i=f i:=if_neg h
def Bk.opened (d:Bk)(k:Nat)(U U':Lay)(M:Tab):Bk:= {d with c:=b3_ d.c k (cq_ U M.n),c':=b3_ d.c' k (cq_ U' M.n),V:=upk d.V k U,V':=upk d.V' k U',M:=upk d.M k M}
theorem Bk.open_ {d:Bk}{w:World}(h:d.cur w)(k:Nat)(U U':Lay)(M:Tab)(hM:M.Ok)(hU:av_ w U M)(hU':av_ w U' M){N:Nat}(hF:U.From N M.n)(hF':U'.From N M.n):
 (d.opened k U U' M).cur w/\∀j,(d.opened k U U' M).more j->d.more j\/(N<=j/\j<w.heap.size):=by
 refine⟨fun i hi=> ?_,fun j ⟨i,hi,ho,hj⟩=> ?_⟩
 . show jl_ w (b3_ d.c k (cq_ U M.n) i) (b3_ d.c' k (cq_ U' M.n) i) (upk d.V k U i) (upk d.V' k U' i) (upk d.M k M i)
   by_cases e:i=k
   . subst e;rw[ga_,ga_,kc_,kc_,kc_];exact⟨rfl,rfl,rfl,fun _=>⟨hM,hU,hU',⟨rfl,rfl⟩,rfl,rfl⟩⟩
   . rw[fi_ _ _ e,fi_ _ _ e,kd_ _ _ e,kd_ _ _ e,kd_ _ _ e];exact h i hi
 . have ho':(b3_ d.c k (cq_ U M.n) i).op=true:=ho;have hj':(upk d.V k U i).Has (upk d.M k M i).n j\/(upk d.V' k U' i).Has (upk d.M k M i).n j:=hj;by_cases e:i=k
   . subst e;rw[kc_,kc_,kc_]at hj';right;rcases hj' with hh|hh
     . exact⟨hh.from hF,hU.has_lt hM hh⟩
     . exact⟨hh.from hF',hU'.has_lt hM hh⟩
   . rw[fi_ _ _ e]at ho';rw[kd_ _ _ e,kd_ _ _ e,kd_ _ _ e]at hj';exact .inl ⟨i,hi,ho',hj'⟩
theorem xm_ {c c':Nat->Cu}(h:∀i,i<4->(c i).op=(c' i).op):cb_ c'=cb_ c:=by
 unfold cb_;rw[h 0 o_,h 1 o_,h 2 o_,h 3 o_]
def rh_ (d:Bk)(rn re:Int)(Q:World->World->Prop)(v:Value)(wj:World):Prop:=Calls prog 56 #[.pointer (some ⟨d.bx,0,none⟩),v] wj fun e w1=>e= .returned (.tuple #[.int .i64 rn,.int .i64 re])/\ab_ (fun k=>k=d.bx) wj w1/\Q wj w1
def o3_ (d:Bk)(rn re:Int)(Q:World->World->Prop)(v:Value)(wj:World):Prop:=Calls prog 57 #[.pointer (some ⟨d.br,0,none⟩),v] wj fun e w1=>e= .returned (.tuple #[.int .i64 rn,.int .i64 re])/\ab_ (fun k=>k=d.br) wj w1/\Q wj w1
theorem ac1_ {Wo w:World}{bw:Nat}{vts vbs vtx:Value}{hs:List Hd}{ps:List Bk}{xs:List Value}{lab:Nat->Nat}(h:WbAt Wo w bw vts vbs vtx hs ps xs lab){i:Nat}(hi:i<ps.length)(t:TL)(A:Nat->Bool)(X:Nat->Nat->Int):
 ∃rn re QX QY,(∀wj,BkAt wj ps[i]->TLAt wj t A X->rh_ ps[i] rn re QX t.val wj)/\
  (∀wj,ByAt wj ps[i].br ps[i].ry ps[i].t ps[i].n (cuv ps[i].c')->∀r:RLay,cz_ wj r A X->r.na=t.na->r.nn=t.nn->r.rl=t.rl->o3_ ps[i] rn re QY r.val wj)/\
  ∀W w1 w2,Below w.heap.size w W->ab_ (fun k=>k=ps[i].bx) W w1->QX W w1->ab_ (fun k=>k=ps[i].br) w1.drew w2->QY w1.drew w2->bl_ Wo bw vts vbs hs ps xs.length lab w (.returned (.bool true)) w2:=by
 have hcu:=(h.bks i hi).1.cu;have hfr:=xm_ (fun j hj=>(hcu j hj).op);cases hok:c0_ t.lay X with
 |false=>
  refine⟨0,6,fun a b=>Below a.heap.size a b,fun a b=>Below a.heap.size a b,fun wj hb ht=> ?_,fun wj hy r hr e1 e2 e3=> ?_,fun W w1 w2 BW k1 q1 k2 q2=> ?_⟩
  . exact(abv_ t.lay A X wj ps[i].bx ht.raw hok).mono (fun e w1 ⟨he,hb1⟩=>⟨he,cy_ hb1,hb1⟩)
  . exact(aby_ r A X wj ps[i].br hr ((jz_ (r:=r) (r':=t.lay) e1 e2 e3).trans hok)).mono (fun e w1 ⟨he,hb1⟩=>⟨he,cy_ hb1,hb1⟩)
  . have q2':Below w1.heap.size w1 w2:=⟨q2.os,q2.tape,q2.output,q2.size,q2.block⟩;exact hm_ h ((BW.trans (q1.mono BW.size)).trans (q2'.mono (by have:=BW.size;have:=q1.size;omega)))
 |true=>
  have hM:=pt_ (A:=A) hok;by_cases hf:cb_ ps[i].c=4
  . refine⟨0,9,fun a b=>Below a.heap.size a b,fun a b=>Below a.heap.size a b,fun wj hb ht=> ?_,fun wj hy r hr e1 e2 e3=> ?_,fun W w1 w2 BW k1 q1 k2 q2=> ?_⟩
    . obtain⟨V,hv,hV⟩:=i6_ ht.raw hok;unfold rh_;rw[show t.val=t.lay.val from rfl,hv];exact(wk_ V _ wj ps[i].bx ps[i].n ps[i].t ps[i].c hM hV hb.px hf).mono (fun e w1 ⟨he,hb1⟩=>⟨he,cy_ hb1,hb1⟩)
    . have hok2:=(jz_ (r:=r) (r':=t.lay) (X:=X) e1 e2 e3).trans hok;obtain⟨V,hv,hV⟩:=i6_ hr hok2;unfold o3_;rw[hv];exact(wm_ V _ wj ps[i].br ps[i].n ps[i].ry ps[i].t ps[i].c' (pt_ hok2) hV hy (by rw[hfr];exact hf)).mono (fun e w1 ⟨he,hb1⟩=>⟨he,cy_ hb1,hb1⟩)
    . have q2':Below w1.heap.size w1 w2:=⟨q2.os,q2.tape,q2.output,q2.size,q2.block⟩;exact hm_ h ((BW.trans (q1.mono BW.size)).trans (q2'.mono (by have:=BW.size;have:=q1.size;omega)))
  . have hf4:cb_ ps[i].c<4:=by have:=su_ ps[i].c;omega
    refine⟨(cb_ ps[i].c:Int),0,fun a b=>∃U:Lay,av_ b U (db_ t.lay A X)/\U.From a.heap.size (db_ t.lay A X).n/\BxAt b ps[i].bx ps[i].t ps[i].n (cuv (b3_ ps[i].c (cb_ ps[i].c) (cq_ U (db_ t.lay A X).n))),fun a b=>∃U:Lay,av_ b U (db_ t.lay A X)/\U.From a.heap.size (db_ t.lay A X).n/\ByAt b ps[i].br ps[i].ry ps[i].t ps[i].n (cuv (b3_ ps[i].c' (cb_ ps[i].c) (cq_ U (db_ t.lay A X).n))),fun wj hb ht=> ?_,fun wj hy r hr e1 e2 e3=> ?_,fun W w1 w2 BW k1 q1 k2 q2=> ?_⟩
    . obtain⟨V,hv,hV⟩:=i6_ ht.raw hok;unfold rh_;rw[show t.val=t.lay.val from rfl,hv];exact(abw_ V _ wj ps[i].bx ps[i].n ps[i].t ps[i].c hM hV hb.px hf4).mono (fun e w1 ⟨U,he,h1,h2,h3,h4⟩=>⟨he,h4,U,h1,h2,h3⟩)
    . have hok2:=(jz_ (r:=r) (r':=t.lay) (X:=X) e1 e2 e3).trans hok;obtain⟨V,hv,hV⟩:=i6_ hr hok2;have e4:db_ r A X=db_ t.lay A X:=s6_ e2;unfold o3_;rw[hv];rw[e4]at hV ⊢;have:=abz_ V _ wj ps[i].br ps[i].n ps[i].ry ps[i].t ps[i].c' hM hV hy (by rw[hfr];exact hf4);rw[hfr]at this;exact this.mono (fun e w1 ⟨U,he,h1,h2,h3,h4⟩=>⟨he,h4,U,h1,h2,h3⟩)
    . obtain⟨U,u1,u2,u3⟩:=q1;obtain⟨U',v1,v2,v3⟩:=q2;have k2:ab_ (fun k=>k=ps[i].br) w1 w2:=⟨k2.os,k2.tape,k2.output,k2.size,k2.block⟩;have v2:U'.From w1.heap.size (db_ t.lay A X).n:=v2;have hdW:=(h.bks i hi).1.below BW;have s1:=k1.size;have hbr:=hdW.lt _ (.inr (.inr (.inl rfl)));have hop:=Bk.open_ (hdW.cur2 k1 k2) (cb_ ps[i].c) U U' (db_ t.lay A X) hM (u1.touch1 u2 k2 hbr) v1 (N:=W.heap.size) u2 ⟨Nat.le_trans s1 v2.a,Nat.le_trans s1 v2.b,fun j hj=>Nat.le_trans s1 (v2.r j hj)⟩;obtain⟨t1,t2,t3,t4⟩:=j2_ h hi BW (d':=ps[i].opened (cb_ ps[i].c) U U' (db_ t.lay A X)) rfl k1 u3 k2 v3 hop.1 hop.2;obtain⟨lab',hw⟩:=h.book hi t1 t2 t3 (fun k hk=>(t4 k hk).imp id (fun e=>by have:=BW.size;omega));exact⟨rfl,dt_ t1 (fun k e=> .inr (by rw[e];omega)),vtx,_,xs,lab',hw,jm_ hi rfl,o_⟩
theorem le_ {w w':World}{b t n:Nat}{f:Nat->Value}(h:ar_ w b t n f)(hk:w'.heap[b]? =w.heap[b]?):ar_ w' b t n f:=by
 obtain⟨c,h1,h2⟩:=h;exact⟨c,by rw[hk];exact h1,h2⟩
theorem n2_ {w:World}{b t n:Nat}{f:Nat->Value}(h:ar_ w b t n f):b<w.heap.size:=by
 obtain⟨c,h1,h2⟩:=h;exact ac_ h1
theorem hv_.keep {N:Nat}{w w':World}{ga gn:Nat}{rb rc:Nat->Nat}{na nn:Nat}{rl:Nat->Nat}{A:Nat->Bool}{X:Nat->Nat->Int}(h:hv_ N w ga gn rb rc na nn rl A X)(hk:∀k,N<=k->k<w.heap.size->w'.heap[k]? =w.heap[k]?):hv_ N w' ga gn rb rc na nn rl A X:=
 ⟨fun h0=>⟨(h.acc h0).1,le_ (h.acc h0).2 (hk _ (h.acc h0).1 (n2_ (h.acc h0).2))⟩,fun h0=>⟨(h.nxt h0).1,le_ (h.nxt h0).2 (hk _ (h.nxt h0).1 (n2_ (h.nxt h0).2))⟩,fun j h1 h2=>⟨(h.row j h1 h2).1,le_ (h.row j h1 h2).2 (hk _ (h.row j h1 h2).1 (n2_ (h.row j h1 h2).2))⟩,h.dis⟩
theorem u1_ (Wo w:World)(bw:Nat)(vts vbs vtx:Value)(hs:List Hd)(ps:List Bk)(xs:List Value)(lab:Nat->Nat)(h:WbAt Wo w bw vts vbs vtx hs ps xs lab)(i:Nat)(hi:i<ps.length)(a b c d:Int)(s:ByteArray)(lo:Option Addr)(ll lc:Nat)(hn:hs.length<=4398046511104)(hb: -9223372036854775808<=b/\b<=9223372036854775807):
 Calls prog 22 #[.pointer (some ⟨bw,0,none⟩),.agg #[.int .i64 16,.int .i64 a,.int .i64 b,.int .i64 c,.int .i64 d,.string s,.slice lo ll lc],.pointer (some ⟨ps[i].bp,0,none⟩)] w (bl_ Wo bw vts vbs hs ps xs.length lab w):=by
 obtain⟨W,hW,BW,hWs,b0⟩:=nw__ w #[.int .i64 16,.int .i64 a,.int .i64 b,.int .i64 c,.int .i64 d,.string s,.slice lo ll lc] 33;obtain⟨x0,x1,x2,x3,x4,x5,x6⟩:=bn_ b0;have h1:=h.below BW;obtain⟨y0,y1,y2,y3⟩:=b2_ h1.wd.blk;obtain⟨al,cl,hvts,hal⟩:=af_ h1.wd.own;rw[hvts]at y0;have HSM:Hid (∀w2,Below w.heap.size w w2->bl_ Wo bw vts vbs hs ps xs.length lab w (.returned (.bool true)) w2):=fun w2 hb=>hm_ h hb
 by_cases h0:hs.length=0
 . rw[h0]at y0;clear h h1 hal;go_enter func22,ntmps22;go_upto_region 1 with fail;rw[<-hW];clear hW;go_wp2_with fail;go_ret;exact HSM.out W BW
 . obtain⟨gl,rfl,hcl⟩:=hal o_;obtain⟨pi,HPI⟩:=hx__ (ex_ b hs.length);have hpi:pi<hs.length:=by rw[<-HPI.out];exact f6_ _ _ o_
   have HP:∀wj,Calls prog 16 #[.int .i64 b,.int .i64 (hs.length:Int)] wj fun e w'=>e= .returned (.int .i64 (pi:Int))/\w'=wj:=fun wj=>by
    have:=gq_ b hs.length wj o_ o_ hb.1 hb.2;rw[Int.toNat_natCast,HPI.out]at this;exact this
   have z0:=(hcl pi o_).trans (kb_ hs pi hpi);have hd:=h1.wd.hds _ (List.getElem_mem hpi);obtain⟨dd,HDD⟩:∃x,Hid (hs[pi]=x):=⟨hs[pi],by unfold Hid;rfl⟩;rw[HDD.out]at z0 hd;obtain⟨u0,u1,_,_⟩:=f5_ hd.blk;have htl:=hd.tl;obtain⟨rn,re,QX,QY,OX,OY,OZ⟩:=ac1_ h hi dd.t dd.A dd.X;have HBK:Hid (∀wj,Below w.heap.size w wj->BkAt wj ps[i]):=fun wj hj=>(h.bks i hi).1.below hj
   have HLT:Hid (∀k,ps[i].foot k->k<w.heap.size):=fun k hk=>(h.bks i hi).1.lt k hk
   have HST:Hid (∀W w1,BkAt W ps[i]->ab_ (fun k=>k=ps[i].bx) W w1->w1.cell? ⟨ps[i].bp,1,none⟩=some (.pointer (some ⟨ps[i].br,0,none⟩))/\w1.cell? ⟨ps[i].bp,0,none⟩=some (.pointer (some ⟨ps[i].bx,0,none⟩))/\ByAt w1 ps[i].br ps[i].ry ps[i].t ps[i].n (cuv ps[i].c')/\∀w2,ab_ (fun k=>k=ps[i].br) w1 w2->w2.cell? ⟨ps[i].bp,1,none⟩=some (.pointer (some ⟨ps[i].br,0,none⟩))):=fun W w1 hb1 ht=>by
    obtain⟨e1,e2⟩:=hb1.stepX ht;obtain⟨q0,q1,_,_⟩:=aa_ e1;refine⟨q1,q0,e2,fun w2 ht2=> ?_⟩;obtain⟨_,u1,_,_⟩:=aa_ (ht2.heap e1 hb1.apart.2.1);exact u1
   have HP0:Hid (∀wj,BkAt wj ps[i]->wj.cell? ⟨ps[i].bp,0,none⟩=some (.pointer (some ⟨ps[i].bx,0,none⟩))/\wj.cell? ⟨ps[i].bp,1,none⟩=some (.pointer (some ⟨ps[i].br,0,none⟩))):=fun wj hj=>by
    obtain⟨q0,q1,_,_⟩:=aa_ hj.pr;exact⟨q0,q1⟩
   obtain⟨pd,HPD⟩:∃x,Hid (ps[i]=x):=⟨ps[i],by unfold Hid;rfl⟩;rw[HPD.out]at OX OY OZ HBK HLT HST HP0 ⊢;have HOX:Hid _:=OX;have HOY:Hid _:=OY;have HOZ:Hid _:=OZ;have HTL:Hid (TLAt W dd.t dd.A dd.X):=htl;have g1:=htl.na;have g2:=htl.ca;have g4:=htl.nn;have g5:=htl.cn;have hbl:∀j,j<dd.t.nn->dd.t.rl j<=1000000:=fun j hj=>by have:=htl.rl j o_;have:=htl.rc j o_;omega
   have hne:((hs.length:Int)==0)=false:=by rw[beq_eq_false_iff_ne];omega
   have hgt2:(pi:Int)<(hs.length:Int):=o_;have n1:=World.new_ne W _ (show W.cell? ⟨bw,0,none⟩=_ from y0);have n2:=World.new_ne W _ (show W.cell? ⟨w.heap.size,2,none⟩=_ from x2);have n3:=World.new_ne W _ (show W.cell? ⟨gl,pi,none⟩=_ from z0);have n4:=World.new_ne W _ (show W.cell? ⟨dd.bh,0,none⟩=_ from u0);have n5:=World.new_ne W _ (show W.cell? ⟨dd.bh,1,none⟩=_ from u1);clear h h1 hcl hal hd htl OX OY OZ HDD HPI HPD;go_enter func22,ntmps22;go_upto_region 1 with fail;rw[<-hW];clear hW;go_upto_region 34 with fail;go_region_held3 (fun w'=>w'.cell? ⟨bw,0,none⟩=some (.slice (some ⟨gl,0,none⟩) hs.length cl)/\w'.cell? ⟨w.heap.size,2,none⟩=some (.int .i64 b)/\w'.cell? ⟨gl,pi,none⟩=some (.pointer (some ⟨dd.bh,0,none⟩))/\w'.cell? ⟨dd.bh,0,none⟩=some (.slice (some ⟨dd.t.ba,0,none⟩) dd.t.na dd.t.ca)/\w'.cell? ⟨dd.bh,1,none⟩=some (.slice (some ⟨dd.t.bn,0,none⟩) dd.t.nn dd.t.cn)) (go_keep)
    ((go_at_call 16;refine(HP _).mono ?_;rintro e w' ⟨rfl,hw'⟩;subst hw'))
   all_goals go_upto_region 35 with fail
   all_goals
    first
     |obtain⟨W1,hW1⟩:=ew__ ((W.alloc (.cells #[.slice (some ⟨dd.t.ba,0,none⟩) dd.t.na dd.t.ca,.slice (some ⟨dd.t.bn,0,none⟩) dd.t.nn dd.t.cn] 41)).drew)
    have B1:Below W.heap.size W W1:=by rw[hW1];exact ba__.drew
    have s1:W1.heap.size=W.heap.size+1:=by rw[hW1];exact World.size_alloc _ _
    have e1:W1.heap[W.heap.size]? =some (.cells #[.slice (some ⟨dd.t.ba,0,none⟩) dd.t.na dd.t.ca,.slice (some ⟨dd.t.bn,0,none⟩) dd.t.nn dd.t.cn] 41 (0,0)):=by rw[hW1];exact ag_ rfl
    first
     |rw[<-hW1]
     |(change Code.wp _ _ _ _ (W.alloc (.cells #[.slice (some ⟨dd.t.ba,0,none⟩) dd.t.na dd.t.ca,.slice (some ⟨dd.t.bn,0,none⟩) dd.t.nn dd.t.cn] 41)).drew;rw[<-hW1])
    clear hW1 n1 n2 n3 n4 n5 y0 y1 y2 y3 z0 u0 u1 x0 x1 x2 x3 x4 x5 x6;have B01:Below w.heap.size w W1:=BW.trans (B1.mono o_);have hT1:=HTL.out.below B1;have HC:=qf_ _ _ _ _ _ _ _ _ _ dd.A dd.X W1 hT1.raw (by show dd.t.na<=_;omega) (by show dd.t.nn<=_;omega) (fun j hj=>by have:=hbl j hj;show dd.t.rl j<=_;omega);obtain⟨f0,f1,_,_⟩:=aa_ e1;go_wp2_with fail;refine Calls.mono HC ?_;clear HC;rintro e w2 ⟨hB2,ga,ca',gn,cn',rb,rc,rfl,hC⟩;have s2:=hB2.size;rw[vl_,vl_];have HR:Hid (∀w',(∀k,W1.heap.size<=k->k<w2.heap.size->w'.heap[k]? =w2.heap[k]?)->cz_ w' ⟨if dd.t.na=0 then none else some ⟨ga,0,none⟩,if dd.t.nn=0 then none else some ⟨gn,0,none⟩,dd.t.na,if dd.t.na=0 then 0 else ca',dd.t.nn,if dd.t.nn=0 then 0 else cn',fun i=>if dd.t.rl i=0 then none else some ⟨rb i,0,none⟩,dd.t.rl,fun i=>if dd.t.rl i=0 then 0 else rc i⟩ dd.A dd.X):=fun w' hk=>(hC.keep hk).raw ca' cn' (by show dd.t.na<=_;omega) (by show dd.t.nn<=_;omega) (fun j hj=>by have:=hbl j hj;show dd.t.rl j<=_;omega)
    clear hC f0 f1;generalize (if dd.t.na=0 then none else some (⟨ga,0,none⟩:Addr))=ma at HR ⊢;generalize (if dd.t.nn=0 then none else some (⟨gn,0,none⟩:Addr))=mn at HR ⊢;generalize (if dd.t.na=0 then 0 else ca')=mca at HR ⊢;generalize (if dd.t.nn=0 then 0 else cn')=mcn at HR ⊢;go_upto_region 36 with fail;obtain⟨W2,hW2,B2,-,-⟩:=nw__ w2 #[.slice ma dd.t.na mca,.slice mn dd.t.nn mcn] 41;have s3:W2.heap.size=w2.heap.size+1:=by rw[hW2];exact World.size_alloc _ _
    have e2:=hn__ hW2;rw[<-hW2];clear hW2;have B12:Below W1.heap.size W1 W2:=hB2.trans (B2.mono s2);have e1':=(B12.block _ o_).trans e1;have B02:Below w.heap.size w W2:=B01.trans (B12.mono (by have:=BW.size;omega));have B02d:Below w.heap.size w W2.drew:=B02.drew;have hbk:=HBK.out W2.drew B02d;obtain⟨p0,p1⟩:=HP0.out W2 (HBK.out W2 B02);obtain⟨f0,f1,_,_⟩:=aa_ e1';obtain⟨g0,g1,_,_⟩:=aa_ e2;have HX:=HOX.out W2.drew hbk ((hT1.below B12).below (br__.drew));unfold rh_ TL.val at HX;have hlx:=HLT.out _ (.inr (.inl rfl));have hlr:=HLT.out _ (.inr (.inr (.inl rfl)));have s0:=BW.size;have HNX:Hid (∀w3,ab_ (fun k=>k=pd.bx) W2.drew w3->(w3.cell? ⟨pd.bp,0,none⟩=some (.pointer (some ⟨pd.bx,0,none⟩))/\w3.cell? ⟨W.heap.size,0,none⟩=some (.slice (some ⟨dd.t.ba,0,none⟩) dd.t.na dd.t.ca)/\w3.cell? ⟨W.heap.size,1,none⟩=some (.slice (some ⟨dd.t.bn,0,none⟩) dd.t.nn dd.t.cn))/\(w3.cell? ⟨pd.bp,1,none⟩=some (.pointer (some ⟨pd.br,0,none⟩))/\w3.cell? ⟨w2.heap.size,0,none⟩=some (.slice ma dd.t.na mca)/\w3.cell? ⟨w2.heap.size,1,none⟩=some (.slice mn dd.t.nn mcn))/\o3_ pd rn re QY (.agg #[.slice ma dd.t.na mca,.slice mn dd.t.nn mcn]) w3.drew/\∀w4,ab_ (fun k=>k=pd.br) w3.drew w4->w4.cell? ⟨pd.bp,1,none⟩=some (.pointer (some ⟨pd.br,0,none⟩))/\w4.cell? ⟨w2.heap.size,0,none⟩=some (.slice ma dd.t.na mca)/\w4.cell? ⟨w2.heap.size,1,none⟩=some (.slice mn dd.t.nn mcn)):=fun w3 ht=>by
     obtain⟨r1,r0,ry,rz⟩:=HST.out W2.drew w3 hbk ht;have f2:=ht.heap (show W2.drew.heap[W.heap.size]? =_ from e1') o_;have f3:=ht.heap (show W2.drew.heap[w2.heap.size]? =_ from e2) o_;obtain⟨k0,k1,_,_⟩:=aa_ f2;obtain⟨l0,l1,_,_⟩:=aa_ f3;refine⟨⟨r0,k0,k1⟩,⟨r1,l0,l1⟩, ?_,fun w4 ht4=> ?_⟩
     . have hr:=HR.out w3.drew (fun k hk1 hk2=>(ht.block k (by show k<W2.heap.size;omega) o_).trans (B2.block k hk2));have hy:=HOY.out w3.drew (ry.below (br__.drew)) _ hr rfl rfl rfl;exact hy
     . have ht4':ab_ (fun k=>k=pd.br) w3 w4:=⟨ht4.os,ht4.tape,ht4.output,ht4.size,ht4.block⟩;obtain⟨m0,m1,_,_⟩:=aa_ (ht4'.heap f3 o_);exact⟨rz w4 ht4',m0,m1⟩
    have HZ:Hid (∀w3 w4,ab_ (fun k=>k=pd.bx) W2.drew w3->QX W2.drew w3->ab_ (fun k=>k=pd.br) w3.drew w4->QY w3.drew w4->bl_ Wo bw vts vbs hs ps xs.length lab w (.returned (.bool true)) w4):=fun w3 w4 k1 k2 k3 k4=>HOZ.out W2.drew w3 w4 B02d k1 k2 k3 k4
    clear hbk HOX HOY HOZ HR HST HBK HLT HP0 HTL hT1 hbl;go_region_held3 (fun w'=>w'.cell? ⟨pd.bp,0,none⟩=some (.pointer (some ⟨pd.bx,0,none⟩))/\w'.cell? ⟨W.heap.size,0,none⟩=some (.slice (some ⟨dd.t.ba,0,none⟩) dd.t.na dd.t.ca)/\w'.cell? ⟨W.heap.size,1,none⟩=some (.slice (some ⟨dd.t.bn,0,none⟩) dd.t.nn dd.t.cn)) (go_keep)
     ((go_at_call 56;refine HX.mono ?_;rintro e w3 ⟨rfl,ht3,hq3⟩;obtain⟨⟨j0,j1,j2⟩,⟨j3,j4,j5⟩,HY,HQ⟩:=HNX.out w3 ht3;unfold o3_ at HY;have HZ3:=fun w4=>HZ.out w3 w4 ht3 hq3;clear HNX HZ ht3 hq3))
    all_goals go_upto_region 37 with fail
    all_goals go_region_held3 (fun w'=>w'.cell? ⟨pd.bp,1,none⟩=some (.pointer (some ⟨pd.br,0,none⟩))/\w'.cell? ⟨w2.heap.size,0,none⟩=some (.slice ma dd.t.na mca)/\w'.cell? ⟨w2.heap.size,1,none⟩=some (.slice mn dd.t.nn mcn)) (go_keep)
     ((go_at_call 57;refine HY.mono ?_;rintro e w4 ⟨rfl,ht4,hq4⟩;obtain⟨m0,m1,m2⟩:=HQ w4 ht4;have HF:Hid (bl_ Wo bw vts vbs hs ps xs.length lab w (.returned (.bool true)) w4):=HZ3 w4 ht4 hq4;clear HZ3 HQ ht4 hq4))
    all_goals go_wp2_with fail
    all_goals go_ret
    all_goals exact HF.out
end Go.Proofs.YtpngikmcjkjdaaaGreatDoor
