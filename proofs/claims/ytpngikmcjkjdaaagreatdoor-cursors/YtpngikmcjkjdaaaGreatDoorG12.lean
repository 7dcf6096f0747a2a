import Derived.Test.YtpngikmcjkjdaaaGreatDoorG0
import Derived.BigQuiet
import Derived.Deep.AppendLies
import Derived.Deep.LoopGhost
import Derived.Deep.QuietTactic
import Derived.Deep.RegionLaw
import Derived.Test.YtpngikmcjkjdaaaGreatDoorG11
import Derived.Test.YtpngikmcjkjdaaaGreatDoorG2
import Derived.Test.YtpngikmcjkjdaaaGreatDoorG5
import Derived.Test.YtpngikmcjkjdaaaGreatDoorG8
set_option linter.unusedVariables false
set_option linter.unusedSimpArgs false
set_option maxRecDepth 20000
set_option maxHeartbeats 80000000
namespace Go.Proofs.YtpngikmcjkjdaaaGreatDoor
open Go.RowKit Tryz
theorem mn_ (V:Lay)(M:Tab)(w:World)(hM:M.Ok)(hV:av_ w V M):
 Calls prog 132 #[.agg #[.slice (some ⟨V.ba,V.oa,none⟩) M.n V.ca,.slice (some ⟨V.bn,V.on,none⟩) M.n V.cn]] w
  fun e w'=>∃U:Lay,e= .returned (.agg #[.slice (some ⟨U.ba,U.oa,none⟩) M.n U.ca,.slice (some ⟨U.bn,U.on,none⟩) M.n U.cn])/\av_ w' U M/\U.From w.heap.size M.n/\Below w.heap.size w w':=by
 obtain⟨i4,hi4,hz4,hz41,hz42⟩:=info_parts fa_;obtain⟨i3,hi3,hz3,hz31,hz32⟩:=info_parts du_;obtain⟨iR,hiR,hzR,hzR1,hzR2⟩:=info_parts ke_;have l1:=hM.lo;have l2:=hM.hi;obtain⟨W,hW,BW,b0,b1,b2⟩:=n3__ w #[.slice (some ⟨V.ba,V.oa,none⟩) M.n V.ca,.slice (some ⟨V.bn,V.on,none⟩) M.n V.cn] 41 #[.slice none 0 0,.slice none 0 0] 41 #[.slice none 0 0,.slice none 0 0] 41;have hWs:W.heap.size=w.heap.size+1+1+1:=by rw[hW];simp
 obtain⟨y0,y1,_,_⟩:=aa_ b0;go_enter func132,ntmps132;go_wp2_with fail;rw[<-hW];clear hW;go_loopw [14] (fun i' wr=>∃i:Nat,∃va,i<=M.n/\i'= .int .i64 (i:Int)/\au_ W (w.heap.size+1+1) wr va (.slice none 0 0) i 0 M.acc (fun _=>0) (fun _=>0) M.nxt) (fun i' _=>M.n - (intOf i').toNat)
 case atStart=>exact⟨0,_,o_,rfl,au_.start br__ b2⟩
 case round=>
  obtain⟨i,va,hi,rfl,hB⟩:=hrel;have hbw:Below w.heap.size w wr:=BW.trans (hB.two.blw.mono o_);obtain⟨x0,x1,f0,f1⟩:=aa_ hB.two.blk;have hsz:=ac_ hB.two.blk;by_cases hlt:i<M.n
  . have z0:=(hV.below hbw).acc i hlt;obtain⟨bb,HBB⟩:=hx__ (M.acc i);rw[HBB.out]at z0;have q1:(i:Int)<(M.n:Int):=o_;have HBa:Hid (au_ W (w.heap.size+1+1) (wr.alloc (.cells #[.bool bb] 4)) va (.slice none 0 0) i 0 M.acc (fun _=>0) (fun _=>0) M.nxt):=hB.below ba__;have hna:=HBa.out.two.own0;obtain⟨oa,oc,hva,_⟩:=af_ hna;subst hva;have HACC:∀g cap' w2,w2.ownsRow (w.heap.size+1+1+1) 4 1 (.slice (some ⟨g,0,none⟩) (i+1) cap') (i+1) (a0_ M.acc i++ [.bool bb])->(wr.alloc (.cells #[.bool bb] 4)).grownBy w2 (Value.slice oa i oc).ownBlock->((Value.slice oa i oc).ownBlock=some g\/g=(wr.alloc (.cells #[.bool bb] 4)).heap.size)->
     w2.cell? ⟨w.heap.size+1+1,0,none⟩=some (.slice oa i oc)/\w2.frozen? ⟨w.heap.size+1+1,0,none⟩=false/\Hid (au_ W (w.heap.size+1+1) (w2.setCell ⟨w.heap.size+1+1,0,none⟩ (.slice (some ⟨g,0,none⟩) (i+1) cap')) (.slice (some ⟨g,0,none⟩) (i+1) cap') (.slice none 0 0) (i+1) 0 M.acc (fun _=>0) (fun _=>0) M.nxt):=by
     intro g cap' w2 ho hg hf;rw[<-HBB.out]at ho;obtain⟨e0,_,e2,_⟩:=aa_ (HBa.out.two.grown0 hg);exact⟨e0,e2,HBa.out.acc ho hg hf⟩
    clear hB hbw hV;go_wp2_with (at_builtin;refine ae_ _ rfl _ _ 38 rfl (w.heap.size+1+1+1) 4 i4 (.bool false) 1 1 underlying38 hi4 hz4 hz41 hz42 rfl d_ _ i (a0_ M.acc i) rfl hna ⟨wr.heap.size,0,none⟩ 1 1 [.bool bb] rfl rfl (cell_one_new _ _ _) (oc__ rfl) d_ u_ o_ s_ ?_;intro g cap' w2 hown hgr hfr;obtain⟨e0,e1,HN⟩:=HACC g cap' w2 hown hgr hfr;clear HACC hown hgr hfr);go_roundw
    case rel=>exact⟨i+1,_,o_,by go_num,HN.out⟩
    case measure=>simp[intOf];omega
  . have he:i=M.n:=o_;have q1:¬(i:Int)<(M.n:Int):=o_;subst he;have HB:Hid (au_ W (w.heap.size+1+1) wr va (.slice none 0 0) M.n 0 M.acc (fun _=>0) (fun _=>0) M.nxt):=hB;obtain⟨r0,r1,_,_⟩:=aa_ ((hB.two.blw.block _ o_).trans b0);clear hB;go_wp2_with fail;go_loopw [28] (fun i' wi=>∃i:Nat,∃vn R C,i<=M.n/\i'= .int .i64 (i:Int)/\au_ W (w.heap.size+1+1) wi va vn M.n i M.acc R C M.nxt) (fun i' _=>M.n - (intOf i').toNat)
    case atStart=>exact⟨0,_,_,_,o_,rfl,HB.out⟩
    case round=>
     obtain⟨i,vn,R,C,hi2,rfl,hB⟩:=hrel;rename World=>wi
     have hbw2:Below w.heap.size w wi:=BW.trans (hB.two.blw.mono o_);have hsz2:=ac_ hB.two.blk;by_cases hlt:i<M.n
     . have q2:(i:Int)<(M.n:Int):=o_;have z1:=(hV.below hbw2).row i hlt;have HBX:Hid (au_ W (w.heap.size+1+1) wi va vn M.n i M.acc R C M.nxt):=hB;clear hB;go_wp2_with fail;go_loopw [8,34] (fun vr c' wk=>∃c:Nat,c<=8/\c'= .int .i64 (c:Int)/\au_ W (w.heap.size+1+1) wk va vn M.n i M.acc R C M.nxt/\wk.ownsRow (w.heap.size+1+1+1) 3 1 vr c (am_ (M.nxt i) c)/\∀j,j<i->vr.ownBlock≠some (R j)) (fun _ c' _=>8 - (intOf c').toNat)
       case atStart=>exact⟨0,o_,rfl,HBX.out,on__,by intro j _ h;simp[Value.ownBlock]at h⟩
       case round=>
        obtain⟨c,hc,rfl,hBi,hr,hd⟩:=hrel;rename World=>wk
        have hbw3:Below w.heap.size w wk:=BW.trans (hBi.two.blw.mono o_);have hsz3:=ac_ hBi.two.blk;by_cases hl8:c<8
        . have z2:=(hV.below hbw3).cel i c hlt hl8;obtain⟨nv,HNV⟩:=hx__ (M.nxt i c);rw[HNV.out]at z2;have HBi:Hid (au_ W (w.heap.size+1+1) (wk.alloc (.cells #[.int .i64 (nv:Int)] 3)) va vn M.n i M.acc R C M.nxt):=hBi.below ba__;have HD:Hid (∀j,j<i->(u8:Value).ownBlock≠some (R j)):=hd;have hna:=hr.alloc (.cells #[.int .i64 (nv:Int)] 3);have HRO:Hid (∀j,j<i->R j<wk.heap.size):=fun j hj=>((hBi.rows j hj).lt (R j) rfl).2
          have q3:(c:Int)<8:=o_;clear hBi hd hr hbw3;go_wp2_with (at_builtin;refine ae_ _ rfl _ _ 24 rfl (w.heap.size+1+1+1) 3 i3 (.int .i64 0) 1 8 underlying24 hi3 hz3 hz31 hz32 rfl d_ _ c (am_ (M.nxt i) c) rfl hna ⟨wk.heap.size,0,none⟩ 1 1 [.int .i64 (nv:Int)] rfl rfl (cell_one_new _ _ _) (oc__ rfl) d_ u_ o_ s_ ?_;intro g cap' w2 hown hgr hfr;have HO:Hid (w2.ownsRow (w.heap.size+1+1+1) 3 1 (.slice (some ⟨g,0,none⟩) (c+1) cap') (c+1) (am_ (M.nxt i) c++ [.int .i64 (nv:Int)])):=hown;have HG:Hid ((wk.alloc (.cells #[.int .i64 (nv:Int)] 3)).grownBy w2 (u8:Value).ownBlock):=hgr;have HF:Hid ((u8:Value).ownBlock=some g\/g=(wk.alloc (.cells #[.int .i64 (nv:Int)] 3)).heap.size):=hfr;clear hown hgr hfr);go_roundw
          case rel=>
           have ho:=HO.out;rw[show am_ (M.nxt i) c++ [.int .i64 (nv:Int)]=am_ (M.nxt i) (c+1)by rw[e3_,HNV.out]]at ho;refine⟨c+1,o_,by go_num,HBi.out.grown hna HD.out HG.out,ho, ?_⟩;intro j hj e;simp only[Value.ownBlock,Option.some.injEq]at e;rcases HF.out with h'|h'
           . exact HD.out j hj (by subst e;exact h')
           . have:=HRO.out j hj;simp at h';omega
          case measure=>simp[intOf];omega
        . have he:c=8:=o_;subst he;obtain⟨ar,cr,rfl,har⟩:=af_ hr;obtain⟨gr,rfl,_⟩:=har o_;obtain⟨y2,y3,g2,g3⟩:=aa_ hBi.two.blk;have HBi:Hid (au_ W (w.heap.size+1+1) (wk.alloc (.cells #[.slice (some ⟨gr,0,none⟩) 8 cr] 24)) va vn M.n i M.acc R C M.nxt):=hBi.below ba__;have hna:=HBi.out.two.own1;obtain⟨na,nc,hvn,_⟩:=af_ hna;subst hvn;have HR:Hid ((wk.alloc (.cells #[.slice (some ⟨gr,0,none⟩) 8 cr] 24)).ownsRow (w.heap.size+1+1+1) 3 1 (.slice (some ⟨gr,0,none⟩) 8 cr) 8 (am_ (M.nxt i) 8)):=hr.alloc _;have HG1:∀w2,(wk.alloc (.cells #[.slice (some ⟨gr,0,none⟩) 8 cr] 24)).grownBy w2 (Value.slice na i nc).ownBlock->w2.cell? ⟨w.heap.size+1+1,1,none⟩=some (.slice na i nc)/\w2.frozen? ⟨w.heap.size+1+1,1,none⟩=false:=fun w2 hg=>by
           obtain⟨_,e1,_,e3⟩:=aa_ (HBi.out.two.grown1 hg);exact⟨e1,e3⟩
          have q3:¬((8:Nat):Int)<8:=o_;clear hBi hd hr hbw3 har;go_wp2_with (at_builtin;refine ae_ _ rfl _ _ 39 rfl (w.heap.size+1+1+1) 24 iR (.slice none 0 0) 1 24 underlying39 hiR hzR hzR1 hzR2 rfl d_ _ i (eb_ R C i) rfl hna ⟨wk.heap.size,0,none⟩ 1 1 [.slice (some ⟨gr,0,none⟩) 8 cr] rfl rfl (cell_one_new _ _ _) (oc__ rfl) d_ u_ o_ s_ ?_;intro g cap' w2 hown hgr hfr;obtain⟨e1,e3⟩:=HG1 w2 hgr;have HO:Hid (w2.ownsRow (w.heap.size+1+1+1) 24 1 (.slice (some ⟨g,0,none⟩) (i+1) cap') (i+1) (eb_ R C i++ [.slice (some ⟨gr,0,none⟩) 8 cr])):=hown;have HG:Hid ((wk.alloc (.cells #[.slice (some ⟨gr,0,none⟩) 8 cr] 24)).grownBy w2 (Value.slice na i nc).ownBlock):=hgr;have HF:Hid ((Value.slice na i nc).ownBlock=some g\/g=(wk.alloc (.cells #[.slice (some ⟨gr,0,none⟩) 8 cr] 24)).heap.size):=hfr;clear hown hgr hfr HG1);go_roundw
          case rel=>exact⟨i+1,_,_,_,o_,by go_num,HBi.out.nxt HR.out HO.out HG.out HF.out⟩
          case measure=>simp[intOf];omega
     . have he:i=M.n:=o_;have q2:¬(i:Int)<(M.n:Int):=o_;subst he;obtain⟨U,rfl,rfl,hT,hF⟩:=hB.done (N:=M) o_ rfl (fun _ _=>rfl) (fun _ _ _ _=>rfl);have hq:wi.heap[w.heap.size+1]? =some (.cells #[.slice none 0 0,.slice none 0 0] 41 (0,0)):=(hB.two.blw.block _ o_).trans b1;obtain⟨q0',q1',p0,p1⟩:=aa_ hq;obtain⟨s0,s1,_,_⟩:=aa_ hB.two.blk;have HT:Hid (av_ wi U M):=hT;have HBB:=hi__ hbw2;clear hB hT hV;go_wp2_with fail;obtain⟨r1,r2,r3⟩:=a7_ (u:= .slice (some ⟨U.ba,U.oa,none⟩) M.n U.ca) (v:= .slice (some ⟨U.bn,U.on,none⟩) M.n U.cn) hq;refine bodyPost_ret (v:= .agg #[.slice (some ⟨U.ba,U.oa,none⟩) M.n U.ca,.slice (some ⟨U.bn,U.on,none⟩) M.n U.cn]) (by simp[results,results132,go_sem,r1,r2]) rfl ?_;exact⟨U,rfl,HT.out.res (N:=w.heap.size+1+1+1) hF o_ _ _,hF.mono o_,az_ HBB.out o_ _ _⟩
structure InvD (M:Tab)(D:Nat->Nat->Bool):Prop where
 sound:∀x y,x<M.n->y<M.n->D x y=true->d9_ M x y
 symm:∀x y,x<M.n->y<M.n->D x y=D y x
 base:∀x y,x<M.n->y<M.n->M.acc x≠M.acc y->D x y=true
structure RelD (M:Tab)(D0 D:Nat->Nat->Bool)(av:Bool)(i j c:Nat):Prop where
 mono:∀x y,x<M.n->y<M.n->D0 x y=true->D x y=true
 less:av=true->gk_ M.n D<gk_ M.n D0
 same:av=false->∀x y,x<M.n->y<M.n->D x y=D0 x y
 clo:av=false->∀x y c',y<x->x<M.n->c'<8->(x<i\/(x=i/\(y<j\/(y=j/\c'<c))))->D (M.nxt x c') (M.nxt y c')=true->D x y=true
theorem v2_ {M:Tab}{x y c:Nat}(hc:c<8)(h:d9_ M (M.nxt x c) (M.nxt y c)):d9_ M x y:=by
 obtain⟨z,hz,hd⟩:=h;refine⟨c::z, ?_,hd⟩;intro d hd';simp only[List.mem_cons]at hd';rcases hd' with rfl|hd'
 . exact hc
 . exact hz d hd'
theorem InvD.all {M:Tab}{D:Nat->Nat->Bool}(h:InvD M D)(hnx:∀i c,i<M.n->c<8->M.nxt i c<M.n)(hcl:∀x y c',y<x->x<M.n->c'<8->D (M.nxt x c') (M.nxt y c')=true->D x y=true):
 ∀x y,x<M.n->y<M.n->(D x y=true↔d9_ M x y):=by
 have key:∀(z:List Nat),ax_ z->∀x y,x<M.n->y<M.n->M.acc (M.read x z)≠M.acc (M.read y z)->D x y=true:=by
  intro z;induction z with
  |nil=>intro _ x y hx hy hd;exact h.base x y hx hy hd
  |cons c z ih=>
   intro hz x y hx hy hd;have hc:c<8:=hz c i_;have hD:=ih (fun d hd=>hz d (by simp[hd])) (M.nxt x c) (M.nxt y c) (hnx x c hx hc) (hnx y c hy hc) hd;rcases Nat.lt_trichotomy x y with hlt|heq|hlt
   . rw[h.symm x y hx hy];rw[h.symm _ _ (hnx x c hx hc) (hnx y c hy hc)]at hD;exact hcl y x c hlt hy hc hD
   . subst heq;exact absurd rfl hd
   . exact hcl x y c hlt hx hc hD
 intro x y hx hy;exact⟨h.sound x y hx hy,fun⟨z,hz,hd⟩=>key z hz x y hx hy hd⟩
theorem InvD.put {M:Tab}{D:Nat->Nat->Bool}(h:InvD M D){i j:Nat}(ha:d9_ M i j):InvD M (upd (upd D i j true) j i true) where
 sound x y hx hy hd:=by
  unfold upd at hd;by_cases e1:x=j/\y=i
  . obtain⟨rfl,rfl⟩:=e1;obtain⟨z,hz,hd⟩:=ha;exact⟨z,hz,fun e=>hd e.symm⟩
  . rw[if_neg e1]at hd;by_cases e2:x=i/\y=j
    . obtain⟨rfl,rfl⟩:=e2;exact ha
    . rw[if_neg e2]at hd;exact h.sound x y hx hy hd
 symm x y hx hy:=by
  unfold upd;have:=h.symm x y hx hy;by_cases e1:x=j/\y=i
  . obtain⟨rfl,rfl⟩:=e1;simp
  . by_cases e2:x=i/\y=j
    . obtain⟨rfl,rfl⟩:=e2;simp
    . rw[if_neg e1,if_neg e2,if_neg (fun e=>e2 ⟨e.2,e.1⟩),if_neg (fun e=>e1 ⟨e.2,e.1⟩)];exact this
 base x y hx hy hd:=by
  unfold upd;split
  . rfl
  . split
    . rfl
    . exact h.base x y hx hy hd
theorem RelD.put {M:Tab}{D0 D:Nat->Nat->Bool}{av:Bool}{i j c:Nat}(h:RelD M D0 D av i j c)(hi:i<M.n)(hj:j<M.n)(h0:D i j=false)(c2:Nat):RelD M D0 (upd (upd D i j true) j i true) true i j c2:=by
 have hm:∀x y,x<M.n->y<M.n->D0 x y=true->upd (upd D i j true) j i true x y=true:=by
  intro x y hx hy hd;unfold upd;split
  . rfl
  . split
    . rfl
    . exact h.mono x y hx hy hd
 refine⟨hm,fun _=>aac_ hm hi hj ?_ ?_,(fun e=>by cases e),(fun e=>by cases e)⟩
 . cases hd:D0 i j with
   |false=>rfl
   |true=>rw[h.mono i j hi hj hd]at h0;cases h0
 . unfold upd;split
   . rfl
   . simp
theorem RelD.pass {M:Tab}{D0 D:Nat->Nat->Bool}{av:Bool}{i j c:Nat}(h:RelD M D0 D av i j c)(hn:D (M.nxt i c) (M.nxt j c)=false):RelD M D0 D av i j (c+1):=
 ⟨h.mono,h.less,h.same,fun e x y c' hyx hx hc hp hd=>by
  by_cases e2:x=i/\y=j/\c'=c
  . obtain⟨rfl,rfl,rfl⟩:=e2;rw[hn]at hd;cases hd
  . exact h.clo e x y c' hyx hx hc o_ hd⟩
theorem RelD.done8 {M:Tab}{D0 D:Nat->Nat->Bool}{av:Bool}{i j:Nat}(h:RelD M D0 D av i j 8):RelD M D0 D av i (j+1) 0:=
 ⟨h.mono,h.less,h.same,fun e x y c' hyx hx hc hp hd=>h.clo e x y c' hyx hx hc o_ hd⟩
theorem RelD.doneT {M:Tab}{D0 D:Nat->Nat->Bool}{av:Bool}{i j c:Nat}(h:RelD M D0 D av i j c)(ht:D i j=true):RelD M D0 D av i (j+1) 0:=
 ⟨h.mono,h.less,h.same,fun e x y c' hyx hx hc hp hd=>by
  by_cases e2:x=i/\y=j
  . obtain⟨rfl,rfl⟩:=e2;exact ht
  . exact h.clo e x y c' hyx hx hc o_ hd⟩
theorem RelD.row {M:Tab}{D0 D:Nat->Nat->Bool}{av:Bool}{i:Nat}(h:RelD M D0 D av i i 0):RelD M D0 D av (i+1) 0 0:=
 ⟨h.mono,h.less,h.same,fun e x y c' hyx hx hc hp hd=>h.clo e x y c' hyx hx hc o_ hd⟩
def aan_ (M:Tab)(w:World)(e:Ending)(w':World):Prop:=
 Below w.heap.size w w'/\∃(g:Nat) (rb:Nat->Nat) (D:Nat->Nat->Bool),e= .returned (.slice (some ⟨g,0,none⟩) M.n M.n)/\c4_ w' (w.heap.size+1) g M.n M.n rb D/\∀x y,x<M.n->y<M.n->(D x y=true↔d9_ M x y)
theorem rm_ (V:Lay)(M:Tab)(w:World)(hlo:1<=M.n)(hhi:M.n<=100000000)(hnx:∀i c,i<M.n->c<8->M.nxt i c<M.n)(hV:av_ w V M):
 Calls prog 103 #[.agg #[.slice (some ⟨V.ba,V.oa,none⟩) M.n V.ca,.slice (some ⟨V.bn,V.on,none⟩) M.n V.cn]] w
  (aan_ M w):=by
 have mk1:=run_make_row' (P:=prog) 108 38 (.slice none 0 0) 24 underlying108 adm_ rfl .i64 .i64 M.n o_ o_;have mk2:=run_make_row' (P:=prog) 38 4 (.bool false) 1 underlying38 fa_ rfl .i64 .i64 M.n o_ o_;obtain⟨W,hW,BW,-,-⟩:=nw__ w #[.slice (some ⟨V.ba,V.oa,none⟩) M.n V.ca,.slice (some ⟨V.bn,V.on,none⟩) M.n V.cn] 41;have hWs:W.heap.size=w.heap.size+1:=by rw[hW];simp
 have b0:=hn__ hW;have P0:c4_ (W.alloc (.cells (madeCells #[.slice none 0 0] M.n) 38)) (w.heap.size+1) (w.heap.size+1) M.n 0 (fun _=>0) (fun _ _=>false):=
  ⟨(c2_ (ag_ hWs.symm)).congr (fun i _=>i_),fun i hi=>absurd hi o_,fun i j hi=>absurd hi o_,lr__,fun i hi=>absurd hi o_⟩
 have B0:Below (w.heap.size+1) W (W.alloc (.cells (madeCells #[.slice none 0 0] M.n) 38)):=br__.alloc o_ _;go_enter func103,ntmps103;go_wp2_with fail;rw[<-hW];clear hW mk1;go_loopw [5,6] (fun i' _ wr=>∃(k:Nat) (rb:Nat->Nat) (D:Nat->Nat->Bool),k<=M.n/\i'= .int .i64 k/\Below (w.heap.size+1) W wr/\c4_ wr (w.heap.size+1) (w.heap.size+1) M.n k rb D/\∀x y,x<k->y<M.n->D x y=(M.acc x !=M.acc y))
  (fun i' _ _=>M.n - (intOf i').toNat)
 case atStart=>exact⟨0,_,_,o_,rfl,B0,P0,fun x y hx=>absurd hx o_⟩
 case round=>
  obtain⟨k,rb,D,hk,rfl,hb,hP,hD⟩:=hrel;clear P0 B0;by_cases hlt:k<M.n
  . have t0:=hP.top.cell hlt;have t1:=hP.top.frozen k;rw[if_neg (Nat.lt_irrefl k)]at t0;have HP:Hid _:=hP;have HB:Hid _:=hb;have hts:=hP.top.lt;have hbs:=hb.size;clear hP hb;go_wp2_with fail;clear mk2 t0 t1;rename World=>wo
    have hN1:c4_ ((wo.alloc (.cells (madeCells #[.bool false] M.n) 4)).setCell ⟨w.heap.size+1,k,none⟩ (.slice (some ⟨wo.heap.size,0,none⟩) M.n M.n)) (w.heap.size+1) (w.heap.size+1) M.n (k+1) (fun i=>if i=k then wo.heap.size else rb i) (fun i j=>if i=k then false else D i j):=
     (HP.out.below ba__).next (f:=fun _=>false) (c2_ (ag_ rfl)) (fun i hi=>by have:=(HP.out.row i hi).lt;omega) o_
    have hB1:Below (w.heap.size+1) W ((wo.alloc (.cells (madeCells #[.bool false] M.n) 4)).setCell ⟨w.heap.size+1,k,none⟩ (.slice (some ⟨wo.heap.size,0,none⟩) M.n M.n)):=(HB.out.alloc o_ _).setCell (p:=⟨w.heap.size+1,k,none⟩) lr__ _;rw[World.setCell_alloc_past _ _ _ _ hts]at hN1 hB1;generalize (fun i=>if i=k then wo.heap.size else rb i)=rb' at hN1;have HD0:Hid (∀x y,x<k->y<M.n->(fun i j=>if i=k then false else D i j) x y=(M.acc x !=M.acc y)):=fun x y hx hy=>by simp only[if_neg (show x≠k by omega)];exact hD x y hx hy
    have HD1:Hid (∀y,y<M.n->(fun i j=>if i=k then false else D i j) k y=false):=fun y hy=>i_
    generalize (fun i j=>if i=k then false else D i j)=Dn at hN1 HD0 HD1;clear HP HB hD;go_loopw [6] (fun j' wi=>∃(j:Nat) (D':Nat->Nat->Bool),j<=M.n/\j'= .int .i64 j/\Below (w.heap.size+1) W wi/\c4_ wi (w.heap.size+1) (w.heap.size+1) M.n (k+1) rb' D'/\(∀x y,x<k->y<M.n->D' x y=(M.acc x !=M.acc y))/\∀y,y<M.n->D' k y=if y<j then(M.acc k !=M.acc y)else false)
     (fun j' _=>M.n - (intOf j').toNat)
    case atStart=>exact⟨0,Dn,o_,rfl,hB1,hN1,HD0.out,fun y hy=>by simp[HD1.out y hy]⟩
    case round=>
     clear hN1 hB1 HD0 HD1;obtain⟨j,D',hj,rfl,hb,hP,hD1,hD2⟩:=hrel;have hbw:Below w.heap.size w wr:=BW.trans (hb.mono o_);obtain⟨x0,x1,_,_⟩:=aa_ ((hb.block _ o_).trans b0);by_cases hltj:j<M.n
     . have a0:=(hV.below hbw).acc k hlt;have a1:=(hV.below hbw).acc j hltj;have t0:=hP.top.cell hlt;rw[if_pos (show k<k+1 by omega)]at t0;have r0:=(hP.row k o_).cell hltj;have r1:=(hP.row k o_).frozen j;obtain⟨dv,HDV⟩:=hx__ (D' k j);rw[HDV.out]at r0;have HP:Hid _:=hP;have HB:Hid _:=hb;have HE:Hid _:=hD1;have HF:Hid _:=hD2;have hrl:=hP.lr k o_;clear hP hb hD1 hD2 hbw;go_wp2_with fail;go_region
       go_wp2_with fail;go_roundw
       case rel=>
        refine⟨j+1,upd D' k j (M.acc k !=M.acc j),o_,by go_num,HB.out.drew.setCell (p:=⟨rb' k,j,none⟩) hrl _,(HP.out.below (br__.drew)).set o_ _,fun x y hx hy=> ?_,fun y hy=> ?_⟩
        . unfold upd;rw[if_neg o_];exact HE.out x y hx hy
        . unfold upd;by_cases e:y=j
          . subst e;simp
          . rw[if_neg o_,HF.out y hy];by_cases h':y<j
            . rw[if_pos h',if_pos o_]
            . rw[if_neg h',if_neg o_]
       case measure=>simp[intOf];omega
     . have he:j=M.n:=o_;subst he;have HP:Hid _:=hP;have HB:Hid _:=hb;have HE:Hid _:=hD1;have HF:Hid _:=hD2;clear hP hb hD1 hD2;go_wp2_with fail;go_roundw
       case rel=>
        refine⟨k+1,rb',D',o_,by go_num,HB.out,HP.out,fun x y hx hy=> ?_⟩;by_cases e:x=k
        . subst e;rw[HF.out y hy,if_pos hy]
        . exact HE.out x y o_ hy
       case measure=>simp[intOf];omega
  . have he:k=M.n:=o_;subst he;have hI:InvD M D:=by
     refine⟨fun x y hx hy hd=> ?_,fun x y hx hy=> ?_,fun x y hx hy hd=> ?_⟩
     . rw[hD x y hx hy]at hd;exact⟨[],by intro c hc;simp at hc,by simpa [Tab.read] using hd⟩
     . rw[hD x y hx hy,hD y x hy hx];cases M.acc x<;>cases M.acc y<;>rfl
     . rw[hD x y hx hy];simpa using hd
    clear mk2 hD;go_wp2_with fail;go_loopg [7,8,9,10] (gk_ M.n D+1) (fun gk a _ _ _ wr=>∃(av:Bool) (D:Nat->Nat->Bool),a= .bool av/\Below (w.heap.size+1) W wr/\c4_ wr (w.heap.size+1) (w.heap.size+1) M.n M.n rb D/\InvD M D/\gk=gk_ M.n D+(if av then 1 else 0)/\(av=false->∀x y c',y<x->x<M.n->c'<8->D (M.nxt x c') (M.nxt y c')=true->D x y=true))
    case atStart=>exact⟨true,D,rfl,hb,hP,hI,rfl,fun e=>by cases e⟩
    case round=>
     clear hI hb hP;obtain⟨av,D1,rfl,hb,hP,hI,rfl,hcl⟩:=hrel;have HP1:Hid _:=hP;have HB1:Hid _:=hb;have HI1:Hid _:=hI;have HC1:Hid _:=hcl;clear hP hb hI hcl;cases av
     . go_wp2_with fail;go_ret;exact⟨BW.trans (HB1.out.mono o_),w.heap.size+1,rb,D1,rfl,HP1.out,HI1.out.all hnx (HC1.out (by trivial))⟩
     . go_wp2_with fail;rename World=>wo
       go_loopw [7,8,9,10] (fun a i' _ _ wi=>∃(av:Bool) (i:Nat) (D:Nat->Nat->Bool),a= .bool av/\i<=M.n/\i'= .int .i64 i/\Below (w.heap.size+1) W wi/\c4_ wi (w.heap.size+1) (w.heap.size+1) M.n M.n rb D/\InvD M D/\RelD M D1 D av i 0 0)
        (fun _ i' _ _ _=>M.n - (intOf i').toNat)
       case atStart=>exact⟨false,0,D1,rfl,o_,rfl,HB1.out,HP1.out,HI1.out,⟨fun _ _ _ _ h=>h,(fun e=>by cases e),fun _ _ _ _ _=>rfl,fun _ x y c' h1 h2 h3 h4=>o_⟩⟩
       case round=>
        obtain⟨av,i,D2,rfl,hi,rfl,hb,hP,hI,hR⟩:=hrel;have HP2:Hid _:=hP;have HB2:Hid _:=hb;have HI2:Hid _:=hI;have HR2:Hid _:=hR;clear hP hb hI hR;by_cases hlti:i<M.n
        . go_wp2_with fail;go_loopw [7,9,10] (fun a j' _ wi=>∃(av:Bool) (j:Nat) (D:Nat->Nat->Bool),a= .bool av/\j<=i/\j'= .int .i64 j/\Below (w.heap.size+1) W wi/\c4_ wi (w.heap.size+1) (w.heap.size+1) M.n M.n rb D/\InvD M D/\RelD M D1 D av i j 0)
           (fun _ j' _ _=>i - (intOf j').toNat)
          case atStart=>exact⟨av,0,D2,rfl,o_,rfl,HB2.out,HP2.out,HI2.out,HR2.out⟩
          case round=>
           clear HP2 HB2 HI2 HR2;obtain⟨av,j,D3,rfl,hj,rfl,hb,hP,hI,hR⟩:=hrel;have HP3:Hid _:=hP;have HB3:Hid _:=hb;have HI3:Hid _:=hI;have HR3:Hid _:=hR;clear hP hb hI hR;by_cases hltj:j<i
           . go_wp2_with fail;go_loopw [7,10] (fun a c' wi=>∃(av:Bool) (c:Nat) (D:Nat->Nat->Bool),a= .bool av/\c<=8/\c'= .int .i64 c/\Below (w.heap.size+1) W wi/\c4_ wi (w.heap.size+1) (w.heap.size+1) M.n M.n rb D/\InvD M D/\RelD M D1 D av i j c)
              (fun _ c' _=>8 - (intOf c').toNat)
             case atStart=>exact⟨av,0,D3,rfl,o_,rfl,HB3.out,HP3.out,HI3.out,HR3.out⟩
             case round=>
              clear HP3 HB3 HI3 HR3;obtain⟨av,c,D4,rfl,hc,rfl,hb,hP,hI,hR⟩:=hrel;have hbw:Below w.heap.size w wr:=BW.trans (hb.mono o_);have hjn:j<M.n:=o_;have ti:=hP.top.cell hlti;have tj:=hP.top.cell hjn;rw[if_pos hlti]at ti;rw[if_pos hjn]at tj;have rij:=(hP.row i hlti).cell hjn;obtain⟨dv,HDV⟩:=hx__ (D4 i j);rw[HDV.out]at rij;have HP4:Hid _:=hP;have HB4:Hid _:=hb;have HI4:Hid _:=hI;have HR4:Hid _:=hR;obtain⟨x0,x1,_,_⟩:=aa_ ((hb.block _ o_).trans b0);by_cases hl8:c<8
              . cases dv
                . have y0:=(hV.below hbw).row i hlti;have y1:=(hV.below hbw).cel i c hlti hl8;have y2:=(hV.below hbw).row j hjn;have y3:=(hV.below hbw).cel j c hjn hl8;have n1:=hnx i c hlti hl8;have n2:=hnx j c hjn hl8;obtain⟨ni,HNI⟩:=hx__ (M.nxt i c);obtain⟨nj,HNJ⟩:=hx__ (M.nxt j c);rw[HNI.out]at y1 n1;rw[HNJ.out]at y3 n2;have tn:=hP.top.cell n1;rw[if_pos n1]at tn;have rn:=(hP.row ni n1).cell n2;obtain⟨nv,HNV⟩:=hx__ (D4 ni nj);rw[HNV.out]at rn;have rji:=(hP.row j hjn).cell hlti;have fij:=(hP.row i hlti).frozen j;have fji:=(hP.row j hjn).frozen i;have dij:¬rb i=rb j:=hP.inj i j hlti hjn o_;have dji:¬rb j=rb i:=fun e=>dij e.symm
                  have dgi:¬w.heap.size+1=rb i:=i2_ hP.top (hP.row i hlti) d_;have dgj:¬w.heap.size+1=rb j:=i2_ hP.top (hP.row j hjn) d_;have lri:=hP.lr i hlti;have lrj:=hP.lr j hjn;clear hP hb hI hR hbw;cases nv
                  . go_wp2_with fail;go_quiet (fail);go_wp2_with fail;go_roundw
                    case rel=>exact⟨av,c+1,D4,rfl,o_,by go_num,below_drewN HB4.out _,HP4.out.below (below_drewN br__ _),HI4.out,HR4.out.pass (by rw[HNI.out,HNJ.out];exact HNV.out)⟩
                    case measure=>simp[intOf];omega
                  . go_wp2_with fail;go_quiet (fail);go_wp2_with fail;go_roundw
                    case rel=>
                     have hA:d9_ M i j:=v2_ hl8 (HI4.out.sound _ _ (by rw[HNI.out];exact n1) (by rw[HNJ.out];exact n2) (by rw[HNI.out,HNJ.out];exact HNV.out));refine⟨true,c+1,upd (upd D4 i j true) j i true,rfl,o_,by go_num, ?_, ?_,HI4.out.put hA,HR4.out.put hlti hjn HDV.out _⟩
                     . exact((below_drewN HB4.out _).setCell (p:=⟨rb i,j,none⟩) lri _).setCell (p:=⟨rb j,i,none⟩) lrj _
                     . exact((HP4.out.below (below_drewN br__ _)).set hlti true).set hjn true
                    case measure=>simp[intOf];omega
                . clear hP hb hI hR hbw;go_wp2_with fail;go_roundw
                  case rel=>exact⟨av,j+1,D4,rfl,o_,by go_num,HB4.out,HP4.out,HI4.out,HR4.out.doneT HDV.out⟩
                  case measure=>simp[intOf];omega
              . have he:c=8:=o_;subst he;clear hP hb hI hR hbw;go_wp2_with fail;go_roundw
                case rel=>exact⟨av,j+1,D4,rfl,o_,by go_num,HB4.out,HP4.out,HI4.out,HR4.out.done8⟩
                case measure=>simp[intOf];omega
           . have he:j=i:=o_;subst he;go_wp2_with fail;go_roundw
             case rel=>exact⟨av,j+1,D3,rfl,o_,by go_num,HB3.out,HP3.out,HI3.out,HR3.out.row⟩
             case measure=>simp[intOf];omega
        . have he:i=M.n:=o_;subst he;go_wp2_with fail;go_roundg (gk_ M.n D2+(if av then 1 else 0))
          case measure=>
           cases av
           . have:gk_ M.n D2=gk_ M.n D1:=by
              unfold gk_;congr 1
              apply List.filter_congr;intro q hq;have hq':q<M.n*M.n:=by simpa using hq
              have hn:0<M.n:=o_;rw[HR2.out.same rfl _ _ (Nat.div_lt_of_lt_mul hq') (Nat.mod_lt _ hn)]
             simp;omega
           . have:=HR2.out.less rfl;simp;omega
          case rel=>
           refine⟨av,D2,rfl,HB2.out,HP2.out,HI2.out,rfl,fun e x y c' hyx hx hc hd=>HR2.out.clo e x y c' hyx hx hc (.inl hx) hd⟩
def Lay.raw (V:Lay)(n:Nat):RLay:=⟨some ⟨V.ba,V.oa,none⟩,some ⟨V.bn,V.on,none⟩,n,V.ca,n,V.cn,fun i=>some ⟨V.rb i,V.ro i,none⟩,fun _=>8,V.rc⟩
theorem av_.raw {w:World}{V:Lay}{M:Tab}(h:av_ w V M)(hM:M.Ok):cz_ w (V.raw M.n) M.acc (fun i c=>(M.nxt i c:Int)):=by
 have:=hM.hi;exact⟨by simp only[Lay.raw];omega,by simp only[Lay.raw];omega,fun i hi=>by simp only[Lay.raw];omega,fun i hi=>⟨_,_,rfl,h.acc i hi⟩,fun i hi=>⟨_,_,rfl,h.row i hi⟩,fun i c hi hc=>⟨_,_,rfl,h.cel i c hi hc⟩⟩
structure QT (M:Tab)(ps:List Nat)(bs:List ByteArray)(p:Nat):Prop where
 q:QRel M ps (bs.map bu_) p
 txt:∀j,j<bs.length->ed_ (bs.getD j ⟨#[]⟩)
theorem QT.len {M:Tab}{ps:List Nat}{bs:List ByteArray}{p:Nat}(h:QT M ps bs p):bs.length=ps.length:=by have:=h.q.len;simpa using this
theorem QT.bound {M:Tab}{ps:List Nat}{bs:List ByteArray}{p:Nat}(h:QT M ps bs p):ps.length<=M.n:=d3_ _ _ h.q.rel.nd h.q.rel.inr
theorem g0_ (a b:Nat)(ha:a<9223372036854775808)(hb:b<9223372036854775808):bits BinOp.and IntKind.i64 (a:Int) (b:Int)=((a&&&b:Nat):Int):=by
 have h:(BitVec.ofInt 64 (a:Int)&&&BitVec.ofInt 64 (b:Int)).toNat=a&&&b:=by
  simp only[BitVec.toNat_and,BitVec.ofInt_natCast,BitVec.toNat_ofNat];rw[Nat.mod_eq_of_lt o_,Nat.mod_eq_of_lt o_]
 have hl:a&&&b<=a:=Nat.and_le_left;show IntKind.i64.wrap ((BitVec.ofInt 64 (a:Int)&&&BitVec.ofInt 64 (b:Int)).toNat:Int)=_
 rw[h,IntKind.wrap_i64];omega
theorem e4_ (a b:Nat)(ha:a<2048)(hb:b<2048):bits BinOp.or IntKind.i64 (a:Int) (b:Int)=((a|||b:Nat):Int):=by
 have h:(BitVec.ofInt 64 (a:Int)|||BitVec.ofInt 64 (b:Int)).toNat=a|||b:=by
  simp only[BitVec.toNat_or,BitVec.ofInt_natCast,BitVec.toNat_ofNat];rw[Nat.mod_eq_of_lt o_,Nat.mod_eq_of_lt o_]
 have hl:a|||b<2^11:=Nat.or_lt_two_pow o_ o_
 show IntKind.i64.wrap ((BitVec.ofInt 64 (a:Int)|||BitVec.ofInt 64 (b:Int)).toNat:Int)=_
 rw[h,IntKind.wrap_i64];omega
theorem ki_ (i:Nat)(h:i<=11):wrap64 (2^i)=((2^i:Nat):Int):=by
 have h1:2^i<=2^11:=Nat.pow_le_pow_right o_ h;have h2:((2:Int)^i)=((2^i:Nat):Int):=i_;rw[h2];generalize (2^i:Nat)=m at h1 ⊢;unfold wrap64;omega
theorem u9_ (S i:Nat):(S&&&2^i !=0)=S.testBit i:=by
 have e:S&&&2^i=if S.testBit i then 2^i else 0:=by
  apply Nat.eq_of_testBit_eq;intro j;rw[Nat.testBit_and,Nat.testBit_two_pow];by_cases h:i=j
  . subst h;cases hb:S.testBit i
    . simp
    . simp
  . cases hb:S.testBit i
    . simp[h]
    . simp[h]
 rw[e];cases hb:S.testBit i
 . simp
 . simp
def folF (beh:Nat->Nat)(S:Nat):Nat->Nat
 |0=>0
 |i+1=>if S.testBit i then folF beh S i|||beh i else folF beh S i
theorem va_ {beh:Nat->Nat}{S n:Nat}(h:∀i,i<n->beh i<2048):folF beh S n<2048:=by
 induction n with
 |zero=>simp[folF]
 |succ n ih=>
  have h1:=ih (fun i hi=>h i o_);simp only[folF];split
  . exact Nat.or_lt_two_pow (n:=11) h1 (h n o_)
  . exact h1
theorem aao_ {beh:Nat->Nat}{S n q:Nat}:(folF beh S n).testBit q=true↔∃p,p<n/\S.testBit p=true/\(beh p).testBit q=true:=by
 induction n with
 |zero=>simp[folF]
 |succ n ih=>
  simp only[folF];by_cases h:S.testBit n=true
  . rw[if_pos h,Nat.testBit_or,Bool.or_eq_true,ih];constructor
    . rintro(⟨p,h1,h2,h3⟩|h1)
      . exact⟨p,o_,h2,h3⟩
      . exact⟨n,o_,h,h1⟩
    . rintro⟨p,h1,h2,h3⟩;by_cases e:p=n
      . subst e;exact .inr h3
      . exact .inl ⟨p,o_,h2,h3⟩
  . rw[if_neg h,ih];constructor
    . rintro⟨p,h1,h2,h3⟩;exact⟨p,o_,h2,h3⟩
    . rintro⟨p,h1,h2,h3⟩;by_cases e:p=n
      . subst e;exact absurd h2 h
      . exact⟨p,o_,h2,h3⟩
theorem xv_ (bm gb n cap:Nat)(beh:Nat->Nat)(S:Nat)(w:World)(hn:n<=11)(hS:S<2048)(hb:∀i,i<n->beh i<2048)(h0:w.cell? ⟨bm,0,none⟩=some (.slice (some ⟨gb,0,none⟩) n cap))(hc:ch_ w gb n beh):
 Calls prog 173 #[.pointer (some ⟨bm,0,none⟩),.int .i64 S] w fun e w'=>e= .returned (.int .i64 ((folF beh S n:Nat):Int))/\w=w':=by
 go_enter func173,ntmps173;go_wp2_with fail;go_loop [5,6] (fun v i'=>∃i:Nat,i<=n/\i'= .int .i64 i/\v= .int .i64 ((folF beh S i:Nat):Int)) (fun _ i'=>n - (intOf i').toNat)
 case atStart=>exact⟨0,o_,rfl,rfl⟩
 case round=>
  obtain⟨i,hi,rfl,rfl⟩:=hrel;by_cases hlt:i<n
  . have c0:=hc i hlt;have hw:=ki_ i o_;have h2:2^i<=2^11:=Nat.pow_le_pow_right o_ o_;have ha:=g0_ S (2^i) o_ o_;have hfl:=va_ (beh:=beh) (S:=S) (n:=i) (fun j hj=>hb j o_);have ho:=e4_ (folF beh S i) (beh i) hfl (hb i hlt);have HS:Hid (folF beh S (i+1)=if S.testBit i then folF beh S i|||beh i else folF beh S i):=rfl;have hbit:=u9_ S i;obtain⟨an,HAN⟩:=hx__ (S&&&2^i);obtain⟨on,HON⟩:=hx__ (folF beh S i|||beh i);obtain⟨tb,HTB⟩:=hx__ (S.testBit i);rw[HAN.out]at ha hbit;rw[HON.out]at ho HS;rw[HTB.out]at HS hbit;rw[<-hw]at ha;have hb1:((an:Int) !=0)=tb:=by
     rw[<-hbit];rw[Bool.eq_iff_iff];simp
    clear hbit hw h2;cases tb
    . go_wp2_with fail;go_round
      case rel=>exact⟨i+1,o_,by go_num,by rw[HS.out];rfl⟩
      case measure=>simp[intOf];omega
    . go_wp2_with fail;go_round
      case rel=>exact⟨i+1,o_,by go_num,by rw[HS.out];rfl⟩
      case measure=>simp[intOf];omega
  . have he:i=n:=o_;subst he;go_wp2_with fail;go_ret;exact⟨rfl,rfl⟩
def bw_ (beh:Nat->Nat)(L F i:Nat):Nat:=if L.testBit i then beh i|||F else beh i
theorem v3_ (X:Nat->Nat)(n i v:Nat):(am_ X n).set i (.int .i64 ((v:Nat):Int))=am_ (fun j=>if j=i then v else X j) n:=by
 apply List.ext_getElem?;intro j;rw[List.getElem?_set];simp only[am_,List.length_map,List.length_range];by_cases hj:j<n
 . by_cases e:i=j
   . subst e;simp[hj]
   . simp[hj,e,Ne.symm e]
 . by_cases e:i=j
   . subst e;simp[hj]
   . simp[hj,e]
theorem vb_ (bm base gb n cap:Nat)(beh:Nat->Nat)(L F:Nat)(w:World)(hn:n<=11)(hL:L<2048)(hF:F<2048)(hb:∀i,i<n->beh i<2048)(h0:w.cell? ⟨bm,0,none⟩=some (.slice (some ⟨gb,0,none⟩) n cap))(hne:bm≠gb)
 (ho:w.ownsRow base 3 1 (.slice (some ⟨gb,0,none⟩) n cap) n (am_ beh n)):
 Calls prog 172 #[.pointer (some ⟨bm,0,none⟩),.int .i64 L,.int .i64 F] w fun e w'=>e= .returned (.tuple #[])/\ab_ (fun b=>b=gb) w w'/\w'.ownsRow base 3 1 (.slice (some ⟨gb,0,none⟩) n cap) n (am_ (bw_ beh L F) n):=by
 go_enter func172,ntmps172;go_wp2_with fail;go_loopw [6] (fun i' wr=>∃i:Nat,i<=n/\i'= .int .i64 i/\ab_ (fun b=>b=gb) w wr/\wr.ownsRow base 3 1 (.slice (some ⟨gb,0,none⟩) n cap) n (am_ (fun j=>if j<i then bw_ beh L F j else beh j) n)) (fun i' _=>n - (intOf i').toNat)
 case atStart=>exact⟨0,o_,rfl,ab_.refl _ _,by simpa using ho⟩
 case round=>
  obtain⟨i,hi,rfl,ht,hw⟩:=hrel;have x0:wr.cell? ⟨bm,0,none⟩=some (.slice (some ⟨gb,0,none⟩) n cap):=(World.cell?_of_block (a:=⟨bm,0,none⟩) (ht.block bm (an_ h0) (fun e=>hne e))).trans h0;by_cases hlt:i<n
  . have c0:=(hw.cellAt i o_).trans (show(am_ (fun j=>if j<i then bw_ beh L F j else beh j) n)[i]? =some (.int .i64 ((beh i:Nat):Int))by simp[am_,hlt]);have c1:=hw.frozenAt i;have hpw:=ki_ i o_;have h2:2^i<=2^11:=Nat.pow_le_pow_right o_ o_;have ha:=g0_ L (2^i) o_ o_;have hor:=e4_ (beh i) F (hb i hlt) hF;have HS:Hid (bw_ beh L F i=if L.testBit i then beh i|||F else beh i):=rfl;have hbit:=u9_ L i;obtain⟨an,HAN⟩:=hx__ (L&&&2^i);obtain⟨on,HON⟩:=hx__ (beh i|||F);obtain⟨tb,HTB⟩:=hx__ (L.testBit i);rw[HAN.out]at ha hbit;rw[HON.out]at hor HS;rw[HTB.out]at HS hbit;rw[<-hpw]at ha;have hb1:((an:Int) !=0)=tb:=by
     rw[<-hbit,Bool.eq_iff_iff];simp
    have HW:Hid (wr.ownsRow base 3 1 (.slice (some ⟨gb,0,none⟩) n cap) n (am_ (fun j=>if j<i then bw_ beh L F j else beh j) n)):=hw;have HT:Hid (ab_ (fun b=>b=gb) w wr):=ht;clear hbit hpw h2 hw ht;cases tb
    . go_wp2_with fail;go_roundw
      case rel=>
       refine⟨i+1,o_,by go_num,HT.out, ?_⟩;have h:=HW.out;have e:am_ (fun j=>if j<i then bw_ beh L F j else beh j) n=am_ (fun j=>if j<i+1 then bw_ beh L F j else beh j) n:=by
        simp only[am_];apply List.map_congr_left;intro j hj;by_cases e:j=i
        . subst e;simp only[Nat.lt_irrefl,if_false,Nat.lt_succ_self,if_true];rw[HS.out];rfl
        . by_cases h':j<i
          . rw[if_pos h',if_pos o_]
          . rw[if_neg h',if_neg o_]
       rw[e]at h;exact h
      case measure=>simp[intOf];omega
    . go_wp2_with fail;go_roundw
      case rel=>
       refine⟨i+1,o_,by go_num,HT.out.set _ _ (.inl rfl), ?_⟩;have h:=(HW.out.stored i (.int .i64 ((on:Nat):Int))).1;rw[v3_]at h;have e:am_ (fun j=>if j=i then on else if j<i then bw_ beh L F j else beh j) n=am_ (fun j=>if j<i+1 then bw_ beh L F j else beh j) n:=by
        simp only[am_];apply List.map_congr_left;intro j hj;by_cases e:j=i
        . subst e;simp only[Nat.lt_succ_self,if_true];rw[HS.out];rfl
        . by_cases h':j<i
          . rw[if_neg e,if_pos h',if_pos o_]
          . rw[if_neg e,if_neg h',if_neg o_]
       rw[e]at h;exact h
      case measure=>simp[intOf];omega
  . have he:i=n:=o_;subst he;have HW:Hid (wr.ownsRow base 3 1 (.slice (some ⟨gb,0,none⟩) i cap) i (am_ (bw_ beh L F) i)):=by
     have e:am_ (fun j=>if j<i then bw_ beh L F j else beh j) i=am_ (bw_ beh L F) i:=by
      simp only[am_];apply List.map_congr_left;intro j hj;rw[if_pos (by simpa using hj)]
     rw[e]at hw;exact hw
    have HT:Hid (ab_ (fun b=>b=gb) w wr):=ht;clear hw ht;go_wp2_with fail;go_end0
    exact⟨rfl,HT.out,HW.out⟩
end Go.Proofs.YtpngikmcjkjdaaaGreatDoor
