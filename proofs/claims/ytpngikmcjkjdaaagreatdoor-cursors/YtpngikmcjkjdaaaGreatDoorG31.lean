import Derived.Test.YtpngikmcjkjdaaaGreatDoorG0
import Derived.Deep.RegionHeld3
import Derived.Test.YtpngikmcjkjdaaaGreatDoorG10
import Derived.Test.YtpngikmcjkjdaaaGreatDoorG25
set_option linter.unusedVariables false
set_option linter.unusedSimpArgs false
set_option maxRecDepth 20000
set_option maxHeartbeats 80000000
namespace Go.Proofs.YtpngikmcjkjdaaaGreatDoor
open Go.RowKit Tryz
theorem ByAt.give {w:World}{b n:Nat}{ry:Value}{t:Nat->ByteArray}{c:Nat->Cu}(h:ByAt w b ry t n (cuv c)){k:Nat}(hk:k<4)(s:ByteArray):
 ByAt ((w.setCell ⟨b,1+5*k+3,none⟩ (.bool true)).setCell ⟨b,1+5*k+4,none⟩ (.string s)) b ry t n (cuv (b3_ c k {c k with bg:=true,la:=s}))/\
 ab_ (fun j=>j=b) w ((w.setCell ⟨b,1+5*k+3,none⟩ (.bool true)).setCell ⟨b,1+5*k+4,none⟩ (.string s)):=by
 have hT:ab_ (fun j=>j=b) w ((w.setCell ⟨b,1+5*k+3,none⟩ (.bool true)).setCell ⟨b,1+5*k+4,none⟩ (.string s)):=((ab_.refl (fun j=>j=b) w).set ⟨b,1+5*k+3,none⟩ (.bool true) (.inl rfl)).set ⟨b,1+5*k+4,none⟩ (.string s) (.inl rfl);refine⟨⟨((World.rowIs.set h.1 (1+5*k+3) (.bool true)).set (1+5*k+4) (.string s)).congr (fun j hj=> ?_),gi_ h.2 h.1 hT⟩,hT⟩;unfold cuv b3_;by_cases a:j=0
 . simp only[a,show¬(0:Nat)=1+5*k+4 by omega,show¬(0:Nat)=1+5*k+3 by omega,if_false,if_true]
 . by_cases q:(j - 1)/5=k
   . simp only[a,q,if_false,if_true];rcases (show(j - 1)%5=0\/(j - 1)%5=1\/(j - 1)%5=2\/(j - 1)%5=3\/(j - 1)%5=4 by omega)with f|f|f|f|f
     . simp only[f,show¬j=1+5*k+4 by omega,show¬j=1+5*k+3 by omega,if_false,if_true]
     . simp only[f,show¬j=1+5*k+4 by omega,show¬j=1+5*k+3 by omega,if_false,if_true,show¬(1:Nat)=0 by omega]
     . simp only[f,show¬j=1+5*k+4 by omega,show¬j=1+5*k+3 by omega,if_false,if_true,show¬(2:Nat)=0 by omega,show¬(2:Nat)=1 by omega]
     . have e:j=1+5*k+3:=o_;simp only[f,if_pos e,show¬j=1+5*k+4 by omega,if_false,if_true,show¬(3:Nat)=0 by omega,show¬(3:Nat)=1 by omega,show¬(3:Nat)=2 by omega]
     . have e:j=1+5*k+4:=o_;simp only[f,if_pos e,if_false,show¬(4:Nat)=0 by omega,show¬(4:Nat)=1 by omega,show¬(4:Nat)=2 by omega,show¬(4:Nat)=3 by omega]
   . simp only[a,q,if_false,show¬j=1+5*k+4 by omega,show¬j=1+5*k+3 by omega]
theorem ab6_ {w:World}{base e:Nat}{g cap n m:Nat}{xs:List Value}(h:w.ownsRow base e 1 (.slice (some ⟨g,0,none⟩) n cap) n xs)(hm:m<=n):w.ownsRow base e 1 (.slice (some ⟨g,0,none⟩) m cap) m (xs.take m):=by
 obtain⟨h1,h2⟩:=h;refine⟨by rw[List.length_take,h1];omega, ?_⟩;rcases h2 with ⟨e,_⟩|⟨g',cap',cur,e,hb,hg,hn,hc,hz,ht⟩
 . simp at e
 . injection e with e1 e2 e3;injection e1 with e1;injection e1 with e1 _ _;subst e1;subst e3;refine .inr ⟨g,cap,cur,rfl,hb,hg,o_,hc,hz, ?_⟩;rw[<-ht,List.take_take,Nat.mul_one,Nat.mul_one,Nat.min_eq_left hm]
theorem zf_ (l:List ByteArray)(m:Nat):(strs l).take m=strs (l.take m):=by unfold strs;rw[List.map_take]
theorem w0_ {t:Nat->ByteArray}{n i:Nat}(h:i<n):(cp_ t n)[i]? =some (.string (t i)):=by unfold cp_;simp[h]
theorem qn_ {w:World}{b1 b2 e s n:Nat}{v:Value}{x:List Value}(h:w.ownsRow b1 e s v n x)(hb:b2<=b1):w.ownsRow b2 e s v n x:=by
 refine⟨h.1, ?_⟩;rcases h.2 with h|⟨g,cap,cur,h1,h2,h3⟩
 . exact .inl h
 . exact .inr ⟨g,cap,cur,h1,Nat.le_trans hb h2,h3⟩
theorem zg_ {w:World}{b n base m g:Nat}{f:Nat->Value}{v:Value}{x:List Value}(ho:w.ownsRow base 9 1 v m x)(h:w.rowIs b 77 n f)(hg:v.ownBlock=some g):g≠b:=by
 rintro rfl;obtain⟨c,hb,_⟩:=h;rcases ho.2 with ⟨rfl,_⟩|⟨g',cap,cur,rfl,_,h2,_⟩
 . simp[Value.ownBlock]at hg
 . simp only[Value.ownBlock,Option.some.injEq]at hg;subst hg;rw[hb]at h2;injection h2 with h2;injection h2 with _ h2;exact absurd h2 d_
theorem ab7_ (w:World)(b n m limit:Nat)(ry:Value)(t:Nat->ByteArray)(c:Nat->Cu)(V:Lay)(M:Tab)(h:ByAt w b ry t n (cuv c))(hn:n<=60)(hm:m<4)(hop:(c m).op=true)(hl1:1<=limit)(hl:limit<=50)(htu:∀i,i<n->de_ (t i)=true)
 (hA:(c m).vA= .slice (some ⟨V.ba,V.oa,none⟩) M.n V.ca) (hN:(c m).vN= .slice (some ⟨V.bn,V.on,none⟩) M.n V.cn) (hM:M.Ok) (hT:av_ w V M):
 Calls prog 53 #[.pointer (some ⟨b,0,none⟩),.int .i64 (m:Int),.int .i64 (limit:Int)] w fun e w'=>∃v,e= .returned (.tuple #[v,.bool (df_ (c m) M t n limit),.int .i64 0])/\w'.ownsRow w.heap.size 9 1 v (bx_ (c m) M t n limit).length (strs (bx_ (c m) M t n limit))/\ByAt w' b ry t n (cuv (dd_ c m (bx_ (c m) M t n limit)))/\ab_ (fun j=>j=b) w w':=by
 obtain⟨i0,hi0,hz0,hz01,hz02⟩:=info_parts jq_;have HO:=l9_ w b n ry t c m h;rw[ml_ c hm,hop]at HO;obtain⟨c0,c1,c2,c3,c4⟩:=h.cu hm;have hbl:=World.rowIs.lt h.1;obtain⟨or,cr,hry,hsh⟩:=af_ h.2;subst hry;rw[hA]at c1;rw[hN]at c2;rw[hop]at c0;have HX:Hid (ByAt w b (.slice or n cr) t n (cuv c)):=h;obtain⟨d,HD⟩:∃d,Hid (c m=d):=⟨_,by unfold Hid;rfl⟩;rw[HD.out]at c3 c4 ⊢;have q1:¬(limit:Int)<1:=o_;have q2:¬(50:Int)<(limit:Int):=o_;have HTU:=hi__ htu;have HT:=hi__ hT;obtain⟨W,hW,BW,hWs,b0⟩:=nw__ w #[.bool true,.slice (some ⟨V.ba,V.oa,none⟩) M.n V.ca,.slice (some ⟨V.bn,V.on,none⟩) M.n V.cn,.bool d.bg,.string d.la] 74;have HCC:Hid (∀wj,Below W.heap.size W wj->(wj.cell? ⟨w.heap.size,1,none⟩=some (.slice (some ⟨V.ba,V.oa,none⟩) M.n V.ca)/\wj.cell? ⟨w.heap.size,2,none⟩=some (.slice (some ⟨V.bn,V.on,none⟩) M.n V.cn)/\wj.cell? ⟨w.heap.size,3,none⟩=some (.bool d.bg)/\wj.cell? ⟨w.heap.size,4,none⟩=some (.string d.la))/\wj.cell? ⟨b,0,none⟩=some (.slice or n cr)):=fun wj hb=>by
  have:=(hb.block _ hWs).trans b0;exact⟨by simp[World.cell?,this],(HX.out.below (BW.trans (hb.mono o_))).row⟩
 have HTC:Hid (∀wj i,Below W.heap.size W wj->i<n->∃g,or=some ⟨g,0,none⟩/\wj.cell? ⟨g,i,none⟩=some (.string (t i))):=fun wj i hb hi=>by
  have hy:=HX.out.below (BW.trans (hb.mono o_));obtain⟨g,e1,e2⟩:=hsh o_;obtain⟨o2,c2',e3,e4⟩:=af_ hy.2;injection e3 with e3 _ _;subst e3;obtain⟨g2,e5,e6⟩:=e4 o_;rw[e1]at e5;injection e5 with e5;injection e5 with e5 _ _;subst e5;exact⟨g,e1,(e6 i o_).trans (w0_ hi)⟩
 clear hop htu hA hN hT h hsh b0;obtain⟨mk,HMK⟩:∃x,Hid (x=m):=⟨_,rfl⟩;obtain⟨p3,HP3⟩:∃x,Hid (x=4+5*m):=⟨_,rfl⟩;obtain⟨p4,HP4⟩:∃x,Hid (x=5+5*m):=⟨_,rfl⟩;rcases (show m=0\/m=1\/m=2\/m=3 by omega)with rfl|rfl|rfl|rfl
 all_goals
  go_enter func53,ntmps53;go_upto_region 7 with (go_at_call 93;refine HO.mono ?_;rintro e w1 ⟨rfl,hw1⟩;obtain rfl:w=w1:=hw1.symm);rw[<-hW];clear hW c0 c1 c2 c3 c4;go_wp2_with fail;go_loopw [11,12] (fun v i' wr=>∃i:Nat,i<=n/\i'= .int .i64 (i:Int)/\Below W.heap.size W wr/\wr.ownsRow W.heap.size 9 1 v (as_ d M t i).length (strs (as_ d M t i))) (fun _ i' _=>n - (intOf i').toNat)
  case atStart=>exact⟨0,o_,rfl,br__,on__⟩
  case round=>
   obtain⟨i,hi,rfl,hb,hown⟩:=hrel;obtain⟨oa,oc,hv,hvs⟩:=af_ hown;subst hv;have hwl:=i4_ d M t i;obtain⟨⟨k1,k2,k3,k4⟩,k5⟩:=HCC.out wr hb;have hbs:=hb.size;have HB:Hid (Below W.heap.size W wr):=hb;have HOW:Hid (wr.ownsRow W.heap.size 9 1 (.slice oa (as_ d M t i).length oc) (as_ d M t i).length (strs (as_ d M t i))):=hown;by_cases hlt:i<n
   . obtain⟨g,rfl,cI⟩:=HTC.out wr i hb hlt;have HTG:Hid (∀wj,Below W.heap.size W wj->wj.cell? ⟨g,i,none⟩=some (.string (t i))):=fun wj hj=>by
      obtain⟨g',e1,e2⟩:=HTC.out wj i hj hlt;injection e1 with e1;injection e1 with e1 _ _;subst e1;exact e2
     have q3:(i:Int)<(n:Int):=o_;have htune:=HTU.out i hlt;have htx:ed_ (t i)/\(t i).size<=12:=by simp[de_]at htune;exact⟨(ek_ _).1 htune.2,htune.1⟩
     have HAC:=v1_ V M (t i) wr.drew hM ((HT.out.below (BW.trans (hb.mono o_))).below (br__.drew)) htx.1 o_;have HK2:Hid (∀w2,Below wr.heap.size wr w2->Below W.heap.size W w2):=fun w2 h2=>HB.out.trans (h2.mono hbs)
     clear hb hown hvs htune htx;cases hab:M.accepts (bu_ (t i))with
     |false=>
      rw[hab]at HAC;have HNO:Hid (as_ d M t (i+1)=as_ d M t i):=ih_ (by simp[dx_,hab]);clear hab;go_upto_region 11 with fail;go_region_held3 (fun w'=>(w'.cell? ⟨w.heap.size,1,none⟩=some (.slice (some ⟨V.ba,V.oa,none⟩) M.n V.ca)/\w'.cell? ⟨w.heap.size,2,none⟩=some (.slice (some ⟨V.bn,V.on,none⟩) M.n V.cn))/\w'.cell? ⟨b,0,none⟩=some (.slice (some ⟨g,0,none⟩) n cr)/\w'.cell? ⟨g,i,none⟩=some (.string (t i))) (go_keep)
       ((go_at_call 76;refine HAC.mono ?_;rintro e w2 ⟨rfl,hb2'⟩;have hb2:Below wr.heap.size wr w2:=⟨hb2'.os,hb2'.tape,hb2'.output,hb2'.size,hb2'.block⟩;have HB2:=hi__ hb2;obtain⟨⟨j1,j2,j3,j4⟩,j5⟩:=HCC.out w2 (HK2.out w2 hb2);have j6:=HTG.out w2 (HK2.out w2 hb2);clear hb2 hb2'))
      all_goals go_upto_region 12 with fail
      all_goals go_region
      all_goals go_wp2_with fail
      all_goals
       refine⟨⟨i+1,o_,by go_num,(HB.out.trans (HB2.out.mono hbs)).drew, ?_⟩,by simp[intOf];omega⟩;rw[HNO.out];exact al_ (al_ HOW.out HB2.out) (br__.drew)
     |true=>
      rw[hab]at HAC;cases hbg:d.bg with
      |false=>
       have HYES:Hid (as_ d M t (i+1)=as_ d M t i++ [t i]):=gs_ (by simp[dx_,hab,hbg]);clear hab;have HNA:∀w2,Below wr.heap.size wr w2->(w2.drew.alloc (.cells #[.string (t i)] 9)).ownsRow W.heap.size 9 1 (.slice oa (as_ d M t i).length oc) (as_ d M t i).length (strs (as_ d M t i))/\wr.heap.size<=w2.heap.size:=fun w2 hb2=>⟨(al_ (al_ HOW.out hb2) (br__.drew)).alloc _,hb2.size⟩
       have HOB:Hid (∀y,(Value.slice oa (as_ d M t i).length oc).ownBlock=some y->W.heap.size<=y):=fun y e=>(HOW.out.lt y e).1
       go_upto_region 11 with fail;go_region_held3 (fun w'=>(w'.cell? ⟨w.heap.size,1,none⟩=some (.slice (some ⟨V.ba,V.oa,none⟩) M.n V.ca)/\w'.cell? ⟨w.heap.size,2,none⟩=some (.slice (some ⟨V.bn,V.on,none⟩) M.n V.cn))/\w'.cell? ⟨b,0,none⟩=some (.slice (some ⟨g,0,none⟩) n cr)/\w'.cell? ⟨g,i,none⟩=some (.string (t i))) (go_keep)
        ((go_at_call 76;refine HAC.mono ?_;rintro e w2 ⟨rfl,hb2'⟩;have hb2:Below wr.heap.size wr w2:=⟨hb2'.os,hb2'.tape,hb2'.output,hb2'.size,hb2'.block⟩;have HB2:=hi__ hb2;obtain⟨⟨j1,j2,j3,j4⟩,j5⟩:=HCC.out w2 (HK2.out w2 hb2);have j6:=HTG.out w2 (HK2.out w2 hb2);obtain⟨hna,hs2⟩:=HNA w2 hb2;rw[hbg]at j3;clear hb2 hb2'))
       all_goals go_upto_region 12 with fail
       all_goals go_region
       all_goals go_wp2_with (at_builtin;refine ae_ _ rfl _ _ 56 rfl W.heap.size 9 i0 (.string ByteArray.empty) 1 16 underlying56 hi0 hz0 hz01 hz02 rfl d_ _ (as_ d M t i).length (strs (as_ d M t i)) rfl hna ⟨w2.drew.heap.size,0,none⟩ 1 1 [.string (t i)] rfl rfl (cell_one_new _ _ _) (oc__ rfl) d_ u_ o_ s_ ?_;intro g' cap' w3 hown3 hgr hfr;have HO3:Hid (w3.ownsRow W.heap.size 9 1 (.slice (some ⟨g',0,none⟩) ((as_ d M t i).length+1) cap') ((as_ d M t i).length+1) (strs (as_ d M t i)++ [.string (t i)])):=hown3;have HG3:Hid ((w2.drew.alloc (.cells #[.string (t i)] 9)).grownBy w3 (Value.slice oa (as_ d M t i).length oc).ownBlock):=hgr;clear hown3 hgr hfr)
       all_goals
        have ho:=HO3.out;rw[gy_]at ho;refine⟨⟨i+1,o_,by go_num,((HB.out.trans (HB2.out.mono hbs)).drew.alloc (by show W.heap.size<=w2.heap.size;omega) _).grown HG3.out s_ (fun y e=>HOB.out y e), ?_⟩,by simp[intOf];omega⟩;rw[HYES.out,List.length_append,List.length_singleton];exact ho
      |true=>
       cases hle:less d.la (t i)with
       |true=>
        have q4:(Op.bytesLess (t i).toList d.la.toList||(t i).toList==d.la.toList)=false:=by rw[pa_,hle];rfl
        have HYES:Hid (as_ d M t (i+1)=as_ d M t i++ [t i]):=gs_ (by simp[dx_,hab,hbg,hle]);clear hab hle;have HNA:∀w2,Below wr.heap.size wr w2->(w2.drew.alloc (.cells #[.string (t i)] 9)).ownsRow W.heap.size 9 1 (.slice oa (as_ d M t i).length oc) (as_ d M t i).length (strs (as_ d M t i))/\wr.heap.size<=w2.heap.size:=fun w2 hb2=>⟨(al_ (al_ HOW.out hb2) (br__.drew)).alloc _,hb2.size⟩
        have HOB:Hid (∀y,(Value.slice oa (as_ d M t i).length oc).ownBlock=some y->W.heap.size<=y):=fun y e=>(HOW.out.lt y e).1
        go_upto_region 11 with fail;go_region_held3 (fun w'=>(w'.cell? ⟨w.heap.size,1,none⟩=some (.slice (some ⟨V.ba,V.oa,none⟩) M.n V.ca)/\w'.cell? ⟨w.heap.size,2,none⟩=some (.slice (some ⟨V.bn,V.on,none⟩) M.n V.cn))/\w'.cell? ⟨b,0,none⟩=some (.slice (some ⟨g,0,none⟩) n cr)/\w'.cell? ⟨g,i,none⟩=some (.string (t i))) (go_keep)
         ((go_at_call 76;refine HAC.mono ?_;rintro e w2 ⟨rfl,hb2'⟩;have hb2:Below wr.heap.size wr w2:=⟨hb2'.os,hb2'.tape,hb2'.output,hb2'.size,hb2'.block⟩;have HB2:=hi__ hb2;obtain⟨⟨j1,j2,j3,j4⟩,j5⟩:=HCC.out w2 (HK2.out w2 hb2);have j6:=HTG.out w2 (HK2.out w2 hb2);obtain⟨hna,hs2⟩:=HNA w2 hb2;rw[hbg]at j3;clear hb2 hb2'))
        all_goals go_upto_region 12 with fail
        all_goals go_region
        all_goals go_wp2_with (at_builtin;refine ae_ _ rfl _ _ 56 rfl W.heap.size 9 i0 (.string ByteArray.empty) 1 16 underlying56 hi0 hz0 hz01 hz02 rfl d_ _ (as_ d M t i).length (strs (as_ d M t i)) rfl hna ⟨w2.drew.heap.size,0,none⟩ 1 1 [.string (t i)] rfl rfl (cell_one_new _ _ _) (oc__ rfl) d_ u_ o_ s_ ?_;intro g' cap' w3 hown3 hgr hfr;have HO3:Hid (w3.ownsRow W.heap.size 9 1 (.slice (some ⟨g',0,none⟩) ((as_ d M t i).length+1) cap') ((as_ d M t i).length+1) (strs (as_ d M t i)++ [.string (t i)])):=hown3;have HG3:Hid ((w2.drew.alloc (.cells #[.string (t i)] 9)).grownBy w3 (Value.slice oa (as_ d M t i).length oc).ownBlock):=hgr;clear hown3 hgr hfr)
        all_goals
         have ho:=HO3.out;rw[gy_]at ho;refine⟨⟨i+1,o_,by go_num,((HB.out.trans (HB2.out.mono hbs)).drew.alloc (by show W.heap.size<=w2.heap.size;omega) _).grown HG3.out s_ (fun y e=>HOB.out y e), ?_⟩,by simp[intOf];omega⟩;rw[HYES.out,List.length_append,List.length_singleton];exact ho
       |false=>
        have q4:(Op.bytesLess (t i).toList d.la.toList||(t i).toList==d.la.toList)=true:=by rw[pa_,hle];rfl
        have HNO:Hid (as_ d M t (i+1)=as_ d M t i):=ih_ (by simp[dx_,hab,hbg,hle]);clear hab hle;go_upto_region 11 with fail;go_region_held3 (fun w'=>(w'.cell? ⟨w.heap.size,1,none⟩=some (.slice (some ⟨V.ba,V.oa,none⟩) M.n V.ca)/\w'.cell? ⟨w.heap.size,2,none⟩=some (.slice (some ⟨V.bn,V.on,none⟩) M.n V.cn))/\w'.cell? ⟨b,0,none⟩=some (.slice (some ⟨g,0,none⟩) n cr)/\w'.cell? ⟨g,i,none⟩=some (.string (t i))) (go_keep)
         ((go_at_call 76;refine HAC.mono ?_;rintro e w2 ⟨rfl,hb2'⟩;have hb2:Below wr.heap.size wr w2:=⟨hb2'.os,hb2'.tape,hb2'.output,hb2'.size,hb2'.block⟩;have HB2:=hi__ hb2;obtain⟨⟨j1,j2,j3,j4⟩,j5⟩:=HCC.out w2 (HK2.out w2 hb2);have j6:=HTG.out w2 (HK2.out w2 hb2);rw[hbg]at j3;clear hb2 hb2'))
        all_goals go_upto_region 12 with fail
        all_goals go_region
        all_goals go_wp2_with fail
        all_goals
         refine⟨⟨i+1,o_,by go_num,(HB.out.trans (HB2.out.mono hbs)).drew, ?_⟩,by simp[intOf];omega⟩;rw[HNO.out];exact al_ (al_ HOW.out HB2.out) (br__.drew)
   . have e:i=n:=o_;subst e;have q3:¬(i:Int)<(i:Int):=o_;have hx2:=HX.out.below (BW.trans (hb.mono o_));have HX2:Hid (ByAt wr b (.slice or i cr) t i (cuv c)):=hx2;have HTW:Hid (ab_ (fun j=>j=b) w wr):=bm_ (BW.trans (hb.mono o_));obtain⟨Lw,HLW⟩:=hx__ (as_ d M t i);have HE1:Hid (bx_ d M t i limit=Lw.take limit):=by unfold Hid bx_;rw[HLW.out]
     have HE2:Hid (df_ d M t i limit=decide (Lw.length<=limit)):=by unfold Hid df_;rw[HLW.out]
     rw[HLW.out]at hown hvs hwl HOW ⊢;clear HLW hb;by_cases h0:Lw.length=0
     . have eL:Lw=[]:=List.length_eq_zero_iff.1 h0;subst eL;have HE3:Hid (dd_ c mk []=c):=rfl;rw[HMK.out]at HE3;clear h0 hown hvs;rcases HOW.out.2 with ⟨ev,_⟩|⟨g,cap,cur,ev,_,_,hcap,hcm,_⟩
       . injection ev with ev1 ev2 ev3;subst ev1;subst ev3;go_wp2_with fail;go_ret3
         rw[HE1.out,HE2.out,List.take_nil,HE3.out];exact⟨_,rfl,on__,HX2.out,HTW.out⟩
       . injection ev with ev1 ev2 ev3;subst ev1;subst ev3;unfold maxLen at hcm;simp only[List.length_nil]at*;go_wp2_with fail;go_ret3
         rw[HE1.out,HE2.out,List.take_nil,HE3.out];exact⟨_,rfl,qn_ HOW.out o_,HX2.out,HTW.out⟩
     . obtain⟨g,rfl,hce⟩:=hvs o_;have hcm:Lw.length<=oc/\oc<=maxLen:=by
        rcases HOW.out.2 with ⟨ev,_⟩|⟨g',cap,cur,ev,_,_,hcap,hcm,_⟩
        . simp at ev
        . injection ev with ev1 ev2 ev3;exact⟨o_,o_⟩
       unfold maxLen at hcm;have hgb:g≠b:=zg_ HOW.out hx2.1 rfl;obtain⟨ln,hln⟩:∃ln,min Lw.length limit=ln+1:=⟨min Lw.length limit - 1,o_⟩;have hk1:ln<Lw.length:=o_;obtain⟨s,hs⟩:∃s,Lw[ln]? =some s:=⟨Lw[ln],List.getElem?_eq_getElem hk1⟩;have cl:wr.cell? ⟨g,ln,none⟩=some (.string s):=(hce ln o_).trans (strs_got? hs);have hTL:(Lw.take limit).length=ln+1:=by rw[List.length_take];omega
       have hlast:(Lw.take limit).getLast? =some s:=by
        rw[List.getLast?_eq_getElem?,hTL,Nat.add_sub_cancel,List.getElem?_take_of_lt o_];exact hs
       have HE:Hid (dd_ c mk (Lw.take limit)=b3_ c mk {c mk with bg:=true,la:=s}):=by unfold Hid dd_;rw[hlast]
       rw[HMK.out]at HE;have HTL:=hi__ hTL;have HTK:Hid (wr.ownsRow w.heap.size 9 1 (.slice (some ⟨g,0,none⟩) (ln+1) oc) (ln+1) (strs (Lw.take limit))):=by
        have:=qn_ (ab6_ HOW.out (m:=ln+1) o_) (b2:=w.heap.size) o_;rw[zf_]at this;have e5:Lw.take (ln+1)=Lw.take limit:=by
         by_cases hgt:Lw.length<=limit
         . rw[List.take_of_length_le o_,List.take_of_length_le hgt]
         . rw[show ln+1=limit by omega]
        rw[e5]at this;exact this
       obtain⟨d0,d1,d2,d3,d4⟩:=hx2.cu (k:=mk) (by have:=HMK.out;omega);rw[HMK.out]at d0 d1 d2 d3 d4;have f3:=World.rowIs.frozen hx2.1 p3;have f4:=World.rowIs.frozen hx2.1 p4;have cl2:=(c6_ (w:=wr) (p:=⟨b,p3,none⟩) (q:=⟨g,ln,none⟩) (u:= .bool true) hgb).trans cl;obtain⟨y4,d4b⟩:∃y,(wr.setCell ⟨b,p3,none⟩ (.bool true)).cell? ⟨b,p4,none⟩=some y:=⟨_,(World.rowIs.set hx2.1 p3 (.bool true)).cell (i:=p4) (by have:=HP4.out;omega)⟩;have f4b:(wr.setCell ⟨b,p3,none⟩ (.bool true)).frozen? ⟨b,p4,none⟩=false:=(World.rowIs.set hx2.1 p3 (.bool true)).frozen p4;simp only[HP3.out,HP4.out,Nat.reduceMul,Nat.reduceAdd]at f3 f4 cl2 d4b f4b;have hwl2:IntKind.i64.wrap (ln:Int)=(ln:Int):=by rw[IntKind.wrap_i64];omega
       obtain⟨lw,HLw⟩:=hx__ (Lw.length);rw[HLw.out]at hln hk1 hcm hwl h0 HE2 ⊢;have hlw60:lw<=60:=o_;clear hown hvs hce hs hlast hTL hx2 hwl;by_cases hgt:limit<lw
       . have q5:(limit:Int)<(lw:Int):=o_;have elim:limit=ln+1:=o_;subst elim;have HE6:Hid (decide (lw<=ln+1)=false):=by unfold Hid;simp;omega
         have q6:((ln:Int)+1==(lw:Int))=false:=s_;clear hln;go_wp2_with fail;go_region
         all_goals go_wp2_with fail
         all_goals go_ret3
         all_goals
          have hg:=HX2.out.give (k:=mk) (by have:=HMK.out;omega) s;rw[HMK.out]at hg;rw[HE1.out,HE2.out,HTL.out,HE.out];refine⟨_, ?_,gi_ HTK.out HX2.out.1 ⟨hg.2.os,hg.2.tape,hg.2.output,hg.2.size,hg.2.block⟩,hg.1,ci_ HTW.out ⟨hg.2.os,hg.2.tape,hg.2.output,hg.2.size,hg.2.block⟩⟩;rw[HE6.out];rfl
       . have q5:¬(limit:Int)<(lw:Int):=o_;have elim:lw=ln+1:=o_;subst elim;have HE6:Hid (decide (ln+1<=limit)=true):=by unfold Hid;simp;omega
         clear hln;go_wp2_with fail;go_region
         all_goals go_wp2_with fail
         all_goals go_ret3
         all_goals
          have hg:=HX2.out.give (k:=mk) (by have:=HMK.out;omega) s;rw[HMK.out]at hg;rw[HE1.out,HE2.out,HTL.out,HE.out];refine⟨_, ?_,gi_ HTK.out HX2.out.1 ⟨hg.2.os,hg.2.tape,hg.2.output,hg.2.size,hg.2.block⟩,hg.1,ci_ HTW.out ⟨hg.2.os,hg.2.tape,hg.2.output,hg.2.size,hg.2.block⟩⟩;rw[HE6.out];rfl
end Go.Proofs.YtpngikmcjkjdaaaGreatDoor
