import Derived.Test.YtpngikmcjkjdaaaGreatDoorG0
import Derived.Test.YtpngikmcjkjdaaaGreatDoorG11
import Derived.Test.YtpngikmcjkjdaaaGreatDoorG12
import Derived.Test.YtpngikmcjkjdaaaGreatDoorG23
import Derived.Test.YtpngikmcjkjdaaaGreatDoorG24
set_option linter.unusedVariables false
set_option linter.unusedSimpArgs false
set_option maxRecDepth 20000
set_option maxHeartbeats 80000000
namespace Go.Proofs.YtpngikmcjkjdaaaGreatDoor
open Go.RowKit Tryz
theorem ByAt.cu {w:World}{b n:Nat}{ry:Value}{t:Nat->ByteArray}{c:Nat->Cu}(h:ByAt w b ry t n (cuv c)){k:Nat}(hk:k<4):
 w.cell? ⟨b,1+5*k,none⟩=some (.bool (c k).op)/\w.cell? ⟨b,1+5*k+1,none⟩=some (c k).vA/\w.cell? ⟨b,1+5*k+2,none⟩=some (c k).vN/\w.cell? ⟨b,1+5*k+3,none⟩=some (.bool (c k).bg)/\w.cell? ⟨b,1+5*k+4,none⟩=some (.string (c k).la):=by
 have key:∀f,f<5->w.cell? ⟨b,1+5*k+f,none⟩=some (cuv c (5*k+f)):=fun f hf=>by
  rw[World.rowIs.cell h.1 (i:=1+5*k+f) o_,if_neg o_];congr 2
  omega
 have d:∀f,f<5->(5*k+f)/5=k/\(5*k+f)%5=f:=fun f hf=>o_
 have r:∀f,f<5->cuv c (5*k+f)=if f=0 then .bool (c k).op else if f=1 then(c k).vA else if f=2 then(c k).vN else if f=3 then .bool (c k).bg else .string (c k).la:=fun f hf=>by
  unfold cuv;rw[(d f hf).1,(d f hf).2]
 exact⟨by rw[<-Nat.add_zero (1+5*k),key 0 o_,r 0 o_];rfl,by rw[key 1 o_,r 1 o_];rfl,by rw[key 2 o_,r 2 o_];rfl,by rw[key 3 o_,r 3 o_];rfl,by rw[key 4 o_,r 4 o_];rfl⟩
theorem gi_ {w w1:World}{b n base m:Nat}{f:Nat->Value}{v:Value}{x:List Value}(ho:w.ownsRow base 9 1 v m x)(h:w.rowIs b 77 n f)(hT:ab_ (fun j=>j=b) w w1):w1.ownsRow base 9 1 v m x:=by
 refine hT.own ho (fun g hg hgb=> ?_);subst hgb;obtain⟨c,hb,_⟩:=h;rcases ho.2 with ⟨rfl,_⟩|⟨g',cap,cur,rfl,_,h2,_⟩
 . simp[Value.ownBlock]at hg
 . simp only[Value.ownBlock,Option.some.injEq]at hg;subst hg;rw[hb]at h2;injection h2 with h2;injection h2 with _ h2;exact absurd h2 d_
theorem ByAt.put5 {w:World}{b n:Nat}{ry:Value}{t:Nat->ByteArray}{c:Nat->Cu}(h:ByAt w b ry t n (cuv c)){k:Nat}(hk:k<4)(d:Cu):
 ByAt (((((w.setCell ⟨b,1+5*k,none⟩ (.bool d.op)).setCell ⟨b,1+5*k+1,none⟩ d.vA).setCell ⟨b,1+5*k+2,none⟩ d.vN).setCell ⟨b,1+5*k+3,none⟩ (.bool d.bg)).setCell ⟨b,1+5*k+4,none⟩ (.string d.la)) b ry t n (cuv (b3_ c k d))/\
 ab_ (fun j=>j=b) w (((((w.setCell ⟨b,1+5*k,none⟩ (.bool d.op)).setCell ⟨b,1+5*k+1,none⟩ d.vA).setCell ⟨b,1+5*k+2,none⟩ d.vN).setCell ⟨b,1+5*k+3,none⟩ (.bool d.bg)).setCell ⟨b,1+5*k+4,none⟩ (.string d.la)):=by
 have hT:ab_ (fun j=>j=b) w (((((w.setCell ⟨b,1+5*k,none⟩ (.bool d.op)).setCell ⟨b,1+5*k+1,none⟩ d.vA).setCell ⟨b,1+5*k+2,none⟩ d.vN).setCell ⟨b,1+5*k+3,none⟩ (.bool d.bg)).setCell ⟨b,1+5*k+4,none⟩ (.string d.la)):=(((((ab_.refl (fun j=>j=b) w).set ⟨b,1+5*k,none⟩ (.bool d.op) (.inl rfl)).set ⟨b,1+5*k+1,none⟩ d.vA (.inl rfl)).set ⟨b,1+5*k+2,none⟩ d.vN (.inl rfl)).set ⟨b,1+5*k+3,none⟩ (.bool d.bg) (.inl rfl)).set ⟨b,1+5*k+4,none⟩ (.string d.la) (.inl rfl);refine⟨⟨(((((World.rowIs.set h.1 (1+5*k) (.bool d.op)).set (1+5*k+1) d.vA).set (1+5*k+2) d.vN).set (1+5*k+3) (.bool d.bg)).set (1+5*k+4) (.string d.la)).congr (fun j hj=> ?_),gi_ h.2 h.1 hT⟩,hT⟩;unfold cuv b3_;by_cases a:j=0
 . simp only[a,if_true,show¬0=1+5*k+4 by omega,show¬0=1+5*k+3 by omega,show¬0=1+5*k+2 by omega,show¬0=1+5*k+1 by omega,show¬0=1+5*k by omega,if_false]
 . by_cases q:(j - 1)/5=k
   . simp only[a,q,if_false,if_true];rcases (show(j - 1)%5=0\/(j - 1)%5=1\/(j - 1)%5=2\/(j - 1)%5=3\/(j - 1)%5=4 by omega)with f|f|f|f|f
     . have e:j=1+5*k:=o_;simp only[f,if_pos e,show¬j=1+5*k+4 by omega,show¬j=1+5*k+3 by omega,show¬j=1+5*k+2 by omega,show¬j=1+5*k+1 by omega,if_false,if_true]
     . have e:j=1+5*k+1:=o_;simp only[f,if_pos e,show¬j=1+5*k+4 by omega,show¬j=1+5*k+3 by omega,show¬j=1+5*k+2 by omega,if_false,if_true,show¬(1:Nat)=0 by omega]
     . have e:j=1+5*k+2:=o_;simp only[f,if_pos e,show¬j=1+5*k+4 by omega,show¬j=1+5*k+3 by omega,if_false,if_true,show¬(2:Nat)=0 by omega,show¬(2:Nat)=1 by omega]
     . have e:j=1+5*k+3:=o_;simp only[f,if_pos e,show¬j=1+5*k+4 by omega,if_false,if_true,show¬(3:Nat)=0 by omega,show¬(3:Nat)=1 by omega,show¬(3:Nat)=2 by omega]
     . have e:j=1+5*k+4:=o_;simp only[f,if_pos e,if_false,show¬(4:Nat)=0 by omega,show¬(4:Nat)=1 by omega,show¬(4:Nat)=2 by omega,show¬(4:Nat)=3 by omega]
   . simp only[a,q,if_false,show¬j=1+5*k+4 by omega,show¬j=1+5*k+3 by omega,show¬j=1+5*k+2 by omega,show¬j=1+5*k+1 by omega,show¬j=1+5*k by omega]
theorem l9_ (w:World)(b n:Nat)(ry:Value)(t:Nat->ByteArray)(c:Nat->Cu)(k:Int)(h:ByAt w b ry t n (cuv c)):
 Calls prog 93 #[.pointer (some ⟨b,0,none⟩),.int .i64 k] w fun e w'=>e= .returned (.bool (opB c k))/\w'=w:=by
 by_cases h0:0<=k
 . by_cases h4:k<4
   . obtain⟨m,rfl⟩:∃m:Nat,k=m:=⟨k.toNat,o_⟩;have hm:m<4:=o_;rw[ml_ c hm];obtain⟨c0,_⟩:=h.cu hm;generalize (c m).op=bb at*;clear h;rcases (show m=0\/m=1\/m=2\/m=3 by omega)with rfl|rfl|rfl|rfl
     all_goals
      go_enter func93,ntmps93;go_wp2_with fail;go_ret;exact⟨rfl,rfl⟩
   . rw[i3_ o_];have q1:decide (k<4)=false:=s_;clear h;go_enter func93,ntmps93;go_wp2_with fail;go_ret;exact⟨rfl,rfl⟩
 . rw[i3_ o_];have q1:decide (0<=k)=false:=s_;clear h;go_enter func93,ntmps93;go_wp2_with fail;go_ret;exact⟨rfl,rfl⟩
theorem yz_ (w:World)(b n:Nat)(ry:Value)(t:Nat->ByteArray)(c:Nat->Cu)(k:Int)(h:ByAt w b ry t n (cuv c)):
 Calls prog 55 #[.pointer (some ⟨b,0,none⟩),.int .i64 k] w fun e w'=>e= .returned (.int .i64 (fl_ c k))/\ByAt w' b ry t n (cuv (ef_ c k))/\ab_ (fun j=>j=b) w w':=by
 have HO:=l9_ w b n ry t c k h;have HF:=hi__ h;unfold fl_ ef_;cases hop:opB c k with
 |false=>
  rw[hop]at HO;clear h;go_enter func55,ntmps55;go_wp2_with (go_at_call 93;refine HO.mono ?_;rintro e w1 ⟨rfl,hw1⟩;obtain rfl:w=w1:=hw1.symm);go_ret;exact⟨rfl,HF.out,ab_.refl _ _⟩
 |true=>
  rw[hop]at HO;have hk:0<=k/\k<4:=by
   by_cases hh:0<=k/\k<4
   . exact hh
   . rw[i3_ hh]at hop;cases hop
  obtain⟨m,rfl⟩:∃m:Nat,k=m:=⟨k.toNat,o_⟩;have hm:m<4:=o_;obtain⟨c0,c1,c2,c3,c4⟩:=h.cu hm;have hfz:=World.rowIs.frozen h.1;clear h hop hk;rcases (show m=0\/m=1\/m=2\/m=3 by omega)with rfl|rfl|rfl|rfl
  . have f0:=hfz 1;go_enter func55,ntmps55;go_wp2_with (go_at_call 93;refine HO.mono ?_;rintro e w1 ⟨rfl,hw1⟩;obtain rfl:w=w1:=hw1.symm);go_ret;have hp:=HF.out.put5 (k:=0) o_ shut;exact⟨rfl,hp.1,hp.2⟩
  . have f0:=hfz 6;go_enter func55,ntmps55;go_wp2_with (go_at_call 93;refine HO.mono ?_;rintro e w1 ⟨rfl,hw1⟩;obtain rfl:w=w1:=hw1.symm);go_ret;have hp:=HF.out.put5 (k:=1) o_ shut;exact⟨rfl,hp.1,hp.2⟩
  . have f0:=hfz 11;go_enter func55,ntmps55;go_wp2_with (go_at_call 93;refine HO.mono ?_;rintro e w1 ⟨rfl,hw1⟩;obtain rfl:w=w1:=hw1.symm);go_ret;have hp:=HF.out.put5 (k:=2) o_ shut;exact⟨rfl,hp.1,hp.2⟩
  . have f0:=hfz 16;go_enter func55,ntmps55;go_wp2_with (go_at_call 93;refine HO.mono ?_;rintro e w1 ⟨rfl,hw1⟩;obtain rfl:w=w1:=hw1.symm);go_ret;have hp:=HF.out.put5 (k:=3) o_ shut;exact⟨rfl,hp.1,hp.2⟩
theorem abx_ (w:World)(bx n:Nat)(ry:Value)(t:Nat->ByteArray)(c:Nat->Cu)(k limit:Int)(h:ByAt w bx ry t n (cuv c))(hno:cn_ c k limit≠0):
 Calls prog 53 #[.pointer (some ⟨bx,0,none⟩),.int .i64 k,.int .i64 limit] w fun e w'=>e= .returned (.tuple #[.slice none 0 0,.bool false,.int .i64 (cn_ c k limit)])/\w'=w:=by
 have HO:=l9_ w bx n ry t c k h;clear h;cases hop:opB c k with
 |false=>
  have e1:cn_ c k limit=10:=by simp[cn_,hop]
  rw[hop]at HO;rw[e1];clear hno e1 hop;go_enter func53,ntmps53;go_wp2_with (go_at_call 93;refine HO.mono ?_;rintro e w1 ⟨rfl,hw1⟩;obtain rfl:w=w1:=hw1.symm);go_ret3
  exact⟨rfl,rfl⟩
 |true=>
  have hl:¬(1<=limit/\limit<=50):=fun hh=>hno (by simp[cn_,hop,hh])
  have e1:cn_ c k limit=8:=by simp[cn_,hop,hl]
  rw[hop]at HO;rw[e1];by_cases h1:limit<1
  . clear hno e1 hop hl;go_enter func53,ntmps53;go_wp2_with (go_at_call 93;refine HO.mono ?_;rintro e w1 ⟨rfl,hw1⟩;obtain rfl:w=w1:=hw1.symm);go_ret3
    exact⟨rfl,rfl⟩
  . have h2:50<limit:=o_;have q1:decide (limit<1)=false:=s_;clear hno e1 hop hl h1;go_enter func53,ntmps53;go_wp2_with (go_at_call 93;refine HO.mono ?_;rintro e w1 ⟨rfl,hw1⟩;obtain rfl:w=w1:=hw1.symm);go_ret3
    exact⟨rfl,rfl⟩
theorem wl_ (aa an:Option Addr)(na ca nn cn:Nat)(ra:Nat->Option Addr)(rl rc0:Nat->Nat)(A:Nat->Bool)(X:Nat->Nat->Int)(w:World)(h:cz_ w ⟨aa,an,na,ca,nn,cn,ra,rl,rc0⟩ A X)
 (hb1:na<=4398046511104) (hb2:nn<=4398046511104) (hb3:∀i,i<nn->rl i<=4398046511104):
 Calls prog 96 #[.agg #[.slice aa na ca,.slice an nn cn]] w
  fun e w'=>Below w.heap.size w w'/\∃ga ca' gn cn' rb rc,e= .returned (.agg #[lstv ga na ca',lstv gn nn cn'])/\hv_ w.heap.size w' ga gn rb rc na nn rl A X:=by
 obtain⟨i4,hi4,hz4,hz41,hz42⟩:=info_parts fa_;obtain⟨i0,hi0,hz0,hz01,hz02⟩:=info_parts j6_;obtain⟨i3,hi3,hz3,hz31,hz32⟩:=info_parts du_;obtain⟨W,hW,BW,b0,b1,b2⟩:=n3__ w #[.slice aa na ca,.slice an nn cn] 41 #[.slice none 0 0,.slice none 0 0] 41 #[.slice none 0 0,.slice none 0 0] 41;have hWs:w.heap.size+1+1+1<=W.heap.size:=by rw[hW];simp
 have hT0:=h.below BW;go_enter func96,ntmps96;go_upto_region 2 with fail;rw[<-hW];clear hW;obtain⟨x0,x1,_,_⟩:=aa_ b0;obtain⟨y0,y1,z0,z1⟩:=aa_ b2;go_cut [] (fun wc=>∃ga ca',da_ W w.heap.size wc (lstv ga na ca') (.slice none 0 0) 0 ga na (fun _=>0) rl (fun _=>0) A X)
 case first=>
  by_cases hna:na=0
  . subst hna;go_wp2_with (at_builtin;refine eu_ _ rfl _ _ 38 rfl 4 i4 underlying38 hi4 aa ca rfl rfl ?_);go_meet
    exact⟨0,0,br__.setCell (p:=⟨w.heap.size+1+1,0,none⟩) lr__ _,bg_ b2,fun h=>absurd h o_,on__,fun j hj=>absurd hj o_,fun j k _ hk=>absurd hk o_,fun _=>rfl⟩
  . obtain⟨ba,oa,ea,_⟩:=hT0.acc 0 (show 0<na by omega);have ea':aa=some ⟨ba,oa,none⟩:=ea;subst ea';have hca:∀i,i<na->W.cell? ⟨ba,oa+i,none⟩=some (.bool (A i)):=fun i hi=>by
     obtain⟨b,o,e,hc⟩:=hT0.acc i hi;injection e with e;injection e with e1 e2;subst e1;subst e2;exact hc
    have HCA:Hid _:=hca;clear hca hT0;go_wp2_with (at_builtin;refine ev_ _ rfl _ _ 38 rfl 4 i4 (.bool false) 1 underlying38 hi4 hz4 hz41 hz42 rfl ba oa na ca (fun i=> .bool (A i)) rfl rfl HCA.out (fun j=>rfl) o_ u_ o_ ?_;intro cap w1 hR hgr;have hq:w1.heap[w.heap.size+1+1]? =some (.cells #[.slice none 0 0,.slice none 0 0] 41 (0,0)):=(by rw[hgr.block _ o_ i_];exact b2);obtain⟨f0,f1,f2,f3⟩:=aa_ hq;have HRR:Hid (ar_ w1 W.heap.size 4 na (fun i=> .bool (A i))):=hR;clear hR);go_meet
    refine⟨W.heap.size,cap,((hh_ hgr).mono (B':=w.heap.size+1+1) o_).setCell (p:=⟨w.heap.size+1+1,0,none⟩) lr__ _, ?_,fun h=>⟨o_,HRR.out.setOther s_ _⟩,on__,fun j hj=>absurd hj o_,fun j k _ hk=>absurd hk o_,fun _=>rfl⟩;rw[bg_ hq];unfold lstv;rw[if_neg hna]
 case rest=>
  obtain⟨ga,ca',hP0⟩:=hcut;clear x0 x1 y0 y1 z0 z1 b2 hT0;go_wp2_with fail;go_loopw [4,5] (fun i' _ wr=>∃(i:Nat) (vn:Value) (rb rc:Nat->Nat),i<=nn/\i'= .int .i64 i/\da_ W w.heap.size wr (lstv ga na ca') vn i ga na rb rl rc A X)
   (fun i' _ _=>nn - (intOf i').toNat)
  case atStart=>exact⟨0,_,_,_,o_,rfl,hP0⟩
  case round=>
   obtain⟨i,vn,rb,rc,hi,rfl,hP⟩:=hrel;clear hP0;have hbW:=hP.blw;have hbw:Below w.heap.size w wr:=BW.trans (hbW.mono o_);obtain⟨x0,x1,_,_⟩:=aa_ ((hbW.block _ o_).trans b0);obtain⟨y0,y1,z0,z1⟩:=aa_ hP.blk;obtain⟨al,cl,rfl,hal⟩:=af_ hP.own;have hsz:=ac_ hP.blk;by_cases hlt:i<nn
   . obtain⟨bn,on,en,hc⟩:=(h.below hbw).row i (show i<nn from hlt);have en':an=some ⟨bn,on,none⟩:=en;subst en';have hc':wr.cell? ⟨bn,on+i,none⟩=some (.slice (ra i) (rl i) (rc0 i)):=hc;have hcel:∀c,c<rl i->∃b o,ra i=some ⟨b,o,none⟩/\wr.cell? ⟨b,o+c,none⟩=some (.int .i64 (X i c)):=fun c hcl=>(h.below hbw).cel i c (show i<nn from hlt) (show c<rl i from hcl)
     have hrl:=hb3 i hlt;have HP:Hid _:=hP;have H0:Hid _:=h;clear hP hal h en hc;by_cases hr0:rl i=0
     . obtain⟨rai,HRA⟩:=hx__ (ra i);obtain⟨rci,HRC⟩:=hx__ (rc0 i);rw[hr0,HRA.out,HRC.out]at hc';have HR0:Hid (rl i=0):=hr0;have HPa:Hid _:=HP.out.below (br__.alloc lr__ (.cells #[.slice none 0 0] 24));have hna:=HPa.out.own;have hbo:w.heap.size+1+1+1<=(wr.alloc (.cells #[.slice none 0 0] 24)).heap.size:=s_;have HG:∀(g cap:Nat) (w2:World),w2.ownsRow (w.heap.size+1+1+1) 24 1 (.slice (some ⟨g,0,none⟩) (i+1) cap) (i+1) ((List.range i).map (rowv rb rl rc)++ [.slice none 0 0])->(wr.alloc (.cells #[.slice none 0 0] 24)).grownBy w2 (Value.slice al i cl).ownBlock->
        w2.heap[w.heap.size+1+1]? =some (.cells #[lstv ga na ca',.slice al i cl] 41 (0,0))/\Hid (da_ W w.heap.size (w2.setCell ⟨w.heap.size+1+1,1,none⟩ (.slice (some ⟨g,0,none⟩) (i+1) cap)) (lstv ga na ca') (.slice (some ⟨g,0,none⟩) (i+1) cap) (i+1) ga na (fun j=>if j=i then 0 else rb j) rl (fun j=>if j=i then 0 else rc j) A X):=by
        intro g cap w2 ho hg;refine HPa.out.app 0 0 (fun hl=>absurd hl (by have:=HR0.out;omega)) (fun j hj hl e=> ?_) (by rw[HR0.out];exact ho) hg;have:=(HPa.out.row j hj hl).1;omega
       clear hr0 hcel;go_wp2_with (first|(at_builtin;refine eu_ _ rfl _ _ 24 rfl 3 i3 underlying24 hi3 rai rci rfl rfl ?_)|(at_builtin;refine ae_ _ rfl _ _ 39 rfl (w.heap.size+1+1+1) 24 i0 (.slice none 0 0) 1 24 underlying39 hi0 hz0 hz01 hz02 rfl d_ _ i _ rfl hna ⟨wr.heap.size,0,none⟩ 1 1 [.slice none 0 0] rfl rfl (cell_one_new _ _ _) (oc__ rfl) d_ u_ o_ hbo ?_;intro g cap w2 hown hgr hfr;obtain⟨f0,F⟩:=HG g cap w2 hown hgr;obtain⟨f1,f2,f3,f4⟩:=aa_ f0));go_roundw
       case rel=>exact⟨i+1,_,_,_,o_,by go_num,F.out⟩
       case measure=>simp[intOf];omega
     . obtain⟨b,o,era,_⟩:=hcel 0 o_;have hce:∀c,c<rl i->wr.cell? ⟨b,o+c,none⟩=some (.int .i64 (X i c)):=fun c hcl=>by
        obtain⟨b',o',e',h'⟩:=hcel c hcl;rw[era]at e';injection e' with e';injection e' with e1 e2;subst e1;subst e2;exact h'
       rw[era]at hc';obtain⟨rli,HRL⟩:=hx__ (rl i);obtain⟨rci,HRC⟩:=hx__ (rc0 i);obtain⟨xi,HXI⟩:=hx__ (X i);rw[HRL.out,HRC.out]at hc';rw[HRL.out,HXI.out]at hce;rw[HRL.out]at hrl hr0;have HCE:Hid _:=hce;clear hcel hce era;have HG1:∀(cap:Nat) (w1:World),ar_ w1 wr.heap.size 3 rli (fun c=> .int .i64 (xi c))->wr.grownBy w1 none->
        w1.heap[w.heap.size+1+1]? =some (.cells #[lstv ga na ca',.slice al i cl] 41 (0,0))/\wr.heap.size<w1.heap.size/\
        Hid (da_ W w.heap.size (w1.alloc (.cells #[.slice (some ⟨wr.heap.size,0,none⟩) rli cap] 24)) (lstv ga na ca') (.slice al i cl) i ga na rb rl rc A X/\
         ar_ (w1.alloc (.cells #[.slice (some ⟨wr.heap.size,0,none⟩) rli cap] 24)) wr.heap.size 3 (rl i) (fun c=> .int .i64 (X i c))):=by
        intro cap w1 hR hg;have hB:=hh_ hg;refine⟨by rw[hB.block _ hsz];exact HP.out.blk,hR.lt,(HP.out.below hB).below ba__, ?_⟩;rw[HRL.out,HXI.out];exact hR.alloc _
       have HG2:∀(cap:Nat) (w1:World),Hid (da_ W w.heap.size (w1.alloc (.cells #[.slice (some ⟨wr.heap.size,0,none⟩) rli cap] 24)) (lstv ga na ca') (.slice al i cl) i ga na rb rl rc A X/\
        ar_ (w1.alloc (.cells #[.slice (some ⟨wr.heap.size,0,none⟩) rli cap] 24)) wr.heap.size 3 (rl i) (fun c=> .int .i64 (X i c)))->∀(g cap2:Nat) (w2:World),w2.ownsRow (w.heap.size+1+1+1) 24 1 (.slice (some ⟨g,0,none⟩) (i+1) cap2) (i+1) ((List.range i).map (rowv rb rl rc)++ [.slice (some ⟨wr.heap.size,0,none⟩) rli cap])->(w1.alloc (.cells #[.slice (some ⟨wr.heap.size,0,none⟩) rli cap] 24)).grownBy w2 (Value.slice al i cl).ownBlock->
        w2.heap[w.heap.size+1+1]? =some (.cells #[lstv ga na ca',.slice al i cl] 41 (0,0))/\Hid (da_ W w.heap.size (w2.setCell ⟨w.heap.size+1+1,1,none⟩ (.slice (some ⟨g,0,none⟩) (i+1) cap2)) (lstv ga na ca') (.slice (some ⟨g,0,none⟩) (i+1) cap2) (i+1) ga na (fun j=>if j=i then wr.heap.size else rb j) rl (fun j=>if j=i then cap else rc j) A X):=by
        intro cap w1 hh g cap2 w2 ho hg;refine hh.out.1.app wr.heap.size cap (fun hl=>⟨o_,hh.out.2⟩) (fun j hj hl e=> ?_) (by rw[if_neg (by rw[HRL.out];exact hr0),HRL.out];exact ho) hg;have:=(HP.out.row j hj hl).2.lt;omega
       go_wp2_with (first|(at_builtin;refine ev_ _ rfl _ _ 24 rfl 3 i3 (.int .i64 0) 8 underlying24 hi3 hz3 hz31 hz32 rfl b o rli rci (fun c=> .int .i64 (xi c)) rfl rfl HCE.out (fun j=>rfl) o_ u_ o_ ?_;intro cap w1 hR hgr;obtain⟨e0,e1,E⟩:=HG1 cap w1 hR hgr;obtain⟨e2,e3,e4,e5⟩:=aa_ e0;have hna:=E.out.1.own;clear hR hgr HG1)|(at_builtin;refine ae_ _ rfl _ _ 39 rfl (w.heap.size+1+1+1) 24 i0 (.slice none 0 0) 1 24 underlying39 hi0 hz0 hz01 hz02 rfl d_ _ i _ rfl hna ⟨w1.heap.size,0,none⟩ 1 1 [.slice (some ⟨wr.heap.size,0,none⟩) rli cap] rfl rfl (cell_one_new _ _ _) (oc__ rfl) d_ u_ o_ s_ ?_;intro g cap2 w2 hown hgr hfr;obtain⟨f0,F⟩:=HG2 cap w1 E g cap2 w2 hown hgr;obtain⟨f1,f2,f3,f4⟩:=aa_ f0));go_roundw
       case rel=>exact⟨i+1,_,_,_,o_,by go_num,F.out⟩
       case measure=>simp[intOf];omega
   . have he:i=nn:=o_;subst he;have hq:wr.heap[w.heap.size+1]? =some (.cells #[.slice none 0 0,.slice none 0 0] 41 (0,0)):=(hbW.block _ o_).trans b1;obtain⟨q0,q1,p0,p1⟩:=aa_ hq;have HP:Hid _:=hP;have HAL:Hid _:=hal;clear hP hal h;obtain⟨va1,va2,va3,HVA⟩:∃x y z,Hid (lstv ga na ca'= .slice x y z):=by unfold lstv Hid;split<;>exact⟨_,_,_,rfl⟩
     rw[HVA.out]at y0;go_wp2_with fail;obtain⟨r1,r2,r3⟩:=a7_ (u:= .slice va1 va2 va3) (v:= .slice al i cl) hq;refine bodyPost_ret (v:= .agg #[.slice va1 va2 va3,.slice al i cl]) (by simp[results,results96,go_sem,r1,r2]) rfl ?_;have hp:=HP.out;refine⟨(hbw.setCell (p:=⟨w.heap.size+1,0,none⟩) i_ _).setCell (p:=⟨w.heap.size+1,1,none⟩) i_ _,ga,ca', ?_⟩;by_cases h0:i=0
     . subst h0;refine⟨0,0,rb,rc, ?_,fun hn=>⟨by have:=(hp.acc hn).1;omega,(((hp.acc hn).2.setOther (by have:=(hp.acc hn).1;simp;omega) _).setOther (by have:=(hp.acc hn).1;simp;omega) _)⟩,fun h=>absurd h o_,fun j hj=>absurd hj o_,fun j k _ hk=>absurd hk o_⟩;rw[HVA.out];rw[hp.nil0 rfl];rfl
     . obtain⟨gl,rfl,_⟩:=HAL.out o_;refine⟨gl,cl,rb,rc, ?_,fun hn=>⟨by have:=(hp.acc hn).1;omega,(((hp.acc hn).2.setOther (by have:=(hp.acc hn).1;simp;omega) _).setOther (by have:=(hp.acc hn).1;simp;omega) _)⟩,fun _=>⟨by have:=(hp.own.lt gl rfl).1;omega, ?_⟩,fun j hj hl=> ?_,hp.dis⟩
       . rw[HVA.out];unfold lstv;rw[if_neg h0]
       . have hlo:=(hp.own.lt gl rfl).1;exact(((ar_.ofOwn hp.own (fun j hj=>hu_ _ _ j hj)).setOther s_ _).setOther s_ _)
       . have:=hp.row j hj hl;exact⟨o_,((this.2.setOther s_ _).setOther s_ _)⟩
theorem k0_ (V:Lay)(M:Tab)(w:World)(hM:M.Ok)(hV:av_ w V M):
 Calls prog 96 #[.agg #[.slice (some ⟨V.ba,V.oa,none⟩) M.n V.ca,.slice (some ⟨V.bn,V.on,none⟩) M.n V.cn]] w
  fun e w'=>∃U:Lay,e= .returned (.agg #[.slice (some ⟨U.ba,U.oa,none⟩) M.n U.ca,.slice (some ⟨U.bn,U.on,none⟩) M.n U.cn])/\av_ w' U M/\U.From w.heap.size M.n/\Below w.heap.size w w':=by
 have h1:=hM.lo;have h2:=hM.hi;refine(wl_ _ _ _ _ _ _ _ _ _ _ _ w (hV.raw hM) o_ o_ (fun i hi=>o_)).mono ?_;rintro e w' ⟨hB,ga,ca,gn,cn,rb,rc,rfl,hC⟩;have n0:M.n≠0:=o_;refine⟨⟨ga,0,ca,gn,0,cn,rb,fun _=>0,rc⟩, ?_,⟨fun i hi=> ?_,fun i hi=> ?_,fun i c hi hc=> ?_⟩,⟨(hC.acc o_).1,(hC.nxt o_).1,fun i hi=>(hC.row i hi o_).1⟩,hB⟩
 . simp only[lstv,n0,if_false]
 . simp only[Nat.zero_add];exact(hC.acc o_).2.cell hi
 . simp only[Nat.zero_add];rw[(hC.nxt o_).2.cell hi];simp[rowv]
 . simp only[Nat.zero_add];exact(hC.row i hi o_).2.cell hc
theorem aby_ (r:RLay)(A:Nat->Bool)(X:Nat->Nat->Int)(w:World)(b:Nat)(h:cz_ w r A X)(hok:c0_ r X=false):
 Calls prog 57 #[.pointer (some ⟨b,0,none⟩),.agg #[.slice r.aa r.na r.ca,.slice r.an r.nn r.cn]] w
  fun e w'=>e= .returned (.tuple #[.int .i64 0,.int .i64 6])/\Below w.heap.size w w':=by
 have B1:Below w.heap.size w (w.alloc (.cells #[.slice r.aa r.na r.ca,.slice r.an r.nn r.cn] 41)):=br__.alloc lr__ _;have HV:=tz_ r A X _ (h.below B1);rw[hok]at HV;clear h hok;go_enter func57,ntmps57;go_wp2_with fail;refine HV.mono ?_;rintro e w1 ⟨rfl,hb1⟩;have B2:Below w.heap.size w w1:=B1.trans (hb1.mono i_);clear HV hb1;go_wp2_with fail;go_ret2;exact⟨rfl,B2⟩
theorem wm_ (V:Lay)(M:Tab)(w:World)(b n:Nat)(ry:Value)(t:Nat->ByteArray)(c:Nat->Cu)(hM:M.Ok)(hV:av_ w V M)(h:ByAt w b ry t n (cuv c))(hf:cb_ c=4):
 Calls prog 57 #[.pointer (some ⟨b,0,none⟩),.agg #[.slice (some ⟨V.ba,V.oa,none⟩) M.n V.ca,.slice (some ⟨V.bn,V.on,none⟩) M.n V.cn]] w
  fun e w'=>e= .returned (.tuple #[.int .i64 0,.int .i64 9])/\Below w.heap.size w w':=by
 have B1:Below w.heap.size w (w.alloc (.cells #[.slice (some ⟨V.ba,V.oa,none⟩) M.n V.ca,.slice (some ⟨V.bn,V.on,none⟩) M.n V.cn] 41)):=br__.alloc lr__ _;have HV:=n3_ V M _ hM (hV.below B1);have HO:Hid (∀i,i<4->(c i).op=true):=fun i hi=>h9_ o_
 have HB:=hi__ h;clear h hV hM hf;go_enter func57,ntmps57;go_wp2_with fail;refine HV.mono ?_;rintro e w1 ⟨rfl,hb1⟩;have B2:Below w.heap.size w w1:=B1.trans (hb1.mono i_);clear HV hb1;go_wp2_with fail;go_loopw [7] (fun i' wr=>∃i:Nat,i<=4/\i'= .int .i64 (i:Int)/\wr=w1) (fun i' _=>4 - (intOf i').toNat)
 case atStart=>exact⟨0,o_,rfl,rfl⟩
 case round=>
  obtain⟨i,hi,rfl,rfl⟩:=hrel;have hx:=HB.out.below B2;rcases (show i=0\/i=1\/i=2\/i=3\/i=4 by omega)with rfl|rfl|rfl|rfl|rfl
  . obtain⟨c0,_⟩:=hx.cu (k:=0) o_;rw[HO.out 0 o_]at c0;clear hx;go_wp2_with fail;go_roundw
    case rel=>exact⟨1,o_,by go_num,trivial⟩
    case measure=>simp[intOf]
  . obtain⟨c0,_⟩:=hx.cu (k:=1) o_;rw[HO.out 1 o_]at c0;clear hx;go_wp2_with fail;go_roundw
    case rel=>exact⟨2,o_,by go_num,trivial⟩
    case measure=>simp[intOf]
  . obtain⟨c0,_⟩:=hx.cu (k:=2) o_;rw[HO.out 2 o_]at c0;clear hx;go_wp2_with fail;go_roundw
    case rel=>exact⟨3,o_,by go_num,trivial⟩
    case measure=>simp[intOf]
  . obtain⟨c0,_⟩:=hx.cu (k:=3) o_;rw[HO.out 3 o_]at c0;clear hx;go_wp2_with fail;go_roundw
    case rel=>exact⟨4,o_,by go_num,trivial⟩
    case measure=>simp[intOf]
  . clear hx;go_wp2_with fail;go_ret2;exact⟨rfl,B2⟩
theorem abz_ (V:Lay)(M:Tab)(w:World)(b n:Nat)(ry:Value)(t:Nat->ByteArray)(c:Nat->Cu)(hM:M.Ok)(hV:av_ w V M)(h:ByAt w b ry t n (cuv c))(hf:cb_ c<4):
 Calls prog 57 #[.pointer (some ⟨b,0,none⟩),.agg #[.slice (some ⟨V.ba,V.oa,none⟩) M.n V.ca,.slice (some ⟨V.bn,V.on,none⟩) M.n V.cn]] w
  fun e w'=>∃U:Lay,e= .returned (.tuple #[.int .i64 (cb_ c:Int),.int .i64 0])/\av_ w' U M/\U.From w.heap.size M.n/\ByAt w' b ry t n (cuv (b3_ c (cb_ c) (cq_ U M.n)))/\ab_ (fun k=>k=b) w w':=by
 have B1:Below w.heap.size w (w.alloc (.cells #[.slice (some ⟨V.ba,V.oa,none⟩) M.n V.ca,.slice (some ⟨V.bn,V.on,none⟩) M.n V.cn] 41)):=br__.alloc lr__ _;have hk0:(w.alloc (.cells #[.slice (some ⟨V.ba,V.oa,none⟩) M.n V.ca,.slice (some ⟨V.bn,V.on,none⟩) M.n V.cn] 41)).heap[w.heap.size]? =some (.cells #[.slice (some ⟨V.ba,V.oa,none⟩) M.n V.ca,.slice (some ⟨V.bn,V.on,none⟩) M.n V.cn] 41 (0,0)):=ag_ i_;have HV:=n3_ V M _ hM (hV.below B1);have HO:Hid (∀i,i<cb_ c->(c i).op=true):=fun i hi=>h9_ hi
 have HS:Hid ((c (cb_ c)).op=false):=ov_ hf;have HB:=hi__ h;have HBl:b<w.heap.size:=World.rowIs.lt h.1;have HT:=hi__ hV;obtain⟨f,HF⟩:=hx__ (cb_ c);rw[HF.out]at hf HO HS ⊢;clear h hV HF;go_enter func57,ntmps57;go_wp2_with fail;refine HV.mono ?_;rintro e w1 ⟨rfl,hb1⟩;have B2:Below w.heap.size w w1:=B1.trans (hb1.mono i_);have hk1:=(hb1.block _ i_).trans hk0;have hs1:=ac_ hk1;clear HV hb1 hk0 B1;go_wp2_with fail;go_loopw [7] (fun i' wr=>∃i:Nat,i<=f/\i'= .int .i64 (i:Int)/\wr=w1) (fun i' _=>4 - (intOf i').toNat)
 case atStart=>exact⟨0,o_,rfl,rfl⟩
 case round=>
  obtain⟨i,hi,rfl,rfl⟩:=hrel;have hx:=HB.out.below B2;obtain⟨x0,x1,_,_⟩:=aa_ hk1;rcases (show i=0\/i=1\/i=2\/i=3 by omega)with rfl|rfl|rfl|rfl
  . obtain⟨c0,d0⟩:=hx.cu (k:=0) o_;by_cases hl:0<f
    . rw[HO.out 0 hl]at c0;clear hx d0 hk1;go_wp2_with fail;go_roundw
      case rel=>exact⟨1,o_,by go_num,trivial⟩
      case measure=>simp[intOf]
    . obtain rfl:f=0:=o_;rw[HS.out]at c0;have B3:Below w.heap.size w wr.drew:=B2.drew;have HC:=k0_ V M wr.drew hM (HT.out.below B3);clear d0 hk1 hl hi hx;go_wp2_with fail;go_region_with (go_at_call 96;refine HC.mono ?_;rintro e w2 ⟨U,rfl,hU,hUF,hb2⟩;have hs2:wr.heap.size<=w2.heap.size:=hb2.size;have hx2:=(HB.out.below B3).below hb2;have B4:Below w.heap.size w w2:=B3.trans (hb2.mono (by show _<=wr.heap.size;omega));have g0:=World.rowIs.frozen hx2.1 1;have g1:=World.rowIs.frozen hx2.1 (1+1);have g2:=World.rowIs.frozen hx2.1 (1+2);have g3:=World.rowIs.frozen hx2.1 (1+3);have g4:=World.rowIs.frozen hx2.1 (1+4);obtain⟨d0,d1,d2,d3,d4⟩:=hx2.cu (k:=0) o_;have HU:Hid (av_ w2 U M):=hU;have HX:Hid (ByAt w2 b ry t n (cuv c)):=hx2;have HUF:Hid (U.From w.heap.size M.n):=hUF.mono (by show _<=wr.heap.size;omega);clear hU hx2 hUF hb2)
      all_goals go_wp2_with fail
      all_goals go_ret2
      all_goals
       obtain⟨WF,hWF⟩:=ew__ (((((w2.setCell ⟨b,1,none⟩ (.bool true)).setCell ⟨b,2,none⟩ (.slice (some ⟨U.ba,U.oa,none⟩) M.n U.ca)).setCell ⟨b,3,none⟩ (.slice (some ⟨U.bn,U.on,none⟩) M.n U.cn)).setCell ⟨b,4,none⟩ (.bool false)).setCell ⟨b,5,none⟩ (.string ⟨#[]⟩));have hp:ByAt WF b ry t n (cuv (b3_ c 0 (cq_ U M.n)))/\ab_ (fun k=>k=b) w2 WF:=by rw[hWF];exact HX.out.put5 (k:=0) o_ (cq_ U M.n)
       rw[<-hWF];clear hWF;exact⟨U,rfl,HU.out.touch1 HUF.out hp.2 o_,HUF.out,hp.1,ci_ (bm_ B4) hp.2⟩
  . obtain⟨c0,d0⟩:=hx.cu (k:=1) o_;by_cases hl:1<f
    . rw[HO.out 1 hl]at c0;clear hx d0 hk1;go_wp2_with fail;go_roundw
      case rel=>exact⟨2,o_,by go_num,trivial⟩
      case measure=>simp[intOf]
    . obtain rfl:f=1:=o_;rw[HS.out]at c0;have B3:Below w.heap.size w wr.drew:=B2.drew;have HC:=k0_ V M wr.drew hM (HT.out.below B3);clear d0 hk1 hl hi hx;go_wp2_with fail;go_region_with (go_at_call 96;refine HC.mono ?_;rintro e w2 ⟨U,rfl,hU,hUF,hb2⟩;have hs2:wr.heap.size<=w2.heap.size:=hb2.size;have hx2:=(HB.out.below B3).below hb2;have B4:Below w.heap.size w w2:=B3.trans (hb2.mono (by show _<=wr.heap.size;omega));have g0:=World.rowIs.frozen hx2.1 6;have g1:=World.rowIs.frozen hx2.1 (6+1);have g2:=World.rowIs.frozen hx2.1 (6+2);have g3:=World.rowIs.frozen hx2.1 (6+3);have g4:=World.rowIs.frozen hx2.1 (6+4);obtain⟨d0,d1,d2,d3,d4⟩:=hx2.cu (k:=1) o_;have HU:Hid (av_ w2 U M):=hU;have HX:Hid (ByAt w2 b ry t n (cuv c)):=hx2;have HUF:Hid (U.From w.heap.size M.n):=hUF.mono (by show _<=wr.heap.size;omega);clear hU hx2 hUF hb2)
      all_goals go_wp2_with fail
      all_goals go_ret2
      all_goals
       obtain⟨WF,hWF⟩:=ew__ (((((w2.setCell ⟨b,6,none⟩ (.bool true)).setCell ⟨b,7,none⟩ (.slice (some ⟨U.ba,U.oa,none⟩) M.n U.ca)).setCell ⟨b,8,none⟩ (.slice (some ⟨U.bn,U.on,none⟩) M.n U.cn)).setCell ⟨b,9,none⟩ (.bool false)).setCell ⟨b,10,none⟩ (.string ⟨#[]⟩));have hp:ByAt WF b ry t n (cuv (b3_ c 1 (cq_ U M.n)))/\ab_ (fun k=>k=b) w2 WF:=by rw[hWF];exact HX.out.put5 (k:=1) o_ (cq_ U M.n)
       rw[<-hWF];clear hWF;exact⟨U,rfl,HU.out.touch1 HUF.out hp.2 o_,HUF.out,hp.1,ci_ (bm_ B4) hp.2⟩
  . obtain⟨c0,d0⟩:=hx.cu (k:=2) o_;by_cases hl:2<f
    . rw[HO.out 2 hl]at c0;clear hx d0 hk1;go_wp2_with fail;go_roundw
      case rel=>exact⟨3,o_,by go_num,trivial⟩
      case measure=>simp[intOf]
    . obtain rfl:f=2:=o_;rw[HS.out]at c0;have B3:Below w.heap.size w wr.drew:=B2.drew;have HC:=k0_ V M wr.drew hM (HT.out.below B3);clear d0 hk1 hl hi hx;go_wp2_with fail;go_region_with (go_at_call 96;refine HC.mono ?_;rintro e w2 ⟨U,rfl,hU,hUF,hb2⟩;have hs2:wr.heap.size<=w2.heap.size:=hb2.size;have hx2:=(HB.out.below B3).below hb2;have B4:Below w.heap.size w w2:=B3.trans (hb2.mono (by show _<=wr.heap.size;omega));have g0:=World.rowIs.frozen hx2.1 11;have g1:=World.rowIs.frozen hx2.1 (11+1);have g2:=World.rowIs.frozen hx2.1 (11+2);have g3:=World.rowIs.frozen hx2.1 (11+3);have g4:=World.rowIs.frozen hx2.1 (11+4);obtain⟨d0,d1,d2,d3,d4⟩:=hx2.cu (k:=2) o_;have HU:Hid (av_ w2 U M):=hU;have HX:Hid (ByAt w2 b ry t n (cuv c)):=hx2;have HUF:Hid (U.From w.heap.size M.n):=hUF.mono (by show _<=wr.heap.size;omega);clear hU hx2 hUF hb2)
      all_goals go_wp2_with fail
      all_goals go_ret2
      all_goals
       obtain⟨WF,hWF⟩:=ew__ (((((w2.setCell ⟨b,11,none⟩ (.bool true)).setCell ⟨b,12,none⟩ (.slice (some ⟨U.ba,U.oa,none⟩) M.n U.ca)).setCell ⟨b,13,none⟩ (.slice (some ⟨U.bn,U.on,none⟩) M.n U.cn)).setCell ⟨b,14,none⟩ (.bool false)).setCell ⟨b,15,none⟩ (.string ⟨#[]⟩));have hp:ByAt WF b ry t n (cuv (b3_ c 2 (cq_ U M.n)))/\ab_ (fun k=>k=b) w2 WF:=by rw[hWF];exact HX.out.put5 (k:=2) o_ (cq_ U M.n)
       rw[<-hWF];clear hWF;exact⟨U,rfl,HU.out.touch1 HUF.out hp.2 o_,HUF.out,hp.1,ci_ (bm_ B4) hp.2⟩
  . obtain⟨c0,d0⟩:=hx.cu (k:=3) o_;by_cases hl:3<f
    . omega
    . obtain rfl:f=3:=o_;rw[HS.out]at c0;have B3:Below w.heap.size w wr.drew:=B2.drew;have HC:=k0_ V M wr.drew hM (HT.out.below B3);clear d0 hk1 hl hi hx;go_wp2_with fail;go_region_with (go_at_call 96;refine HC.mono ?_;rintro e w2 ⟨U,rfl,hU,hUF,hb2⟩;have hs2:wr.heap.size<=w2.heap.size:=hb2.size;have hx2:=(HB.out.below B3).below hb2;have B4:Below w.heap.size w w2:=B3.trans (hb2.mono (by show _<=wr.heap.size;omega));have g0:=World.rowIs.frozen hx2.1 16;have g1:=World.rowIs.frozen hx2.1 (16+1);have g2:=World.rowIs.frozen hx2.1 (16+2);have g3:=World.rowIs.frozen hx2.1 (16+3);have g4:=World.rowIs.frozen hx2.1 (16+4);obtain⟨d0,d1,d2,d3,d4⟩:=hx2.cu (k:=3) o_;have HU:Hid (av_ w2 U M):=hU;have HX:Hid (ByAt w2 b ry t n (cuv c)):=hx2;have HUF:Hid (U.From w.heap.size M.n):=hUF.mono (by show _<=wr.heap.size;omega);clear hU hx2 hUF hb2)
      all_goals go_wp2_with fail
      all_goals go_ret2
      all_goals
       obtain⟨WF,hWF⟩:=ew__ (((((w2.setCell ⟨b,16,none⟩ (.bool true)).setCell ⟨b,17,none⟩ (.slice (some ⟨U.ba,U.oa,none⟩) M.n U.ca)).setCell ⟨b,18,none⟩ (.slice (some ⟨U.bn,U.on,none⟩) M.n U.cn)).setCell ⟨b,19,none⟩ (.bool false)).setCell ⟨b,20,none⟩ (.string ⟨#[]⟩));have hp:ByAt WF b ry t n (cuv (b3_ c 3 (cq_ U M.n)))/\ab_ (fun k=>k=b) w2 WF:=by rw[hWF];exact HX.out.put5 (k:=3) o_ (cq_ U M.n)
       rw[<-hWF];clear hWF;exact⟨U,rfl,HU.out.touch1 HUF.out hp.2 o_,HUF.out,hp.1,ci_ (bm_ B4) hp.2⟩
end Go.Proofs.YtpngikmcjkjdaaaGreatDoor
