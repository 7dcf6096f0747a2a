import Derived.Test.YtpngikmcjkjdaaaGreatDoorG0
import Derived.Test.YtpngikmcjkjdaaaGreatDoorG9
set_option linter.unusedVariables false
set_option linter.unusedSimpArgs false
set_option maxRecDepth 20000
set_option maxHeartbeats 80000000
namespace Go.Proofs.YtpngikmcjkjdaaaGreatDoor
open Go.RowKit Tryz
def as_ (d:Cu)(M:Tab)(t:Nat->ByteArray):Nat->List ByteArray
 |0=> []
 |i+1=>if dx_ d M (t i)then as_ d M t i++ [t i]else as_ d M t i
theorem gs_ {d:Cu}{M:Tab}{t:Nat->ByteArray}{i:Nat}(h:dx_ d M (t i)=true):as_ d M t (i+1)=as_ d M t i++ [t i]:=by rw[as_,if_pos h]
theorem ih_ {d:Cu}{M:Tab}{t:Nat->ByteArray}{i:Nat}(h:dx_ d M (t i)=false):as_ d M t (i+1)=as_ d M t i:=by rw[as_,h];rfl
theorem i4_ (d:Cu)(M:Tab)(t:Nat->ByteArray):∀i,(as_ d M t i).length<=i
 |0=>by simp[as_]
 |i+1=>by
  have:=i4_ d M t i;cases h:dx_ d M (t i)with
  |true=>rw[gs_ h];simp;omega
  |false=>rw[ih_ h];omega
theorem pr_ (d:Cu)(M:Tab)(t:Nat->ByteArray)(i:Nat):∀k,as_ d M t i<+:as_ d M t (i+k)
 |0=>List.prefix_rfl
 |k+1=>by
  have ih:=pr_ d M t i k;rw[<-Nat.add_assoc];cases h:dx_ d M (t (i+k))with
  |true=>rw[gs_ h];exact ih.trans (List.prefix_append _ _)
  |false=>rw[ih_ h];exact ih
def bx_ (d:Cu)(M:Tab)(t:Nat->ByteArray)(n limit:Nat):List ByteArray:=(as_ d M t n).take limit
def df_ (d:Cu)(M:Tab)(t:Nat->ByteArray)(n limit:Nat):Bool:=decide ((as_ d M t n).length<=limit)
theorem vy_ {d:Cu}{M:Tab}{t:Nat->ByteArray}{n limit:Nat}(h:(as_ d M t n).length<=limit):bx_ d M t n limit=as_ d M t n/\df_ d M t n limit=true:=by
 exact⟨List.take_of_length_le h,by simp[df_,h]⟩
theorem vz_ {d:Cu}{M:Tab}{t:Nat->ByteArray}{n limit i:Nat}(hi:i<n)(h:(as_ d M t i).length=limit)(hw:dx_ d M (t i)=true):bx_ d M t n limit=as_ d M t i/\df_ d M t n limit=false:=by
 have hp:=pr_ d M t (i+1) (n - (i+1));rw[Nat.add_sub_cancel' o_,gs_ hw]at hp;have hp2:as_ d M t i<+:as_ d M t n:=(List.prefix_append _ _).trans hp;have hl:=hp.length_le;rw[List.length_append,List.length_singleton,h]at hl;refine⟨?_,by simp[df_];omega⟩;rw[bx_,<-h];exact(List.prefix_iff_eq_take.1 hp2).symm
theorem xs_ (w:World)(bx n limit:Nat)(t:Nat->ByteArray)(cx:Nat->Value)(d:Cu)(V:Lay)(M:Tab)(h:BxAt w bx t n cx)(hn:n<=60)(hl:limit<=50)(htu:∀i,i<n->de_ (t i)=true)(hA:d.vA= .slice (some ⟨V.ba,V.oa,none⟩) M.n V.ca)(hN:d.vN= .slice (some ⟨V.bn,V.on,none⟩) M.n V.cn)(hM:M.Ok)(hT:av_ w V M):
 Calls prog 131 #[.pointer (some ⟨bx,0,none⟩),.agg #[.bool d.op,d.vA,d.vN,.bool d.bg,.string d.la],.int .i64 (limit:Int)] w fun e w'=>Below w.heap.size w w'/\∃v,e= .returned (.tuple #[v,.bool (df_ d M t n limit)])/\w'.ownsRow w.heap.size 9 1 v (bx_ d M t n limit).length (strs (bx_ d M t n limit)):=by
 obtain⟨i0,hi0,hz0,hz01,hz02⟩:=info_parts jq_;obtain⟨W,hW,BW,hWs,b0⟩:=nw__ w #[.bool d.op,.slice (some ⟨V.ba,V.oa,none⟩) M.n V.ca,.slice (some ⟨V.bn,V.on,none⟩) M.n V.cn,.bool d.bg,.string d.la] 67;have HCC:∀wj,Below W.heap.size W wj->wj.cell? ⟨w.heap.size,0,none⟩=some (.bool d.op)/\wj.cell? ⟨w.heap.size,1,none⟩=some (.slice (some ⟨V.ba,V.oa,none⟩) M.n V.ca)/\wj.cell? ⟨w.heap.size,2,none⟩=some (.slice (some ⟨V.bn,V.on,none⟩) M.n V.cn)/\wj.cell? ⟨w.heap.size,3,none⟩=some (.bool d.bg)/\wj.cell? ⟨w.heap.size,4,none⟩=some (.string d.la):=fun wj hb=>by
  have:=(hb.block _ hWs).trans b0;simp[World.cell?,this]
 have HWANT:Hid (∀(wj:World) (s:ByteArray),av_ wj V M->de_ s=true->Calls prog 160 #[.agg #[.bool d.op,.slice (some ⟨V.ba,V.oa,none⟩) M.n V.ca,.slice (some ⟨V.bn,V.on,none⟩) M.n V.cn,.bool d.bg,.string d.la],.string s] wj fun e w'=>e= .returned (.bool (dx_ d M s))/\Below wj.heap.size wj w'):=fun wj s h1 h2=>by
  have:=ac9_ wj d V M s hA hN hM h1 h2;rw[hA,hN]at this;exact this
 rw[hA,hN];clear hA hN b0;go_enter func131,ntmps131;go_upto_region 1 with fail;rw[<-hW];clear hW;go_wp2_with fail;go_loopw [8,9] (fun v i' wr=>∃i:Nat,i<=n/\i'= .int .i64 (i:Int)/\Below W.heap.size W wr/\wr.ownsRow W.heap.size 9 1 v (as_ d M t i).length (strs (as_ d M t i))/\(as_ d M t i).length<=limit) (fun _ i' _=>n - (intOf i').toNat)
 case atStart=>exact⟨0,o_,rfl,br__,on__,by simp[as_]⟩
 case round=>
  obtain⟨i,hi,rfl,hb,hown,hlen⟩:=hrel;obtain⟨oa,oc,hv,_⟩:=af_ hown;subst hv;have hbw:Below w.heap.size w wr:=BW.trans (hb.mono o_);have hx:=h.below hbw;have c60:=hx.cnt;have hbs:=hb.size;have HB:Hid (Below W.heap.size W wr):=hb;have HO:Hid (wr.ownsRow W.heap.size 9 1 (.slice oa (as_ d M t i).length oc) (as_ d M t i).length (strs (as_ d M t i))):=hown;by_cases hlt:i<n
  . have cI:=hx.tune hn hlt;obtain⟨k0,k1,k2,k3,k4⟩:=HCC wr hb;have q1:(i:Int)<(n:Int):=o_;have HW:=HWANT.out wr (t i) (hT.below hbw) (htu i hlt);clear hx hb hown h hT;cases hwb:dx_ d M (t i)with
    |false=>
     rw[hwb]at HW;have HNO:Hid (as_ d M t (i+1)=as_ d M t i):=ih_ hwb;clear hwb;go_wp2_with (go_at_call 160;refine HW.mono ?_;rintro e w2 ⟨rfl,hb2⟩;have HB2:Hid (Below wr.heap.size wr w2):=hb2;clear hb2);go_roundw
     case rel=>
      refine⟨i+1,o_,by go_num,HB.out.trans (HB2.out.mono hbs), ?_,by rw[HNO.out];omega⟩;rw[HNO.out];exact al_ HO.out HB2.out
     case measure=>simp[intOf];omega
    |true=>
     rw[hwb]at HW;by_cases hfull:(as_ d M t i).length=limit
     . obtain⟨f1,f2⟩:=vz_ hlt hfull hwb;have HF1:Hid (bx_ d M t n limit=as_ d M t i):=f1;have HF2:Hid (df_ d M t n limit=false):=f2;have q2:(((as_ d M t i).length:Int)==(limit:Int))=true:=by simp[hfull]
       clear hwb f1 f2 hfull;go_wp2_with (go_at_call 160;refine HW.mono ?_;rintro e w2 ⟨rfl,hb2⟩;have HB2:Hid (Below wr.heap.size wr w2):=hb2;clear hb2);go_ret2;refine⟨BW.trans ((HB.out.trans (HB2.out.mono hbs)).mono o_),.slice oa (as_ d M t i).length oc, ?_, ?_⟩
       . rw[HF2.out];rfl
       . rw[HF1.out];have:=al_ HO.out HB2.out;refine⟨this.1, ?_⟩;rcases this.2 with e1|⟨g,cap,cur,e1,e2,r⟩
         . exact .inl e1
         . exact .inr ⟨g,cap,cur,e1,o_,r⟩
     . have q2:(((as_ d M t i).length:Int)==(limit:Int))=false:=s_;have HYES:Hid (as_ d M t (i+1)=as_ d M t i++ [t i]):=gs_ hwb;have hwl:=i4_ d M t i;have HNA:∀w2,Below wr.heap.size wr w2->(w2.alloc (.cells #[.string (t i)] 9)).ownsRow W.heap.size 9 1 (.slice oa (as_ d M t i).length oc) (as_ d M t i).length (strs (as_ d M t i))/\wr.heap.size<=w2.heap.size:=fun w2 hb2=>⟨(al_ HO.out hb2).alloc _,hb2.size⟩
       have HOW:Hid (∀y,(Value.slice oa (as_ d M t i).length oc).ownBlock=some y->W.heap.size<=y):=fun y e=>(HO.out.lt y e).1
       have HFU:Hid (¬(as_ d M t i).length=limit):=hfull;clear hwb hfull;go_wp2_with (first
        |(go_at_call 160;refine HW.mono ?_;rintro e w2 ⟨rfl,hb2⟩;obtain⟨hna,hs2⟩:=HNA w2 hb2;have HB2:Hid (Below wr.heap.size wr w2):=hb2;clear hb2 HNA)
        |(at_builtin;refine ae_ _ rfl _ _ 56 rfl W.heap.size 9 i0 (.string ByteArray.empty) 1 16 underlying56 hi0 hz0 hz01 hz02 rfl d_ _ (as_ d M t i).length (strs (as_ d M t i)) rfl hna ⟨w2.heap.size,0,none⟩ 1 1 [.string (t i)] rfl rfl (cell_one_new _ _ _) (oc__ rfl) d_ u_ o_ s_ ?_;intro g' cap' w3 hown3 hgr hfr;have HO3:Hid (w3.ownsRow W.heap.size 9 1 (.slice (some ⟨g',0,none⟩) ((as_ d M t i).length+1) cap') ((as_ d M t i).length+1) (strs (as_ d M t i)++ [.string (t i)])):=hown3;have HG3:Hid ((w2.alloc (.cells #[.string (t i)] 9)).grownBy w3 (Value.slice oa (as_ d M t i).length oc).ownBlock):=hgr;clear hown3 hgr hfr))
       go_roundw
       case rel=>
        have ho:=HO3.out;rw[gy_]at ho;have hfu:=HFU.out;refine⟨i+1,o_,by go_num,((HB.out.trans (HB2.out.mono hbs)).alloc o_ _).grown HG3.out s_ (fun y e=>HOW.out y e), ?_,by rw[HYES.out,List.length_append,List.length_singleton];omega⟩;rw[HYES.out,List.length_append,List.length_singleton];exact ho
       case measure=>simp[intOf];omega
  . have q1:¬(i:Int)<(n:Int):=o_;have e:i=n:=o_;subst e;obtain⟨f1,f2⟩:=vy_ hlen;have HF1:Hid (bx_ d M t i limit=as_ d M t i):=f1;have HF2:Hid (df_ d M t i limit=true):=f2;clear f1 f2 hx hb hown h hT;go_wp2_with fail;go_ret2;refine⟨BW.trans (HB.out.mono o_),.slice oa (as_ d M t i).length oc, ?_, ?_⟩
    . rw[HF2.out];rfl
    . rw[HF1.out];have:=HO.out;refine⟨this.1, ?_⟩;rcases this.2 with e1|⟨g,cap,cur,e1,e2,r⟩
      . exact .inl e1
      . exact .inr ⟨g,cap,cur,e1,o_,r⟩
theorem BxAt.give {w:World}{bx n:Nat}{t:Nat->ByteArray}{c:Nat->Cu}(h:BxAt w bx t n (cuv c)){k:Nat}(hk:k<4)(s:ByteArray):
 BxAt ((w.setCell ⟨bx,61+5*k+3,none⟩ (.bool true)).setCell ⟨bx,61+5*k+4,none⟩ (.string s)) bx t n (cuv (b3_ c k {c k with bg:=true,la:=s}))/\
 ab_ (fun j=>j=bx) w ((w.setCell ⟨bx,61+5*k+3,none⟩ (.bool true)).setCell ⟨bx,61+5*k+4,none⟩ (.string s)):=by
 refine⟨((World.rowIs.set h (61+5*k+3) (.bool true)).set (61+5*k+4) (.string s)).congr (fun j hj=> ?_),((ab_.refl (fun j=>j=bx) w).set ⟨bx,61+5*k+3,none⟩ (.bool true) (.inl rfl)).set ⟨bx,61+5*k+4,none⟩ (.string s) (.inl rfl)⟩;unfold fj_ cuv b3_;by_cases a:j<60
 . simp only[a,if_true,show¬j=61+5*k+4 by omega,show¬j=61+5*k+3 by omega,if_false]
 . by_cases b:j=60
   . simp only[b,show¬(60:Nat)=61+5*k+4 by omega,show¬(60:Nat)=61+5*k+3 by omega,if_false];simp
   . by_cases q:(j - 61)/5=k
     . simp only[a,b,q,if_false,if_true];rcases (show(j - 61)%5=0\/(j - 61)%5=1\/(j - 61)%5=2\/(j - 61)%5=3\/(j - 61)%5=4 by omega)with f|f|f|f|f
       . simp only[f,show¬j=61+5*k+4 by omega,show¬j=61+5*k+3 by omega,if_false,if_true]
       . simp only[f,show¬j=61+5*k+4 by omega,show¬j=61+5*k+3 by omega,if_false,if_true,show¬(1:Nat)=0 by omega]
       . simp only[f,show¬j=61+5*k+4 by omega,show¬j=61+5*k+3 by omega,if_false,if_true,show¬(2:Nat)=0 by omega,show¬(2:Nat)=1 by omega]
       . have e:j=61+5*k+3:=o_;simp only[f,if_pos e,show¬j=61+5*k+4 by omega,if_false,if_true,show¬(3:Nat)=0 by omega,show¬(3:Nat)=1 by omega,show¬(3:Nat)=2 by omega]
       . have e:j=61+5*k+4:=o_;simp only[f,if_pos e,if_false,show¬(4:Nat)=0 by omega,show¬(4:Nat)=1 by omega,show¬(4:Nat)=2 by omega,show¬(4:Nat)=3 by omega]
     . simp only[a,b,q,if_false,show¬j=61+5*k+4 by omega,show¬j=61+5*k+3 by omega]
theorem bm_ {S:Nat->Prop}{w w1:World}(hB:Below w.heap.size w w1):ab_ S w w1:=⟨hB.os,hB.tape,hB.output,hB.size,fun k hk _=>hB.block k hk⟩
theorem strs_got? {l:List ByteArray}{i:Nat}{x:ByteArray}(h:l[i]? =some x):(strs l)[i]? =some (.string x):=by simp[strs,h]
theorem ci_ {S:Nat->Prop}{w w1 w2:World}(h1:ab_ S w w1)(h2:ab_ S w1 w2):ab_ S w w2:=
 ⟨h2.os.trans h1.os,h2.tape.trans h1.tape,h2.output.trans h1.output,Nat.le_trans h1.size h2.size,fun k hk hs=>(h2.block k (Nat.lt_of_lt_of_le hk h1.size) hs).trans (h1.block k hk hs)⟩
theorem hd_ {w w1:World}{bx n base m:Nat}{t:Nat->ByteArray}{cx:Nat->Value}{v:Value}{x:List Value}(ho:w.ownsRow base 9 1 v m x)(h:BxAt w bx t n cx)(hT:ab_ (fun j=>j=bx) w w1):w1.ownsRow base 9 1 v m x:=by
 refine hT.own ho (fun g hg hgb=> ?_);subst hgb;obtain⟨c,hb,_⟩:=h;rcases ho.2 with ⟨rfl,_⟩|⟨g',cap,cur,rfl,_,h2,_⟩
 . simp[Value.ownBlock]at hg
 . simp only[Value.ownBlock,Option.some.injEq]at hg;subst hg;rw[hb]at h2;injection h2 with h2;injection h2 with _ h2;exact absurd h2 d_
theorem i5_ {w:World}{bx n base m g:Nat}{t:Nat->ByteArray}{cx:Nat->Value}{v:Value}{x:List Value}(ho:w.ownsRow base 9 1 v m x)(h:BxAt w bx t n cx)(hg:v.ownBlock=some g):g≠bx:=by
 rintro rfl;obtain⟨c,hb,_⟩:=h;rcases ho.2 with ⟨rfl,_⟩|⟨g',cap,cur,rfl,_,h2,_⟩
 . simp[Value.ownBlock]at hg
 . simp only[Value.ownBlock,Option.some.injEq]at hg;subst hg;rw[hb]at h2;injection h2 with h2;injection h2 with _ h2;exact absurd h2 d_
def cn_ (c:Nat->Cu)(k limit:Int):Int:=if opB c k then(if 1<=limit/\limit<=50 then 0 else 8)else 10
theorem aak_ (w:World)(bx n:Nat)(t:Nat->ByteArray)(c:Nat->Cu)(k limit:Int)(h:BxAt w bx t n (cuv c))(hno:cn_ c k limit≠0):
 Calls prog 92 #[.pointer (some ⟨bx,0,none⟩),.int .i64 k,.int .i64 limit] w fun e w'=>e= .returned (.tuple #[.slice none 0 0,.bool false,.int .i64 (cn_ c k limit)])/\w'=w:=by
 have HO:=mm_ w bx n t c k h;clear h;cases hop:opB c k with
 |false=>
  have e1:cn_ c k limit=10:=by simp[cn_,hop]
  rw[hop]at HO;rw[e1];clear hno e1 hop;go_enter func92,ntmps92;go_wp2_with (go_at_call 130;refine HO.mono ?_;rintro e w1 ⟨rfl,hw1⟩;obtain rfl:w=w1:=hw1.symm);go_ret3
  exact⟨rfl,rfl⟩
 |true=>
  have hl:¬(1<=limit/\limit<=50):=fun hh=>hno (by simp[cn_,hop,hh])
  have e1:cn_ c k limit=8:=by simp[cn_,hop,hl]
  rw[hop]at HO;rw[e1];by_cases h1:limit<1
  . clear hno e1 hop hl;go_enter func92,ntmps92;go_wp2_with (go_at_call 130;refine HO.mono ?_;rintro e w1 ⟨rfl,hw1⟩;obtain rfl:w=w1:=hw1.symm);go_ret3
    exact⟨rfl,rfl⟩
  . have h2:50<limit:=o_;have q1:decide (limit<1)=false:=s_;clear hno e1 hop hl h1;go_enter func92,ntmps92;go_wp2_with (go_at_call 130;refine HO.mono ?_;rintro e w1 ⟨rfl,hw1⟩;obtain rfl:w=w1:=hw1.symm);go_ret3
    exact⟨rfl,rfl⟩
def dd_ (c:Nat->Cu)(k:Nat)(L:List ByteArray):Nat->Cu:=match L.getLast? with
 |some s=>b3_ c k {c k with bg:=true,la:=s}
 |none=>c
theorem aal_ (w:World)(bx n m limit:Nat)(t:Nat->ByteArray)(c:Nat->Cu)(V:Lay)(M:Tab)(h:BxAt w bx t n (cuv c))(hn:n<=60)(hm:m<4)(hop:(c m).op=true)(hl1:1<=limit)(hl:limit<=50)(htu:∀i,i<n->de_ (t i)=true)
 (hA:(c m).vA= .slice (some ⟨V.ba,V.oa,none⟩) M.n V.ca) (hN:(c m).vN= .slice (some ⟨V.bn,V.on,none⟩) M.n V.cn) (hM:M.Ok) (hT:av_ w V M):
 Calls prog 92 #[.pointer (some ⟨bx,0,none⟩),.int .i64 (m:Int),.int .i64 (limit:Int)] w fun e w'=>∃v,e= .returned (.tuple #[v,.bool (df_ (c m) M t n limit),.int .i64 0])/\w'.ownsRow w.heap.size 9 1 v (bx_ (c m) M t n limit).length (strs (bx_ (c m) M t n limit))/\BxAt w' bx t n (cuv (dd_ c m (bx_ (c m) M t n limit)))/\ab_ (fun j=>j=bx) w w':=by
 have HO:=mm_ w bx n t c m h;rw[ml_ c hm,hop]at HO;have HCH:=xs_ w bx n limit t (cuv c) (c m) V M h hn hl htu hA hN hM hT;obtain⟨c0,c1,c2,c3,c4⟩:=h.cu hm;have hfz:=World.rowIs.frozen h;have hbl:=World.rowIs.lt h;have HX:=hi__ h;rw[hA,hN]at HCH;rw[hA]at c1;rw[hN]at c2;obtain⟨d,HD⟩:∃d,Hid (c m=d):=⟨_,by unfold Hid;rfl⟩;rw[HD.out]at HCH c0 c3 c4 ⊢;obtain⟨L,HL⟩:∃L,Hid (bx_ d M t n limit=L):=⟨_,by unfold Hid;rfl⟩;rw[HL.out]at HCH ⊢;generalize df_ d M t n limit=fb at*;have q1:¬(limit:Int)<1:=o_;have q2:¬(50:Int)<(limit:Int):=o_;have hLl:L.length<=60:=by
  rw[<-HL.out,bx_,List.length_take];have:=i4_ d M t n;omega
 clear h hop htu hA hN hM hT;by_cases hL0:L=[]
 . have HE:Hid (dd_ c m L=c):=by unfold Hid;rw[hL0];rfl
   rw[HE.out];have q3:¬(0:Int)<(L.length:Int):=by rw[hL0];simp
   clear hL0;rcases (show m=0\/m=1\/m=2\/m=3 by omega)with rfl|rfl|rfl|rfl
   all_goals
    go_enter func92,ntmps92;go_wp2_with (first
     |(go_at_call 130;refine HO.mono ?_;rintro e w1 ⟨rfl,hw1⟩;obtain rfl:w=w1:=hw1.symm)
     |(go_at_call 131;refine HCH.mono ?_;rintro e w2 ⟨hb2,v,rfl,ho2⟩;obtain⟨va,vc,rfl,hvs⟩:=af_ ho2;have HB2:Hid (Below w.heap.size w w2):=hb2;have HO2:Hid (w2.ownsRow w.heap.size 9 1 (.slice va L.length vc) L.length (strs L)):=ho2;clear hb2 ho2 hvs))
    go_ret3
    exact⟨_,rfl,HO2.out,HX.out.below HB2.out,bm_ HB2.out⟩
 . obtain⟨s,hs⟩:∃s,L.getLast? =some s:=⟨L.getLast hL0,List.getLast?_eq_some_getLast hL0⟩;have hpos:0<L.length:=List.length_pos_iff.2 hL0;have hlast:L[L.length - 1]? =some s:=by rw[<-List.getLast?_eq_getElem?];exact hs
   have HE:Hid (dd_ c m L=b3_ c m {c m with bg:=true,la:=s}):=by unfold Hid dd_;rw[hs]
   rw[HE.out];have q3:(0:Int)<(L.length:Int):=o_;obtain⟨ln,HLN⟩:∃ln,Hid (L.length=ln+1):=⟨L.length - 1,by unfold Hid;omega⟩;have HLA:∀(w2:World) (va:Option Addr),(0<L.length->∃g,va=some ⟨g,0,none⟩/\∀j,j<L.length*1->w2.cell? ⟨g,j,none⟩=(strs L)[j]?)->∃g,va=some ⟨g,0,none⟩/\w2.cell? ⟨g,ln,none⟩=some (Value.string s):=fun w2 va hv=>by
    obtain⟨g,e1,e2⟩:=hv hpos;have hl2:=HLN.out;refine⟨g,e1,(e2 ln o_).trans (strs_got? ?_)⟩;have:ln=L.length - 1:=o_;rw[this];exact hlast
   have HBX:∀w2,Below w.heap.size w w2->BxAt w2 bx t n (cuv c):=fun w2 hb=>HX.out.below hb
   have hwl:IntKind.i64.wrap (ln:Int)=(ln:Int):=by rw[IntKind.wrap_i64];have:=HLN.out;omega
   rw[HLN.out]at HCH q3 ⊢;clear hL0 hs hlast hpos;rcases (show m=0\/m=1\/m=2\/m=3 by omega)with rfl|rfl|rfl|rfl
   . go_enter func92,ntmps92;go_wp2_with (first
      |(go_at_call 130;refine HO.mono ?_;rintro e w1 ⟨rfl,hw1⟩;obtain rfl:w=w1:=hw1.symm)
      |(go_at_call 131;refine HCH.mono ?_;rintro e w2 ⟨hb2,v,rfl,ho2⟩;obtain⟨va,vc,rfl,hvs⟩:=af_ ho2;rw[<-HLN.out]at hvs;obtain⟨g,rfl,cl⟩:=HLA w2 va hvs;have hx2:=HBX w2 hb2;obtain⟨d0,d1,d2,d3,d4⟩:=hx2.cu (k:=0) o_;have f3:=World.rowIs.frozen hx2 64;have f4:=World.rowIs.frozen hx2 65;have HX2:Hid (BxAt w2 bx t n (cuv c)):=hx2;have HB2:Hid (Below w.heap.size w w2):=hb2;have HO2:Hid (w2.ownsRow w.heap.size 9 1 (.slice (some ⟨g,0,none⟩) (ln+1) vc) (ln+1) (strs L)):=ho2;clear hb2 ho2 hvs hx2 HLA HBX))
     have hgb:g≠bx:=i5_ HO2.out HX2.out rfl;have cl2:=(c6_ (w:=w2) (p:=⟨bx,64,none⟩) (q:=⟨g,ln,none⟩) (u:= .bool true) hgb).trans cl;obtain⟨y4,d4b⟩:∃y,(w2.setCell ⟨bx,64,none⟩ (.bool true)).cell? ⟨bx,65,none⟩=some y:=⟨_,(World.rowIs.set HX2.out 64 (.bool true)).cell (i:=65) o_⟩;have f4b:(w2.setCell ⟨bx,64,none⟩ (.bool true)).frozen? ⟨bx,65,none⟩=false:=(World.rowIs.set HX2.out 64 (.bool true)).frozen 65;have qln:(ln:Int)<(ln:Int)+1:=o_;go_region
     go_wp2_with fail;go_ret3
     have hg:=HX2.out.give (k:=0) o_ s;refine⟨_,rfl,hd_ HO2.out HX2.out ⟨hg.2.os,hg.2.tape,hg.2.output,hg.2.size,hg.2.block⟩,hg.1,ci_ (bm_ HB2.out) ⟨hg.2.os,hg.2.tape,hg.2.output,hg.2.size,hg.2.block⟩⟩
   . go_enter func92,ntmps92;go_wp2_with (first
      |(go_at_call 130;refine HO.mono ?_;rintro e w1 ⟨rfl,hw1⟩;obtain rfl:w=w1:=hw1.symm)
      |(go_at_call 131;refine HCH.mono ?_;rintro e w2 ⟨hb2,v,rfl,ho2⟩;obtain⟨va,vc,rfl,hvs⟩:=af_ ho2;rw[<-HLN.out]at hvs;obtain⟨g,rfl,cl⟩:=HLA w2 va hvs;have hx2:=HBX w2 hb2;obtain⟨d0,d1,d2,d3,d4⟩:=hx2.cu (k:=1) o_;have f3:=World.rowIs.frozen hx2 69;have f4:=World.rowIs.frozen hx2 70;have HX2:Hid (BxAt w2 bx t n (cuv c)):=hx2;have HB2:Hid (Below w.heap.size w w2):=hb2;have HO2:Hid (w2.ownsRow w.heap.size 9 1 (.slice (some ⟨g,0,none⟩) (ln+1) vc) (ln+1) (strs L)):=ho2;clear hb2 ho2 hvs hx2 HLA HBX))
     have hgb:g≠bx:=i5_ HO2.out HX2.out rfl;have cl2:=(c6_ (w:=w2) (p:=⟨bx,69,none⟩) (q:=⟨g,ln,none⟩) (u:= .bool true) hgb).trans cl;obtain⟨y4,d4b⟩:∃y,(w2.setCell ⟨bx,69,none⟩ (.bool true)).cell? ⟨bx,70,none⟩=some y:=⟨_,(World.rowIs.set HX2.out 69 (.bool true)).cell (i:=70) o_⟩;have f4b:(w2.setCell ⟨bx,69,none⟩ (.bool true)).frozen? ⟨bx,70,none⟩=false:=(World.rowIs.set HX2.out 69 (.bool true)).frozen 70;have qln:(ln:Int)<(ln:Int)+1:=o_;go_region
     go_wp2_with fail;go_ret3
     have hg:=HX2.out.give (k:=1) o_ s;refine⟨_,rfl,hd_ HO2.out HX2.out ⟨hg.2.os,hg.2.tape,hg.2.output,hg.2.size,hg.2.block⟩,hg.1,ci_ (bm_ HB2.out) ⟨hg.2.os,hg.2.tape,hg.2.output,hg.2.size,hg.2.block⟩⟩
   . go_enter func92,ntmps92;go_wp2_with (first
      |(go_at_call 130;refine HO.mono ?_;rintro e w1 ⟨rfl,hw1⟩;obtain rfl:w=w1:=hw1.symm)
      |(go_at_call 131;refine HCH.mono ?_;rintro e w2 ⟨hb2,v,rfl,ho2⟩;obtain⟨va,vc,rfl,hvs⟩:=af_ ho2;rw[<-HLN.out]at hvs;obtain⟨g,rfl,cl⟩:=HLA w2 va hvs;have hx2:=HBX w2 hb2;obtain⟨d0,d1,d2,d3,d4⟩:=hx2.cu (k:=2) o_;have f3:=World.rowIs.frozen hx2 74;have f4:=World.rowIs.frozen hx2 75;have HX2:Hid (BxAt w2 bx t n (cuv c)):=hx2;have HB2:Hid (Below w.heap.size w w2):=hb2;have HO2:Hid (w2.ownsRow w.heap.size 9 1 (.slice (some ⟨g,0,none⟩) (ln+1) vc) (ln+1) (strs L)):=ho2;clear hb2 ho2 hvs hx2 HLA HBX))
     have hgb:g≠bx:=i5_ HO2.out HX2.out rfl;have cl2:=(c6_ (w:=w2) (p:=⟨bx,74,none⟩) (q:=⟨g,ln,none⟩) (u:= .bool true) hgb).trans cl;obtain⟨y4,d4b⟩:∃y,(w2.setCell ⟨bx,74,none⟩ (.bool true)).cell? ⟨bx,75,none⟩=some y:=⟨_,(World.rowIs.set HX2.out 74 (.bool true)).cell (i:=75) o_⟩;have f4b:(w2.setCell ⟨bx,74,none⟩ (.bool true)).frozen? ⟨bx,75,none⟩=false:=(World.rowIs.set HX2.out 74 (.bool true)).frozen 75;have qln:(ln:Int)<(ln:Int)+1:=o_;go_region
     go_wp2_with fail;go_ret3
     have hg:=HX2.out.give (k:=2) o_ s;refine⟨_,rfl,hd_ HO2.out HX2.out ⟨hg.2.os,hg.2.tape,hg.2.output,hg.2.size,hg.2.block⟩,hg.1,ci_ (bm_ HB2.out) ⟨hg.2.os,hg.2.tape,hg.2.output,hg.2.size,hg.2.block⟩⟩
   . go_enter func92,ntmps92;go_wp2_with (first
      |(go_at_call 130;refine HO.mono ?_;rintro e w1 ⟨rfl,hw1⟩;obtain rfl:w=w1:=hw1.symm)
      |(go_at_call 131;refine HCH.mono ?_;rintro e w2 ⟨hb2,v,rfl,ho2⟩;obtain⟨va,vc,rfl,hvs⟩:=af_ ho2;rw[<-HLN.out]at hvs;obtain⟨g,rfl,cl⟩:=HLA w2 va hvs;have hx2:=HBX w2 hb2;obtain⟨d0,d1,d2,d3,d4⟩:=hx2.cu (k:=3) o_;have f3:=World.rowIs.frozen hx2 79;have f4:=World.rowIs.frozen hx2 80;have HX2:Hid (BxAt w2 bx t n (cuv c)):=hx2;have HB2:Hid (Below w.heap.size w w2):=hb2;have HO2:Hid (w2.ownsRow w.heap.size 9 1 (.slice (some ⟨g,0,none⟩) (ln+1) vc) (ln+1) (strs L)):=ho2;clear hb2 ho2 hvs hx2 HLA HBX))
     have hgb:g≠bx:=i5_ HO2.out HX2.out rfl;have cl2:=(c6_ (w:=w2) (p:=⟨bx,79,none⟩) (q:=⟨g,ln,none⟩) (u:= .bool true) hgb).trans cl;obtain⟨y4,d4b⟩:∃y,(w2.setCell ⟨bx,79,none⟩ (.bool true)).cell? ⟨bx,80,none⟩=some y:=⟨_,(World.rowIs.set HX2.out 79 (.bool true)).cell (i:=80) o_⟩;have f4b:(w2.setCell ⟨bx,79,none⟩ (.bool true)).frozen? ⟨bx,80,none⟩=false:=(World.rowIs.set HX2.out 79 (.bool true)).frozen 80;have qln:(ln:Int)<(ln:Int)+1:=o_;go_region
     go_wp2_with fail;go_ret3
     have hg:=HX2.out.give (k:=3) o_ s;refine⟨_,rfl,hd_ HO2.out HX2.out ⟨hg.2.os,hg.2.tape,hg.2.output,hg.2.size,hg.2.block⟩,hg.1,ci_ (bm_ HB2.out) ⟨hg.2.os,hg.2.tape,hg.2.output,hg.2.size,hg.2.block⟩⟩
end Go.Proofs.YtpngikmcjkjdaaaGreatDoor
