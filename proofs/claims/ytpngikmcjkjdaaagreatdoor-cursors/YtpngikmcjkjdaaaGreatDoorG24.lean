import Derived.Test.YtpngikmcjkjdaaaGreatDoorG0
import Derived.Test.YtpngikmcjkjdaaaGreatDoorG10
import Derived.Test.YtpngikmcjkjdaaaGreatDoorG11
import Derived.Test.YtpngikmcjkjdaaaGreatDoorG12
import Derived.Test.YtpngikmcjkjdaaaGreatDoorG9
set_option linter.unusedVariables false
set_option linter.unusedSimpArgs false
set_option maxRecDepth 20000
set_option maxHeartbeats 80000000
namespace Go.Proofs.YtpngikmcjkjdaaaGreatDoor
open Go.RowKit Tryz
def ByAt (w:World)(b:Nat)(ry:Value)(t:Nat->ByteArray)(n:Nat)(cy:Nat->Value):Prop:=w.rowIs b 77 21 (fun i=>if i=0 then ry else cy (i - 1))/\w.ownsRow 0 9 1 ry n (cp_ t n)
section
variable {w w':World} {b n:Nat} {ry:Value} {t:Nat->ByteArray} {cy:Nat->Value}
theorem ByAt.row (h:ByAt w b ry t n cy):w.cell? ⟨b,0,none⟩=some ry:=by
 have:=World.rowIs.cell h.1 (i:=0) o_;simpa using this
theorem ByAt.frozen (h:ByAt w b ry t n cy):w.frozen? ⟨b,0,none⟩=false:=World.rowIs.frozen h.1 0
theorem ByAt.below (h:ByAt w b ry t n cy)(hb:Below w.heap.size w w'):ByAt w' b ry t n cy:=⟨World.rowIs.of_block h.1 (hb.block b (World.rowIs.lt h.1)),al_ h.2 hb⟩
theorem ByAt.shape (h:ByAt w b ry t n cy):∃a cap,ry= .slice a n cap/\(0<n->∃g,a=some ⟨g,0,none⟩/\∀i,i<n->w.cell? ⟨g,i,none⟩=some (.string (t i))):=by
 obtain⟨al,cl,e,hal⟩:=af_ h.2;refine⟨al,cl,e,fun h0=> ?_⟩;obtain⟨g,e2,hc⟩:=hal h0;exact⟨g,e2,fun i hi=>(hc i o_).trans (yh_ t hi)⟩
end
open Classical in
noncomputable def hasB (t:Nat->ByteArray)(n:Nat)(s:ByteArray):Bool:=decide (∃j,j<n/\t j=s)
open Classical in
theorem ss_ {t:Nat->ByteArray}{n:Nat}{s:ByteArray}:hasB t n s=true↔∃j,j<n/\t j=s:=by rw[hasB,decide_eq_true_iff]
theorem st_ {t:Nat->ByteArray}{n:Nat}{s:ByteArray}(h:∃j,j<n/\t j=s):hasB t n s=true:=ss_.2 h
theorem vj_ {t:Nat->ByteArray}{n:Nat}{s:ByteArray}(h:¬∃j,j<n/\t j=s):hasB t n s=false:=by
 rw[Bool.eq_false_iff];exact fun h'=>h (ss_.1 h')
theorem IsPl.hasB_eq {t:Nat->ByteArray}{n p:Nat}{s:ByteArray}(h:IsPl t n s p)(hs:SrtB t n):hasB t n s=decide (p<n/\t p=s):=by
 by_cases e:p<n/\t p=s
 . rw[st_ ((h.stands hs).2 e)];simp[e]
 . rw[vj_ (fun h'=>e ((h.stands hs).1 h'))];simp[e]
theorem pl_ (w:World)(b n:Nat)(ry:Value)(t:Nat->ByteArray)(cy:Nat->Value)(s:ByteArray)(h:ByAt w b ry t n cy)(hn:n<=60):
 Calls prog 84 #[.pointer (some ⟨b,0,none⟩),.string s] w fun e w'=>e= .returned (.bool (hasB t n s))/\w'=w:=by
 have c0:=h.row;obtain⟨a,cap,rfl,hsh⟩:=h.shape;go_enter func84,ntmps84;go_wp2_with fail;go_loop [5] (fun v=>∃i:Nat,i<=n/\v= .int .i64 (i:Int)/\∀j,j<i->t j≠s) (fun v=>n - (intOf v).toNat)
 case atStart=>exact⟨0,o_,rfl,fun j hj=>o_⟩
 case round=>
  obtain⟨i,hi,rfl,hno⟩:=hrel;have HN:Hid (∀j,j<i->t j≠s):=hno;clear hno;by_cases hlt:i<n
  . obtain⟨g,rfl,hc⟩:=hsh o_;have c1:=hc i hlt;have q1:(i:Int)<(n:Int):=o_;by_cases e:t i=s
    . have q2:((t i).toList==s.toList)=true:=by rw[fr_];simp[e]
      have HH:Hid (hasB t n s=true):=st_ ⟨i,hlt,e⟩;clear h hsh hc e;go_wp2_with fail;go_ret;exact⟨bh_ HH.out.symm,rfl⟩
    . have q2:((t i).toList==s.toList)=false:=by rw[fr_];simp[e]
      clear h hsh hc;go_wp2_with fail;go_round
      case rel=>exact⟨i+1,o_,by go_num,fun j hj=>by
       by_cases e':j=i
       . subst e';exact e
       . exact HN.out j o_⟩
      case measure=>simp[intOf];omega
  . have e:i=n:=o_;have q1:¬(i:Int)<(n:Int):=o_;have HH:Hid (hasB t n s=false):=vj_ (by rintro⟨j,hj,hjs⟩;exact HN.out j o_ hjs);clear h hsh;go_wp2_with fail;go_ret;exact⟨bh_ HH.out.symm,rfl⟩
theorem af0_ (w:World)(b n:Nat)(ry:Value)(t:Nat->ByteArray)(cy:Nat->Value)(s:ByteArray)(p:Nat)(h:ByAt w b ry t n cy)(hn:n<=60)(hs:s.size<=maxLen)(hsr:SrtB t n)(hp:IsPl t n s p):
 Calls prog 47 #[.pointer (some ⟨b,0,none⟩),.string s] w fun e w'=>e= .returned (.tuple #[.bool (c5_ t n s p),.int .i64 (dk_ s)])/\w'=w:=by
 have HT:=gt_ s 12 w hs o_;have HH:=pl_ w b n ry t cy s h hn;rw[hp.hasB_eq hsr]at HH;cases htu:de_ s with
 |false=>
  rw[show(decide (s.size<=12)&&ba_ s s.size)=false from htu]at HT;have e1:c5_ t n s p=false:=by simp[c5_,htu]
  have e2:dk_ s=7:=by simp[dk_,htu]
  rw[e1,e2];clear h e1 e2;go_enter func47,ntmps47;go_wp2_with (go_at_call 61;refine HT.mono ?_;rintro e w' ⟨rfl,hw'⟩;obtain rfl:w=w':=hw'.symm);go_ret2;exact⟨rfl,rfl⟩
 |true=>
  rw[show(decide (s.size<=12)&&ba_ s s.size)=true from htu]at HT;have e2:dk_ s=0:=by simp[dk_,htu]
  have e1:c5_ t n s p=decide (p<n/\t p=s):=by simp only[c5_,htu,Bool.true_and]
  rw[e1,e2];generalize decide (p<n/\t p=s)=bb at*;clear h e1 e2 hp;go_enter func47,ntmps47;go_wp2_with (first
   |(go_at_call 61;refine HT.mono ?_;rintro e w' ⟨rfl,hw'⟩;obtain rfl:w=w':=hw'.symm)
   |(go_at_call 84;refine HH.mono ?_;rintro e w' ⟨rfl,hw'⟩;obtain rfl:w=w':=hw'.symm))
  go_ret2;exact⟨rfl,rfl⟩
theorem ae9_ (t:Nat->ByteArray){p j:Nat}(s:ByteArray)(h:j<p):ins t p s j=t j:=by unfold ins;rw[if_pos h]
theorem yw_ (t:Nat->ByteArray)(p:Nat)(s:ByteArray):ins t p s p=s:=by unfold ins;rw[if_neg o_,if_pos rfl]
theorem yx_ (t:Nat->ByteArray){p j:Nat}(s:ByteArray)(h:p<=j):ins t p s (j+1)=t j:=by unfold ins;rw[if_neg o_,if_neg o_,Nat.add_sub_cancel]
theorem ByAt.put {w w1:World}{b n m:Nat}{ry v:Value}{t u:Nat->ByteArray}{cy:Nat->Value}(h:ByAt w b ry t n cy)(hB:Below w.heap.size w w1)(ho:w1.ownsRow w.heap.size 9 1 v m (cp_ u m)):
 ByAt (w1.setCell ⟨b,0,none⟩ v) b v u m cy/\ab_ (fun k=>k=b) w (w1.setCell ⟨b,0,none⟩ v)/\∀g,v.ownBlock=some g->w.heap.size<=g:=by
 have hlt:=World.rowIs.lt h.1;refine⟨⟨((h.below hB).1.set 0 v).congr (fun i hi=> ?_), ?_⟩, ?_,fun g e=>(ho.lt g e).1⟩
 . by_cases e:i=0
   . rw[if_pos e,if_pos e]
   . rw[if_neg e,if_neg e,if_neg e]
 . have h2:(w1.setCell ⟨b,0,none⟩ v).ownsRow w.heap.size 9 1 v m (cp_ u m):=ownsRow_setCell_below ho hlt _;refine⟨h2.1, ?_⟩;rcases h2.2 with e|⟨g,cap,cur,e1,_,r⟩
   . exact .inl e
   . exact .inr ⟨g,cap,cur,e1,Nat.zero_le _,r⟩
 . have ht:ab_ (fun k=>k=b) w w1:=⟨hB.os,hB.tape,hB.output,hB.size,fun k hk _=>hB.block k hk⟩;exact ht.set ⟨b,0,none⟩ v (.inl rfl)
theorem aed_ (w:World)(b n:Nat)(ry:Value)(t:Nat->ByteArray)(cy:Nat->Value)(s:ByteArray)(p:Nat)(h:ByAt w b ry t n cy)(hn:n<=60)(hs:s.size<=maxLen)(hsr:SrtB t n)(hp:IsPl t n s p):
 Calls prog 43 #[.pointer (some ⟨b,0,none⟩),.string s] w fun e w'=>e= .returned (.tuple #[.bool (dn_ t n s p),.int .i64 (dj_ t n s p)])/\∃ry',ByAt w' b ry' (addT t n s p) (addN t n s p) cy/\ab_ (fun k=>k=b) w w'/\∀g,ry'.ownBlock=some g->ry.ownBlock=some g\/w.heap.size<=g:=by
 obtain⟨i0,hi0,hz0,hz01,hz02⟩:=info_parts jq_;have HT:=gt_ s 12 w hs o_;have HH:=pl_ w b n ry t cy s h hn;rw[hp.hasB_eq hsr]at HH;have hle:=hp.le;cases htu:de_ s with
 |false=>
  rw[show(decide (s.size<=12)&&ba_ s s.size)=false from htu]at HT;have e1:dn_ t n s p=false:=by simp[dn_,htu]
  have e2:dj_ t n s p=7:=by simp[dj_,htu]
  rw[addT,addN,e1,e2];have HF:=hi__ h;clear h e1 e2;go_enter func43,ntmps43;go_wp2_with (go_at_call 61;refine HT.mono ?_;rintro e w' ⟨rfl,hw'⟩;obtain rfl:w=w':=hw'.symm);go_ret2;exact⟨rfl,_,HF.out,ab_.refl _ _,fun g e=> .inl e⟩
 |true=>
  rw[show(decide (s.size<=12)&&ba_ s s.size)=true from htu]at HT;have c0:=h.row;have f0:=h.frozen;have HFR:=hi__ h;obtain⟨a,cap,rfl,hsh⟩:=h.shape;by_cases hst:p<n/\t p=s
  . rw[show decide (p<n/\t p=s)=true by simp[hst]]at HH;have e1:dn_ t n s p=false:=by simp[dn_,hst]
    have e2:dj_ t n s p=0:=by simp[dj_,htu,hst]
    rw[addT,addN,e1,e2];clear h e1 e2 hp hst;go_enter func43,ntmps43;go_wp2_with (first
     |(go_at_call 61;refine HT.mono ?_;rintro e w' ⟨rfl,hw'⟩;obtain rfl:w=w':=hw'.symm)
     |(go_at_call 84;refine HH.mono ?_;rintro e w' ⟨rfl,hw'⟩;obtain rfl:w=w':=hw'.symm))
    go_ret2;exact⟨rfl,_,HFR.out,ab_.refl _ _,fun g e=> .inl e⟩
  . rw[show decide (p<n/\t p=s)=false by simp[hst]]at HH;by_cases h60:n<60
    . have e1:dn_ t n s p=true:=by simp only[dn_,htu,hst,h60,decide_false,decide_true,Bool.not_false,Bool.and_self]
      have e2:dj_ t n s p=0:=by simp only[dj_,htu,hst,h60,if_true,if_false]
      rw[addT,addN,e1,e2];have q60:((n:Int)==60)=false:=s_;have HPL:=hi__ hp;have HSR:=hi__ hsr;have HST:Hid (¬(p<n/\t p=s)):=hst;clear h e1 e2 hp hst hsr;go_enter func43,ntmps43;go_wp2_with (first
       |(go_at_call 61;refine HT.mono ?_;rintro e w' ⟨rfl,hw'⟩;obtain rfl:w=w':=hw'.symm)
       |(go_at_call 84;refine HH.mono ?_;rintro e w' ⟨rfl,hw'⟩;obtain rfl:w=w':=hw'.symm))
      go_loopw [8,9,10] (fun l' in' i' wr=>∃i:Nat,i<=n/\i'= .int .i64 (i:Int)/\in'= .bool (decide (p<i))/\Below w.heap.size w wr/\wr.ownsRow w.heap.size 9 1 l' (if p<i then i+1 else i) (cp_ (ins t p s) (if p<i then i+1 else i))) (fun _ _ i' _=>n - (intOf i').toNat)
      case atStart=>exact⟨0,o_,rfl,i_,br__,on__⟩
      case round=>
       obtain⟨i,hi,rfl,rfl,hb,hown⟩:=hrel;have hbs:=hb.size;have c1:wr.cell? ⟨b,0,none⟩=some (.slice a n cap):=(cu_ hb).1 b 0 (an_ c0)|>.trans c0
       have f1:wr.frozen? ⟨b,0,none⟩=false:=(cu_ hb).2 b 0 (an_ c0)|>.trans f0
       have HB:Hid (Below w.heap.size w wr):=hb;by_cases hlt:i<n
       . obtain⟨g,rfl,hc⟩:=hsh o_;have c2:wr.cell? ⟨g,i,none⟩=some (.string (t i)):=(cu_ hb).1 g i (an_ (hc i hlt))|>.trans (hc i hlt)
         have q1:(i:Int)<(n:Int):=o_;by_cases hip:i<p
         . have q2:decide (p<i)=false:=s_;have q3:Op.bytesLess s.toList (t i).toList=false:=ol_ (HPL.out.lo i hip);rw[if_neg o_]at hown;rw[q2];have hna:=hown.alloc (.cells #[.string (t i)] 9);have HOW:Hid (∀x,(u8:Value).ownBlock=some x->w.heap.size<=x):=fun x e=>(hown.lt x e).1
           clear hown hb HFR c0 f0 hsh hc HH HT q2;go_wp2_with (at_builtin;refine ae_ _ rfl _ _ 56 rfl w.heap.size 9 i0 (.string ByteArray.empty) 1 16 underlying56 hi0 hz0 hz01 hz02 rfl d_ _ (i) (cp_ (ins t p s) i) rfl hna ⟨wr.heap.size,0,none⟩ 1 1 [.string (t i)] rfl rfl (cell_one_new _ _ _) (oc__ rfl) d_ u_ o_ s_ ?_;intro gA capA wnA hown3 hgr hfr;have HOA:Hid (wnA.ownsRow w.heap.size 9 1 (.slice (some ⟨gA,0,none⟩) ((i)+1) capA) ((i)+1) ((cp_ (ins t p s) i)++ [.string (t i)])):=hown3;have HGA:Hid ((wr.alloc (.cells #[.string (t i)] 9)).grownBy wnA (u8).ownBlock):=hgr;have HFA:Hid ((u8).ownBlock=some gA\/gA=(wr.alloc (.cells #[.string (t i)] 9)).heap.size):=hfr;clear hown3 hgr hfr hna);go_roundw
           case rel=>
            have ho:=HOA.out;rw[<-ae9_ t s hip,fs_]at ho;refine⟨i+1,o_,by go_num,s_,(HB.out.alloc o_ _).grown HGA.out s_ (fun x e=>HOW.out x e), ?_⟩;rw[if_neg o_];exact ho
           case measure=>simp[intOf];omega
         . by_cases hie:i=p
           . have q2:decide (p<i)=false:=s_;have q3:Op.bytesLess s.toList (t i).toList=true:=HPL.out.gt HSR.out HST.out i o_ hlt;rw[if_neg o_]at hown;rw[q2];subst hie;have hna:=hown.alloc (.cells #[.string s] 9);have HOW:Hid (∀x,(u8:Value).ownBlock=some x->w.heap.size<=x):=fun x e=>(hown.lt x e).1
             have C0:Hid (w.cell? ⟨b,0,none⟩=some (.slice (some ⟨g,0,none⟩) n cap)):=c0;have C2:Hid (w.cell? ⟨g,i,none⟩=some (.string (t i))):=hc i hlt;clear hown hb HFR c0 f0 hsh hc HH HT q2 hip;go_wp2_with (first
              |(at_builtin;refine ae_ _ rfl _ _ 56 rfl w.heap.size 9 i0 (.string ByteArray.empty) 1 16 underlying56 hi0 hz0 hz01 hz02 rfl d_ _ (i) (cp_ (ins t i s) i) rfl hna ⟨wr.heap.size,0,none⟩ 1 1 [.string (s)] rfl rfl (cell_one_new _ _ _) (oc__ rfl) d_ u_ o_ s_ ?_;intro gA capA wnA hown3 hgr hfr;have HOA:Hid (wnA.ownsRow w.heap.size 9 1 (.slice (some ⟨gA,0,none⟩) ((i)+1) capA) ((i)+1) ((cp_ (ins t i s) i)++ [.string (s)])):=hown3;have HGA:Hid ((wr.alloc (.cells #[.string (s)] 9)).grownBy wnA (u8).ownBlock):=hgr;have HFA:Hid ((u8).ownBlock=some gA\/gA=(wr.alloc (.cells #[.string (s)] 9)).heap.size):=hfr;clear hown3 hgr hfr hna;have hnb:=HOA.out.alloc (.cells #[.string (t i)] 9);have hbA:=(HB.out.alloc o_ (.cells #[.string s] 9)).grown HGA.out s_ (fun x e=>HOW.out x e);have hsA:=hbA.size;have c1A:wnA.cell? ⟨b,0,none⟩=some (.slice (some ⟨g,0,none⟩) n cap):=((cu_ hbA).1 b 0 (an_ C0.out)).trans C0.out;have c2A:wnA.cell? ⟨g,i,none⟩=some (.string (t i)):=((cu_ hbA).1 g i (an_ C2.out)).trans C2.out;have HBA:Hid (Below w.heap.size w wnA):=hbA;have HOWA:Hid (∀x,(Value.slice (some ⟨gA,0,none⟩) (i+1) capA).ownBlock=some x->w.heap.size<=x):=(fun x e=>(HOA.out.lt x e).1);clear hbA)
              |(at_builtin;refine ae_ _ rfl _ _ 56 rfl w.heap.size 9 i0 (.string ByteArray.empty) 1 16 underlying56 hi0 hz0 hz01 hz02 rfl d_ _ ((i+1)) (cp_ (ins t i s) i++ [Value.string s]) rfl hnb ⟨wnA.heap.size,0,none⟩ 1 1 [.string (t i)] rfl rfl (cell_one_new _ _ _) (oc__ rfl) d_ u_ o_ s_ ?_;intro gB capB wnB hown3 hgr hfr;have HOB:Hid (wnB.ownsRow w.heap.size 9 1 (.slice (some ⟨gB,0,none⟩) (((i+1))+1) capB) (((i+1))+1) ((cp_ (ins t i s) i++ [Value.string s])++ [.string (t i)])):=hown3;have HGB:Hid ((wnA.alloc (.cells #[.string (t i)] 9)).grownBy wnB ((Value.slice (some ⟨gA,0,none⟩) (i+1) capA)).ownBlock):=hgr;have HFB:Hid (((Value.slice (some ⟨gA,0,none⟩) (i+1) capA)).ownBlock=some gB\/gB=(wnA.alloc (.cells #[.string (t i)] 9)).heap.size):=hfr;clear hown3 hgr hfr hnb))
             go_roundw
             case rel=>
              have ho:=HOB.out;rw[show(Value.string s)= .string (ins t i s i)by rw[yw_],fs_,<-yx_ t s (Nat.le_refl i),fs_]at ho;refine⟨i+1,o_,by go_num,i_,(HBA.out.alloc o_ _).grown HGB.out s_ (fun x e=>HOWA.out x e), ?_⟩;rw[if_pos o_];exact ho
             case measure=>simp[intOf];omega
           . have q2:decide (p<i)=true:=s_;rw[if_pos o_]at hown;rw[q2];have hna:=hown.alloc (.cells #[.string (t i)] 9);have HOW:Hid (∀x,(u8:Value).ownBlock=some x->w.heap.size<=x):=fun x e=>(hown.lt x e).1
             clear hown hb HFR c0 f0 hsh hc HH HT q2;go_wp2_with (at_builtin;refine ae_ _ rfl _ _ 56 rfl w.heap.size 9 i0 (.string ByteArray.empty) 1 16 underlying56 hi0 hz0 hz01 hz02 rfl d_ _ ((i+1)) (cp_ (ins t p s) (i+1)) rfl hna ⟨wr.heap.size,0,none⟩ 1 1 [.string (t i)] rfl rfl (cell_one_new _ _ _) (oc__ rfl) d_ u_ o_ s_ ?_;intro gA capA wnA hown3 hgr hfr;have HOA:Hid (wnA.ownsRow w.heap.size 9 1 (.slice (some ⟨gA,0,none⟩) (((i+1))+1) capA) (((i+1))+1) ((cp_ (ins t p s) (i+1))++ [.string (t i)])):=hown3;have HGA:Hid ((wr.alloc (.cells #[.string (t i)] 9)).grownBy wnA (u8).ownBlock):=hgr;have HFA:Hid ((u8).ownBlock=some gA\/gA=(wr.alloc (.cells #[.string (t i)] 9)).heap.size):=hfr;clear hown3 hgr hfr hna);go_roundw
             case rel=>
              have ho:=HOA.out;rw[<-yx_ t s (show p<=i by omega),fs_]at ho;refine⟨i+1,o_,by go_num,s_,(HB.out.alloc o_ _).grown HGA.out s_ (fun x e=>HOW.out x e), ?_⟩;rw[if_pos o_];exact ho
             case measure=>simp[intOf];omega
       . have e:i=n:=o_;have q1:¬(i:Int)<(n:Int):=o_;subst e;by_cases hpn:p<i
         . have q2:decide (p<i)=true:=s_;rw[if_pos hpn]at hown;rw[q2];obtain⟨al,cl,rfl,_⟩:=af_ hown;have HO:Hid (wr.ownsRow w.heap.size 9 1 (.slice al (i+1) cl) (i+1) (cp_ (ins t p s) (i+1))):=hown;clear hown hb hsh HH HT q2 c0 f0;go_wp2_with fail;go_ret2;obtain⟨x1,x2,x3⟩:=HFR.out.put HB.out HO.out;exact⟨rfl,_,x1,x2,fun g e=> .inr (x3 g e)⟩
         . have e:p=i:=o_;have q2:decide (p<i)=false:=s_;rw[if_neg o_]at hown;rw[q2];subst e;have hna:=hown.alloc (.cells #[.string s] 9);have HOW:Hid (∀x,(u8:Value).ownBlock=some x->w.heap.size<=x):=fun x e=>(hown.lt x e).1
           have C0:Hid (w.cell? ⟨b,0,none⟩=some (.slice a p cap)):=c0;have F0:Hid (w.frozen? ⟨b,0,none⟩=false):=f0;clear hown hb hsh HH HT q2 c0 f0;go_wp2_with (at_builtin;refine ae_ _ rfl _ _ 56 rfl w.heap.size 9 i0 (.string ByteArray.empty) 1 16 underlying56 hi0 hz0 hz01 hz02 rfl d_ _ (p) (cp_ (ins t p s) p) rfl hna ⟨wr.heap.size,0,none⟩ 1 1 [.string (s)] rfl rfl (cell_one_new _ _ _) (oc__ rfl) d_ u_ o_ s_ ?_;intro gA capA wnA hown3 hgr hfr;have HOA:Hid (wnA.ownsRow w.heap.size 9 1 (.slice (some ⟨gA,0,none⟩) ((p)+1) capA) ((p)+1) ((cp_ (ins t p s) p)++ [.string (s)])):=hown3;have HGA:Hid ((wr.alloc (.cells #[.string (s)] 9)).grownBy wnA (u8).ownBlock):=hgr;have HFA:Hid ((u8).ownBlock=some gA\/gA=(wr.alloc (.cells #[.string (s)] 9)).heap.size):=hfr;clear hown3 hgr hfr hna;have hbA:=(HB.out.alloc o_ (.cells #[.string s] 9)).grown HGA.out s_ (fun x e=>HOW.out x e);have c1A:wnA.cell? ⟨b,0,none⟩=some (.slice a p cap):=((cu_ hbA).1 b 0 (an_ C0.out)).trans C0.out;have f1A:wnA.frozen? ⟨b,0,none⟩=false:=((cu_ hbA).2 b 0 (an_ C0.out)).trans F0.out;clear hbA);go_ret2;have ho:=HOA.out;rw[show(Value.string s)= .string (ins t p s p)by rw[yw_],fs_]at ho;obtain⟨x1,x2,x3⟩:=HFR.out.put ((HB.out.alloc o_ _).grown HGA.out s_ (fun x e=>HOW.out x e)) ho;exact⟨rfl,_,x1,x2,fun g e=> .inr (x3 g e)⟩
    . have e1:dn_ t n s p=false:=by simp[dn_,h60]
      have e2:dj_ t n s p=9:=by simp only[dj_,htu,hst,h60,if_true,if_false]
      rw[addT,addN,e1,e2];have q60:((n:Int)==60)=true:=s_;clear h e1 e2 hp hst;go_enter func43,ntmps43;go_wp2_with (first
       |(go_at_call 61;refine HT.mono ?_;rintro e w' ⟨rfl,hw'⟩;obtain rfl:w=w':=hw'.symm)
       |(go_at_call 84;refine HH.mono ?_;rintro e w' ⟨rfl,hw'⟩;obtain rfl:w=w':=hw'.symm))
      go_ret2;exact⟨rfl,_,HFR.out,ab_.refl _ _,fun g e=> .inl e⟩
structure Left (t:Nat->ByteArray)(n:Nat)(s:ByteArray)(u:Nat->ByteArray)(K:Nat->Nat):Prop where
 zero:K 0=0
 step:∀i,i<n->(t i=s/\K (i+1)=K i)\/(t i≠s/\K (i+1)=K i+1/\u (K i)=t i)
theorem Left.le {t:Nat->ByteArray}{n:Nat}{s:ByteArray}{u:Nat->ByteArray}{K:Nat->Nat}(h:Left t n s u K):∀i,i<=n->K i<=i
 |0,_=>by rw[h.zero];omega
 |i+1,hi=>by
  have:=h.le i o_;rcases h.step i o_ with ⟨_,e⟩|⟨_,e,_⟩<;>omega
theorem aee_ {t:Nat->ByteArray}{n:Nat}{s:ByteArray}(h:∀j,j<n->t j≠s):Left t n s t (fun i=>i):=⟨rfl,fun i hi=> .inr ⟨h i hi,rfl,rfl⟩⟩
theorem abp_ {t:Nat->ByteArray}{n p:Nat}{s:ByteArray}(hs:SrtB t n)(hp:p<n)(e:t p=s):Left t n s (del t p) (fun i=>if p<i then i - 1 else i):=by
 refine⟨i_,fun i hi=> ?_⟩;by_cases h1:i<p
 . refine .inr ⟨fun e'=>pg_ (hs i p h1 hp) (by rw[e',e]), ?_, ?_⟩
   . simp only[if_neg (show¬p<i+1 by omega),if_neg (show¬p<i by omega)]
   . simp only[if_neg (show¬p<i by omega),del,if_pos h1]
 . by_cases h2:i=p
   . subst h2;exact .inl ⟨e,i_⟩
   . refine .inr ⟨fun e'=>pg_ (hs p i o_ hi) (by rw[e',e]), ?_, ?_⟩
     . simp only[if_pos (show p<i+1 by omega),if_pos (show p<i by omega)];omega
     . simp only[if_pos (show p<i by omega),del,if_neg (show¬i - 1<p by omega)];congr 1;omega
theorem qg_ (w:World)(b n:Nat)(ry:Value)(t:Nat->ByteArray)(cy:Nat->Value)(s:ByteArray)(u:Nat->ByteArray)(K:Nat->Nat)(h:ByAt w b ry t n cy)(hn:n<=60)(hs:s.size<=maxLen)(htu:de_ s=true)(hL:Left t n s u K):
 Calls prog 45 #[.pointer (some ⟨b,0,none⟩),.string s] w fun e w'=>e= .returned (.tuple #[.bool (hasB t n s),.int .i64 0])/\∃ry',ByAt w' b ry' u (K n) cy/\ab_ (fun k=>k=b) w w'/\∀g,ry'.ownBlock=some g->w.heap.size<=g:=by
 obtain⟨i0,hi0,hz0,hz01,hz02⟩:=info_parts jq_;have HT:=gt_ s 12 w hs o_;have HH:=pl_ w b n ry t cy s h hn;rw[show(decide (s.size<=12)&&ba_ s s.size)=true from htu]at HT;obtain⟨bb,HBB⟩:=hx__ (hasB t n s);rw[HBB.out]at HH ⊢;have c0:=h.row;have f0:=h.frozen;have HFR:=hi__ h;obtain⟨a,cap,rfl,hsh⟩:=h.shape;have HLL:=hi__ hL;clear h hL;go_enter func45,ntmps45;go_wp2_with (first
  |(go_at_call 61;refine HT.mono ?_;rintro e w' ⟨rfl,hw'⟩;obtain rfl:w=w':=hw'.symm)
  |(go_at_call 84;refine HH.mono ?_;rintro e w' ⟨rfl,hw'⟩;obtain rfl:w=w':=hw'.symm))
 go_loopw [8,9] (fun l' i' wr=>∃i:Nat,i<=n/\i'= .int .i64 (i:Int)/\Below w.heap.size w wr/\wr.ownsRow w.heap.size 9 1 l' (K i) (cp_ u (K i))) (fun _ i' _=>n - (intOf i').toNat)
 case atStart=>exact⟨0,o_,rfl,br__,by rw[HLL.out.zero];exact on__⟩
 case round=>
  obtain⟨i,hi,rfl,hb,hown⟩:=hrel;have hbs:=hb.size;have hKi:=HLL.out.le i hi;have c1:wr.cell? ⟨b,0,none⟩=some (.slice a n cap):=(cu_ hb).1 b 0 (an_ c0)|>.trans c0
  have f1:wr.frozen? ⟨b,0,none⟩=false:=(cu_ hb).2 b 0 (an_ c0)|>.trans f0
  have HB:Hid (Below w.heap.size w wr):=hb;by_cases hlt:i<n
  . obtain⟨g,rfl,hc⟩:=hsh o_;have c2:wr.cell? ⟨g,i,none⟩=some (.string (t i)):=(cu_ hb).1 g i (an_ (hc i hlt))|>.trans (hc i hlt)
    have q1:(i:Int)<(n:Int):=o_;rcases HLL.out.step i hlt with ⟨e,eK⟩|⟨e,eK,eu⟩
    . have q2:((t i).toList==s.toList)=true:=by rw[fr_];simp[e]
      have HO:Hid (wr.ownsRow w.heap.size 9 1 u8 (K i) (cp_ u (K i))):=hown;have HEK:Hid (K (i+1)=K i):=eK;clear hown hb HFR c0 f0 hsh hc HH HT e eK;go_wp2_with fail;go_roundw
      case rel=>exact⟨i+1,o_,by go_num,HB.out,by rw[HEK.out];exact HO.out⟩
      case measure=>simp[intOf];omega
    . have q2:((t i).toList==s.toList)=false:=by rw[fr_];simp[e]
      have hna:=hown.alloc (.cells #[.string (t i)] 9);have HOW:Hid (∀x,(u8:Value).ownBlock=some x->w.heap.size<=x):=fun x e=>(hown.lt x e).1
      have HEK:Hid (K (i+1)=K i+1):=eK;have HEU:Hid (u (K i)=t i):=eu;clear hown hb HFR c0 f0 hsh hc HH HT e eK eu;go_wp2_with (at_builtin;refine ae_ _ rfl _ _ 56 rfl w.heap.size 9 i0 (.string ByteArray.empty) 1 16 underlying56 hi0 hz0 hz01 hz02 rfl d_ _ (K i) (cp_ u (K i)) rfl hna ⟨wr.heap.size,0,none⟩ 1 1 [.string (t i)] rfl rfl (cell_one_new _ _ _) (oc__ rfl) d_ u_ o_ s_ ?_;intro gA capA wnA hown3 hgr hfr;have HOA:Hid (wnA.ownsRow w.heap.size 9 1 (.slice (some ⟨gA,0,none⟩) ((K i)+1) capA) ((K i)+1) ((cp_ u (K i))++ [.string (t i)])):=hown3;have HGA:Hid ((wr.alloc (.cells #[.string (t i)] 9)).grownBy wnA (u8).ownBlock):=hgr;have HFA:Hid ((u8).ownBlock=some gA\/gA=(wr.alloc (.cells #[.string (t i)] 9)).heap.size):=hfr;clear hown3 hgr hfr hna);go_roundw
      case rel=>
       have ho:=HOA.out;rw[<-HEU.out,fs_]at ho;refine⟨i+1,o_,by go_num,(HB.out.alloc o_ _).grown HGA.out s_ (fun x e=>HOW.out x e), ?_⟩;rw[HEK.out];exact ho
      case measure=>simp[intOf];omega
  . have e:i=n:=o_;have q1:¬(i:Int)<(n:Int):=o_;subst e;obtain⟨al,cl,rfl,_⟩:=af_ hown;have HO:Hid (wr.ownsRow w.heap.size 9 1 (.slice al (K i) cl) (K i) (cp_ u (K i))):=hown;clear hown hb hsh HH HT c0 f0;go_wp2_with fail;go_ret2;obtain⟨x1,x2,x3⟩:=HFR.out.put HB.out HO.out;exact⟨rfl,_,x1,x2,x3⟩
theorem abq_ (w:World)(b n:Nat)(ry:Value)(t:Nat->ByteArray)(cy:Nat->Value)(s:ByteArray)(p:Nat)(h:ByAt w b ry t n cy)(hn:n<=60)(hs:s.size<=maxLen)(hsr:SrtB t n)(hp:IsPl t n s p):
 Calls prog 45 #[.pointer (some ⟨b,0,none⟩),.string s] w fun e w'=>e= .returned (.tuple #[.bool (c5_ t n s p),.int .i64 (dk_ s)])/\∃ry',ByAt w' b ry' (fk_ t n s p) (e7_ t n s p) cy/\ab_ (fun k=>k=b) w w'/\∀g,ry'.ownBlock=some g->ry.ownBlock=some g\/w.heap.size<=g:=by
 cases htu:de_ s with
 |false=>
  have HT:=gt_ s 12 w hs o_;rw[show(decide (s.size<=12)&&ba_ s s.size)=false from htu]at HT;have e1:c5_ t n s p=false:=by simp[c5_,htu]
  have e2:dk_ s=7:=by simp[dk_,htu]
  rw[fk_,e7_,e1,e2];have HF:=hi__ h;clear h e1 e2;go_enter func45,ntmps45;go_wp2_with (go_at_call 61;refine HT.mono ?_;rintro e w' ⟨rfl,hw'⟩;obtain rfl:w=w':=hw'.symm);go_ret2;exact⟨rfl,_,HF.out,ab_.refl _ _,fun g e=> .inl e⟩
 |true=>
  have e2:dk_ s=0:=by simp[dk_,htu]
  have e1:c5_ t n s p=decide (p<n/\t p=s):=by simp only[c5_,htu,Bool.true_and]
  rw[fk_,e7_,e1,e2,<-hp.hasB_eq hsr];by_cases hst:p<n/\t p=s
  . have hh:hasB t n s=true:=by rw[hp.hasB_eq hsr];simp[hst]
    refine(qg_ w b n ry t cy s _ _ h hn hs htu (abp_ hsr hst.1 hst.2)).mono ?_;rintro e w' ⟨rfl,ry',x1,x2,x3⟩;refine⟨rfl,ry', ?_,x2,fun g e=> .inr (x3 g e)⟩;simp only[if_pos hst.1]at x1;simp only[hh,if_true];exact x1
  . have hh:hasB t n s=false:=by rw[hp.hasB_eq hsr];simp[hst]
    refine(qg_ w b n ry t cy s _ _ h hn hs htu (aee_ (fun j hj e=>hst ((hp.stands hsr).1 ⟨j,hj,e⟩)))).mono ?_;rintro e w' ⟨rfl,ry',x1,x2,x3⟩;refine⟨rfl,ry', ?_,x2,fun g e=> .inr (x3 g e)⟩;simp only[hh,Bool.false_eq_true,if_false];exact x1
theorem abr_ (r:RLay)(A:Nat->Bool)(X:Nat->Nat->Int)(w:World)(bx:Nat)(h:cz_ w r A X)(hok:c0_ r X=false):
 Calls prog 95 #[.pointer (some ⟨bx,0,none⟩),.agg #[.slice r.aa r.na r.ca,.slice r.an r.nn r.cn]] w
  fun e w'=>e= .returned (.tuple #[.int .i64 0,.int .i64 6])/\Below w.heap.size w w':=by
 have B1:Below w.heap.size w (w.alloc (.cells #[.slice r.aa r.na r.ca,.slice r.an r.nn r.cn] 41)):=br__.alloc lr__ _;have HV:=xu_ r A X _ (h.below B1);rw[hok]at HV;clear h hok;go_enter func95,ntmps95;go_wp2_with fail;refine HV.mono ?_;rintro e w1 ⟨rfl,hb1⟩;have B2:Below w.heap.size w w1:=B1.trans (hb1.mono i_);clear HV hb1;go_wp2_with fail;go_ret2;exact⟨rfl,B2⟩
def cb_ (c:Nat->Cu):Nat:=if (c 0).op=false then 0 else if (c 1).op=false then 1 else if (c 2).op=false then 2 else if (c 3).op=false then 3 else 4
theorem su_ (c:Nat->Cu):cb_ c<=4:=by unfold cb_;repeat' split<;>try omega
theorem ov_ {c:Nat->Cu}(h:cb_ c<4):(c (cb_ c)).op=false:=by
 unfold cb_ at h ⊢;by_cases a:(c 0).op=false
 . simp[a]
 . by_cases b:(c 1).op=false
   . simp[a,b]
   . by_cases d:(c 2).op=false
     . simp[a,b,d]
     . by_cases e:(c 3).op=false
       . simp[a,b,d,e]
       . simp[a,b,d,e]at h
theorem h9_ {c:Nat->Cu}{i:Nat}(h:i<cb_ c):(c i).op=true:=by
 have h4:=su_ c;unfold cb_ at h;have k:∀j,¬(c j).op=false->(c j).op=true:=fun j hj=>by simpa using hj
 by_cases a:(c 0).op=false
 . simp[a]at h
 . by_cases b:(c 1).op=false
   . simp[a,b]at h;subst h;exact k 0 a
   . by_cases d:(c 2).op=false
     . simp[a,b,d]at h;rcases (show i=0\/i=1 by omega)with rfl|rfl
       . exact k 0 a
       . exact k 1 b
     . by_cases e:(c 3).op=false
       . simp[a,b,d,e]at h;rcases (show i=0\/i=1\/i=2 by omega)with rfl|rfl|rfl
         . exact k 0 a
         . exact k 1 b
         . exact k 2 d
       . simp[a,b,d,e]at h;rcases (show i=0\/i=1\/i=2\/i=3 by omega)with rfl|rfl|rfl|rfl
         . exact k 0 a
         . exact k 1 b
         . exact k 2 d
         . exact k 3 e
def cq_ (U:Lay)(n:Nat):Cu:=⟨true,.slice (some ⟨U.ba,U.oa,none⟩) n U.ca,.slice (some ⟨U.bn,U.on,none⟩) n U.cn,false,ByteArray.empty⟩
theorem wj_ (V:Lay)(M:Tab)(w:World)(bx n:Nat)(t:Nat->ByteArray)(c:Nat->Cu)(hM:M.Ok)(hV:av_ w V M)(h:BxAt w bx t n (cuv c))(hf:cb_ c=4):
 Calls prog 95 #[.pointer (some ⟨bx,0,none⟩),.agg #[.slice (some ⟨V.ba,V.oa,none⟩) M.n V.ca,.slice (some ⟨V.bn,V.on,none⟩) M.n V.cn]] w
  fun e w'=>e= .returned (.tuple #[.int .i64 0,.int .i64 9])/\Below w.heap.size w w':=by
 have B1:Below w.heap.size w (w.alloc (.cells #[.slice (some ⟨V.ba,V.oa,none⟩) M.n V.ca,.slice (some ⟨V.bn,V.on,none⟩) M.n V.cn] 41)):=br__.alloc lr__ _;have HV:=nm_ V M _ hM (hV.below B1);have HO:Hid (∀i,i<4->(c i).op=true):=fun i hi=>h9_ o_
 have HB:=hi__ h;clear h hV hM hf;go_enter func95,ntmps95;go_wp2_with fail;refine HV.mono ?_;rintro e w1 ⟨rfl,hb1⟩;have B2:Below w.heap.size w w1:=B1.trans (hb1.mono i_);clear HV hb1;go_wp2_with fail;go_loopw [6] (fun i' wr=>∃i:Nat,i<=4/\i'= .int .i64 (i:Int)/\wr=w1) (fun i' _=>4 - (intOf i').toNat)
 case atStart=>exact⟨0,o_,rfl,rfl⟩
 case round=>
  obtain⟨i,hi,rfl,rfl⟩:=hrel;have hx:=HB.out.below B2;rcases (show i=0\/i=1\/i=2\/i=3\/i=4 by omega)with rfl|rfl|rfl|rfl|rfl
  . obtain⟨c0,_⟩:=hx.cu (k:=0) o_;rw[HO.out 0 o_]at c0;clear hx;go_wp2_with fail;go_roundw
    case rel=>exact⟨1,o_,by go_num,trivial⟩
    case measure=>simp[intOf]
  . obtain⟨c0,_⟩:=hx.cu (k:=1) o_;rw[HO.out 1 o_]at c0;clear hx;go_wp2_with fail;go_roundw
    case rel=>exact⟨2,o_,by go_num,trivial⟩
    case measure=>simp[intOf]
  . obtain⟨c0,_⟩:=hx.cu (k:=2) o_;rw[HO.out 2 o_]at c0;clear hx;go_wp2_with fail;go_roundw
    case rel=>exact⟨3,o_,by go_num,trivial⟩
    case measure=>simp[intOf]
  . obtain⟨c0,_⟩:=hx.cu (k:=3) o_;rw[HO.out 3 o_]at c0;clear hx;go_wp2_with fail;go_roundw
    case rel=>exact⟨4,o_,by go_num,trivial⟩
    case measure=>simp[intOf]
  . clear hx;go_wp2_with fail;go_ret2;exact⟨rfl,B2⟩
theorem av_.touch1 {w w':World}{U:Lay}{M:Tab}{bx N:Nat}(h:av_ w U M)(hU:U.From N M.n)(hT:ab_ (fun k=>k=bx) w w')(hb:bx<N):av_ w' U M:=by
 have key:∀b o v,w.cell? ⟨b,o,none⟩=some v->N<=b->w'.cell? ⟨b,o,none⟩=some v:=fun b o v hc hn=>by
  have hl:=an_ hc;have hk:=hT.block b hl o_;simp only[World.cell?]at hc ⊢;rw[hk];exact hc
 exact⟨fun i hi=>key _ _ _ (h.acc i hi) hU.1,fun i hi=>key _ _ _ (h.row i hi) hU.2,fun i c hi hc=>key _ _ _ (h.cel i c hi hc) (hU.3 i hi)⟩
theorem hi_ {S:Nat->Prop}{w w':World}(h:ab_ S w w'):ab_ S w w'.drew:=⟨h.os,h.tape,h.output,h.size,h.block⟩
theorem abs_ (V:Lay)(M:Tab)(w:World)(bx n:Nat)(t:Nat->ByteArray)(c:Nat->Cu)(hM:M.Ok)(hV:av_ w V M)(h:BxAt w bx t n (cuv c))(hf:cb_ c<4):
 Calls prog 95 #[.pointer (some ⟨bx,0,none⟩),.agg #[.slice (some ⟨V.ba,V.oa,none⟩) M.n V.ca,.slice (some ⟨V.bn,V.on,none⟩) M.n V.cn]] w
  fun e w'=>∃U:Lay,e= .returned (.tuple #[.int .i64 (cb_ c:Int),.int .i64 0])/\av_ w' U M/\U.From w.heap.size M.n/\BxAt w' bx t n (cuv (b3_ c (cb_ c) (cq_ U M.n)))/\ab_ (fun k=>k=bx) w w':=by
 have B1:Below w.heap.size w (w.alloc (.cells #[.slice (some ⟨V.ba,V.oa,none⟩) M.n V.ca,.slice (some ⟨V.bn,V.on,none⟩) M.n V.cn] 41)):=br__.alloc lr__ _;have hk0:(w.alloc (.cells #[.slice (some ⟨V.ba,V.oa,none⟩) M.n V.ca,.slice (some ⟨V.bn,V.on,none⟩) M.n V.cn] 41)).heap[w.heap.size]? =some (.cells #[.slice (some ⟨V.ba,V.oa,none⟩) M.n V.ca,.slice (some ⟨V.bn,V.on,none⟩) M.n V.cn] 41 (0,0)):=ag_ i_;have HV:=nm_ V M _ hM (hV.below B1);have HO:Hid (∀i,i<cb_ c->(c i).op=true):=fun i hi=>h9_ hi
 have HS:Hid ((c (cb_ c)).op=false):=ov_ hf;have HB:=hi__ h;have HBl:bx<w.heap.size:=World.rowIs.lt h;have HT:=hi__ hV;obtain⟨f,HF⟩:=hx__ (cb_ c);rw[HF.out]at hf HO HS ⊢;clear h hV HF;go_enter func95,ntmps95;go_wp2_with fail;refine HV.mono ?_;rintro e w1 ⟨rfl,hb1⟩;have B2:Below w.heap.size w w1:=B1.trans (hb1.mono i_);have hk1:=(hb1.block _ i_).trans hk0;have hs1:=ac_ hk1;clear HV hb1 hk0 B1;go_wp2_with fail;go_loopw [6] (fun i' wr=>∃i:Nat,i<=f/\i'= .int .i64 (i:Int)/\wr=w1) (fun i' _=>4 - (intOf i').toNat)
 case atStart=>exact⟨0,o_,rfl,rfl⟩
 case round=>
  obtain⟨i,hi,rfl,rfl⟩:=hrel;have hx:=HB.out.below B2;obtain⟨x0,x1,_,_⟩:=aa_ hk1;rcases (show i=0\/i=1\/i=2\/i=3 by omega)with rfl|rfl|rfl|rfl
  . obtain⟨c0,d0⟩:=hx.cu (k:=0) o_;by_cases hl:0<f
    . rw[HO.out 0 hl]at c0;clear hx d0 hk1;go_wp2_with fail;go_roundw
      case rel=>exact⟨1,o_,by go_num,trivial⟩
      case measure=>simp[intOf]
    . obtain rfl:f=0:=o_;rw[HS.out]at c0;have f0:=World.rowIs.frozen hx 61;have HC:=mn_ V M wr hM (HT.out.below B2);clear d0 hk1 hl hi hx;go_wp2_with fail;refine HC.mono ?_;rintro e w2 ⟨U,rfl,hU,hUF,hb2⟩;have hx2:=(HB.out.below B2).below hb2;have B3:Below w.heap.size w w2:=B2.trans (hb2.mono o_);have hs2:=hb2.size;obtain⟨W3,hW3,B4,-,hk3⟩:=nw__ w2 #[.slice (some ⟨U.ba,U.oa,none⟩) M.n U.ca,.slice (some ⟨U.bn,U.on,none⟩) M.n U.cn] 41;obtain⟨y0,y1,_,_⟩:=aa_ hk3;have hx3:=hx2.below B4;have g0:=World.rowIs.frozen hx3 61;have g1:=World.rowIs.frozen hx3 (61+1);have g2:=World.rowIs.frozen hx3 (61+2);have g3:=World.rowIs.frozen hx3 (61+3);have g4:=World.rowIs.frozen hx3 (61+4);obtain⟨d0,d1,d2,d3,d4⟩:=hx3.cu (k:=0) o_;have HU:Hid (av_ W3 U M):=hU.below B4;have HX3:Hid (BxAt W3 bx t n (cuv c)):=hx3;have B5:Below w.heap.size w W3:=B3.trans (B4.mono o_);clear HC hU hx2 hb2 hx3 hk3 B4 f0 c0 x0 x1;go_wp2_with fail;rw[<-hW3];clear hW3;go_region
      go_wp2_with fail;go_ret2;obtain⟨WF,hWF⟩:=ew__ (((((W3.setCell ⟨bx,61,none⟩ (.bool true)).setCell ⟨bx,62,none⟩ (.slice (some ⟨U.ba,U.oa,none⟩) M.n U.ca)).setCell ⟨bx,63,none⟩ (.slice (some ⟨U.bn,U.on,none⟩) M.n U.cn)).setCell ⟨bx,64,none⟩ (.bool false)).setCell ⟨bx,65,none⟩ (.string ⟨#[]⟩));have hp:BxAt WF bx t n (cuv (b3_ c 0 (cq_ U M.n)))/\ab_ (fun k=>k=bx) W3 WF:=by rw[hWF];exact HX3.out.put (k:=0) o_ (cq_ U M.n)
      rw[<-hWF];clear hWF;have hT:=hi_ hp.2;exact⟨U,rfl,HU.out.touch1 hUF hT o_,hUF.mono o_,hp.1,ci_ (bm_ B5) hT⟩
  . obtain⟨c0,d0⟩:=hx.cu (k:=1) o_;by_cases hl:1<f
    . rw[HO.out 1 hl]at c0;clear hx d0 hk1;go_wp2_with fail;go_roundw
      case rel=>exact⟨2,o_,by go_num,trivial⟩
      case measure=>simp[intOf]
    . obtain rfl:f=1:=o_;rw[HS.out]at c0;have f0:=World.rowIs.frozen hx 66;have HC:=mn_ V M wr hM (HT.out.below B2);clear d0 hk1 hl hi hx;go_wp2_with fail;refine HC.mono ?_;rintro e w2 ⟨U,rfl,hU,hUF,hb2⟩;have hx2:=(HB.out.below B2).below hb2;have B3:Below w.heap.size w w2:=B2.trans (hb2.mono o_);have hs2:=hb2.size;obtain⟨W3,hW3,B4,-,hk3⟩:=nw__ w2 #[.slice (some ⟨U.ba,U.oa,none⟩) M.n U.ca,.slice (some ⟨U.bn,U.on,none⟩) M.n U.cn] 41;obtain⟨y0,y1,_,_⟩:=aa_ hk3;have hx3:=hx2.below B4;have g0:=World.rowIs.frozen hx3 66;have g1:=World.rowIs.frozen hx3 (66+1);have g2:=World.rowIs.frozen hx3 (66+2);have g3:=World.rowIs.frozen hx3 (66+3);have g4:=World.rowIs.frozen hx3 (66+4);obtain⟨d0,d1,d2,d3,d4⟩:=hx3.cu (k:=1) o_;have HU:Hid (av_ W3 U M):=hU.below B4;have HX3:Hid (BxAt W3 bx t n (cuv c)):=hx3;have B5:Below w.heap.size w W3:=B3.trans (B4.mono o_);clear HC hU hx2 hb2 hx3 hk3 B4 f0 c0 x0 x1;go_wp2_with fail;rw[<-hW3];clear hW3;go_region
      go_wp2_with fail;go_ret2;obtain⟨WF,hWF⟩:=ew__ (((((W3.setCell ⟨bx,66,none⟩ (.bool true)).setCell ⟨bx,67,none⟩ (.slice (some ⟨U.ba,U.oa,none⟩) M.n U.ca)).setCell ⟨bx,68,none⟩ (.slice (some ⟨U.bn,U.on,none⟩) M.n U.cn)).setCell ⟨bx,69,none⟩ (.bool false)).setCell ⟨bx,70,none⟩ (.string ⟨#[]⟩));have hp:BxAt WF bx t n (cuv (b3_ c 1 (cq_ U M.n)))/\ab_ (fun k=>k=bx) W3 WF:=by rw[hWF];exact HX3.out.put (k:=1) o_ (cq_ U M.n)
      rw[<-hWF];clear hWF;have hT:=hi_ hp.2;exact⟨U,rfl,HU.out.touch1 hUF hT o_,hUF.mono o_,hp.1,ci_ (bm_ B5) hT⟩
  . obtain⟨c0,d0⟩:=hx.cu (k:=2) o_;by_cases hl:2<f
    . rw[HO.out 2 hl]at c0;clear hx d0 hk1;go_wp2_with fail;go_roundw
      case rel=>exact⟨3,o_,by go_num,trivial⟩
      case measure=>simp[intOf]
    . obtain rfl:f=2:=o_;rw[HS.out]at c0;have f0:=World.rowIs.frozen hx 71;have HC:=mn_ V M wr hM (HT.out.below B2);clear d0 hk1 hl hi hx;go_wp2_with fail;refine HC.mono ?_;rintro e w2 ⟨U,rfl,hU,hUF,hb2⟩;have hx2:=(HB.out.below B2).below hb2;have B3:Below w.heap.size w w2:=B2.trans (hb2.mono o_);have hs2:=hb2.size;obtain⟨W3,hW3,B4,-,hk3⟩:=nw__ w2 #[.slice (some ⟨U.ba,U.oa,none⟩) M.n U.ca,.slice (some ⟨U.bn,U.on,none⟩) M.n U.cn] 41;obtain⟨y0,y1,_,_⟩:=aa_ hk3;have hx3:=hx2.below B4;have g0:=World.rowIs.frozen hx3 71;have g1:=World.rowIs.frozen hx3 (71+1);have g2:=World.rowIs.frozen hx3 (71+2);have g3:=World.rowIs.frozen hx3 (71+3);have g4:=World.rowIs.frozen hx3 (71+4);obtain⟨d0,d1,d2,d3,d4⟩:=hx3.cu (k:=2) o_;have HU:Hid (av_ W3 U M):=hU.below B4;have HX3:Hid (BxAt W3 bx t n (cuv c)):=hx3;have B5:Below w.heap.size w W3:=B3.trans (B4.mono o_);clear HC hU hx2 hb2 hx3 hk3 B4 f0 c0 x0 x1;go_wp2_with fail;rw[<-hW3];clear hW3;go_region
      go_wp2_with fail;go_ret2;obtain⟨WF,hWF⟩:=ew__ (((((W3.setCell ⟨bx,71,none⟩ (.bool true)).setCell ⟨bx,72,none⟩ (.slice (some ⟨U.ba,U.oa,none⟩) M.n U.ca)).setCell ⟨bx,73,none⟩ (.slice (some ⟨U.bn,U.on,none⟩) M.n U.cn)).setCell ⟨bx,74,none⟩ (.bool false)).setCell ⟨bx,75,none⟩ (.string ⟨#[]⟩));have hp:BxAt WF bx t n (cuv (b3_ c 2 (cq_ U M.n)))/\ab_ (fun k=>k=bx) W3 WF:=by rw[hWF];exact HX3.out.put (k:=2) o_ (cq_ U M.n)
      rw[<-hWF];clear hWF;have hT:=hi_ hp.2;exact⟨U,rfl,HU.out.touch1 hUF hT o_,hUF.mono o_,hp.1,ci_ (bm_ B5) hT⟩
  . obtain⟨c0,d0⟩:=hx.cu (k:=3) o_;by_cases hl:3<f
    . omega
    . obtain rfl:f=3:=o_;rw[HS.out]at c0;have f0:=World.rowIs.frozen hx 76;have HC:=mn_ V M wr hM (HT.out.below B2);clear d0 hk1 hl hi hx;go_wp2_with fail;refine HC.mono ?_;rintro e w2 ⟨U,rfl,hU,hUF,hb2⟩;have hx2:=(HB.out.below B2).below hb2;have B3:Below w.heap.size w w2:=B2.trans (hb2.mono o_);have hs2:=hb2.size;obtain⟨W3,hW3,B4,-,hk3⟩:=nw__ w2 #[.slice (some ⟨U.ba,U.oa,none⟩) M.n U.ca,.slice (some ⟨U.bn,U.on,none⟩) M.n U.cn] 41;obtain⟨y0,y1,_,_⟩:=aa_ hk3;have hx3:=hx2.below B4;have g0:=World.rowIs.frozen hx3 76;have g1:=World.rowIs.frozen hx3 (76+1);have g2:=World.rowIs.frozen hx3 (76+2);have g3:=World.rowIs.frozen hx3 (76+3);have g4:=World.rowIs.frozen hx3 (76+4);obtain⟨d0,d1,d2,d3,d4⟩:=hx3.cu (k:=3) o_;have HU:Hid (av_ W3 U M):=hU.below B4;have HX3:Hid (BxAt W3 bx t n (cuv c)):=hx3;have B5:Below w.heap.size w W3:=B3.trans (B4.mono o_);clear HC hU hx2 hb2 hx3 hk3 B4 f0 c0 x0 x1;go_wp2_with fail;rw[<-hW3];clear hW3;go_region
      go_wp2_with fail;go_ret2;obtain⟨WF,hWF⟩:=ew__ (((((W3.setCell ⟨bx,76,none⟩ (.bool true)).setCell ⟨bx,77,none⟩ (.slice (some ⟨U.ba,U.oa,none⟩) M.n U.ca)).setCell ⟨bx,78,none⟩ (.slice (some ⟨U.bn,U.on,none⟩) M.n U.cn)).setCell ⟨bx,79,none⟩ (.bool false)).setCell ⟨bx,80,none⟩ (.string ⟨#[]⟩));have hp:BxAt WF bx t n (cuv (b3_ c 3 (cq_ U M.n)))/\ab_ (fun k=>k=bx) W3 WF:=by rw[hWF];exact HX3.out.put (k:=3) o_ (cq_ U M.n)
      rw[<-hWF];clear hWF;have hT:=hi_ hp.2;exact⟨U,rfl,HU.out.touch1 hUF hT o_,hUF.mono o_,hp.1,ci_ (bm_ B5) hT⟩
theorem yy_ (w:World)(bx n:Nat)(t:Nat->ByteArray)(c:Nat->Cu)(k:Int)(h:BxAt w bx t n (cuv c)):
 Calls prog 54 #[.pointer (some ⟨bx,0,none⟩),.int .i64 k] w fun e w'=>e= .returned (.int .i64 (fl_ c k))/\BxAt w' bx t n (cuv (ef_ c k))/\ab_ (fun j=>j=bx) w w':=by
 have HC:=aae_ w bx n t c k h;clear h;go_enter func54,ntmps54;go_wp2_with (go_at_call 94;refine HC.mono ?_;rintro e w1 ⟨rfl,hx,ht⟩;have HX:Hid (BxAt w1 bx t n (cuv (ef_ c k))):=hx;have HT:Hid (ab_ (fun k=>k=bx) w w1):=ht;clear hx ht);go_ret;exact⟨rfl,HX.out,HT.out⟩
theorem abt_ (w:World)(bx n:Nat)(t:Nat->ByteArray)(c:Nat->Cu)(k limit:Int)(h:BxAt w bx t n (cuv c))(hno:cn_ c k limit≠0):
 Calls prog 52 #[.pointer (some ⟨bx,0,none⟩),.int .i64 k,.int .i64 limit] w fun e w'=>e= .returned (.tuple #[.slice none 0 0,.bool false,.int .i64 (cn_ c k limit)])/\w'=w:=by
 have HC:=aak_ w bx n t c k limit h hno;clear h hno;go_enter func52,ntmps52;go_wp2_with (go_at_call 92;refine HC.mono ?_;rintro e w1 ⟨rfl,hw1⟩;obtain rfl:w=w1:=hw1.symm);go_ret3
 exact⟨rfl,rfl⟩
theorem abu_ (w:World)(bx n m limit:Nat)(t:Nat->ByteArray)(c:Nat->Cu)(V:Lay)(M:Tab)(h:BxAt w bx t n (cuv c))(hn:n<=60)(hm:m<4)(hop:(c m).op=true)(hl1:1<=limit)(hl:limit<=50)(htu:∀i,i<n->de_ (t i)=true)
 (hA:(c m).vA= .slice (some ⟨V.ba,V.oa,none⟩) M.n V.ca) (hN:(c m).vN= .slice (some ⟨V.bn,V.on,none⟩) M.n V.cn) (hM:M.Ok) (hT:av_ w V M):
 Calls prog 52 #[.pointer (some ⟨bx,0,none⟩),.int .i64 (m:Int),.int .i64 (limit:Int)] w fun e w'=>∃v,e= .returned (.tuple #[v,.bool (df_ (c m) M t n limit),.int .i64 0])/\w'.ownsRow w.heap.size 9 1 v (bx_ (c m) M t n limit).length (strs (bx_ (c m) M t n limit))/\BxAt w' bx t n (cuv (dd_ c m (bx_ (c m) M t n limit)))/\ab_ (fun j=>j=bx) w w':=by
 have HC:=aal_ w bx n m limit t c V M h hn hm hop hl1 hl htu hA hN hM hT;clear h hn hm hop hl1 hl htu hA hN hM hT;go_enter func52,ntmps52;go_wp2_with (go_at_call 92;refine HC.mono ?_;rintro e w1 ⟨v,rfl,ho,hx,ht⟩;have HX:Hid (w1.ownsRow w.heap.size 9 1 v (bx_ (c m) M t n limit).length (strs (bx_ (c m) M t n limit))/\BxAt w1 bx t n (cuv (dd_ c m (bx_ (c m) M t n limit)))/\ab_ (fun j=>j=bx) w w1):=⟨ho,hx,ht⟩;clear ho hx ht);go_ret3
 exact⟨v,rfl,HX.out.1,HX.out.2.1,HX.out.2.2⟩
theorem abv_ (r:RLay)(A:Nat->Bool)(X:Nat->Nat->Int)(w:World)(bx:Nat)(h:cz_ w r A X)(hok:c0_ r X=false):
 Calls prog 56 #[.pointer (some ⟨bx,0,none⟩),.agg #[.slice r.aa r.na r.ca,.slice r.an r.nn r.cn]] w
  fun e w'=>e= .returned (.tuple #[.int .i64 0,.int .i64 6])/\Below w.heap.size w w':=by
 obtain⟨W1,hW1,-,-,-⟩:=nw__ w #[.slice r.aa r.na r.ca,.slice r.an r.nn r.cn] 41;have B1:Below w.heap.size w W1.drew:=by rw[hW1];exact ba__.drew
 have hk1:=hn__ hW1;obtain⟨y0,y1,_,_⟩:=aa_ hk1;have hs1:w.heap.size<W1.drew.heap.size:=ac_ hk1;have HC:=abr_ r A X _ bx (h.below B1) hok;clear h hok;go_enter func56,ntmps56;go_wp2_with fail;rw[<-hW1];clear hW1 hk1;go_region_with (go_at_call 95;refine HC.mono ?_;rintro e w1 ⟨rfl,hb1⟩;have B2:Below w.heap.size w w1:=B1.trans (hb1.mono o_);clear hb1);go_wp2_with fail;go_ret2;exact⟨rfl,B2⟩
theorem wk_ (V:Lay)(M:Tab)(w:World)(bx n:Nat)(t:Nat->ByteArray)(c:Nat->Cu)(hM:M.Ok)(hV:av_ w V M)(h:BxAt w bx t n (cuv c))(hf:cb_ c=4):
 Calls prog 56 #[.pointer (some ⟨bx,0,none⟩),.agg #[.slice (some ⟨V.ba,V.oa,none⟩) M.n V.ca,.slice (some ⟨V.bn,V.on,none⟩) M.n V.cn]] w
  fun e w'=>e= .returned (.tuple #[.int .i64 0,.int .i64 9])/\Below w.heap.size w w':=by
 obtain⟨W1,hW1,-,-,-⟩:=nw__ w #[.slice (some ⟨V.ba,V.oa,none⟩) M.n V.ca,.slice (some ⟨V.bn,V.on,none⟩) M.n V.cn] 41;have B1:Below w.heap.size w W1.drew:=by rw[hW1];exact ba__.drew
 have hk1:=hn__ hW1;obtain⟨y0,y1,_,_⟩:=aa_ hk1;have hs1:w.heap.size<W1.drew.heap.size:=ac_ hk1;have HC:=wj_ V M _ bx n t c hM (hV.below B1) (h.below B1) hf;clear h hV hM hf;go_enter func56,ntmps56;go_wp2_with fail;rw[<-hW1];clear hW1 hk1;go_region_with (go_at_call 95;refine HC.mono ?_;rintro e w1 ⟨rfl,hb1⟩;have B2:Below w.heap.size w w1:=B1.trans (hb1.mono o_);clear hb1);go_wp2_with fail;go_ret2;exact⟨rfl,B2⟩
theorem abw_ (V:Lay)(M:Tab)(w:World)(bx n:Nat)(t:Nat->ByteArray)(c:Nat->Cu)(hM:M.Ok)(hV:av_ w V M)(h:BxAt w bx t n (cuv c))(hf:cb_ c<4):
 Calls prog 56 #[.pointer (some ⟨bx,0,none⟩),.agg #[.slice (some ⟨V.ba,V.oa,none⟩) M.n V.ca,.slice (some ⟨V.bn,V.on,none⟩) M.n V.cn]] w
  fun e w'=>∃U:Lay,e= .returned (.tuple #[.int .i64 (cb_ c:Int),.int .i64 0])/\av_ w' U M/\U.From w.heap.size M.n/\BxAt w' bx t n (cuv (b3_ c (cb_ c) (cq_ U M.n)))/\ab_ (fun k=>k=bx) w w':=by
 obtain⟨W1,hW1,-,-,-⟩:=nw__ w #[.slice (some ⟨V.ba,V.oa,none⟩) M.n V.ca,.slice (some ⟨V.bn,V.on,none⟩) M.n V.cn] 41;have B1:Below w.heap.size w W1.drew:=by rw[hW1];exact ba__.drew
 have hk1:=hn__ hW1;obtain⟨y0,y1,_,_⟩:=aa_ hk1;have hs1:w.heap.size<W1.drew.heap.size:=ac_ hk1;have HC:=abs_ V M _ bx n t c hM (hV.below B1) (h.below B1) hf;clear h hV hM hf;go_enter func56,ntmps56;go_wp2_with fail;rw[<-hW1];clear hW1 hk1;go_region_with (go_at_call 95;refine HC.mono ?_;rintro e w1 ⟨U,rfl,hU,hUF,hx,hT⟩;have HX:Hid (av_ w1 U M/\U.From w.heap.size M.n/\BxAt w1 bx t n (cuv (b3_ c (cb_ c) (cq_ U M.n)))/\ab_ (fun k=>k=bx) w w1):=⟨hU,hUF.mono o_,hx,ci_ (bm_ B1) hT⟩;clear hU hx hT hUF);go_wp2_with fail;go_ret2;exact⟨U,rfl,HX.out.1,HX.out.2.1,HX.out.2.2.1,HX.out.2.2.2⟩
end Go.Proofs.YtpngikmcjkjdaaaGreatDoor
