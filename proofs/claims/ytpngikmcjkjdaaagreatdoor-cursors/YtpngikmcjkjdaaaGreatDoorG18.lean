import Derived.Test.YtpngikmcjkjdaaaGreatDoorG0
import Derived.Test.YtpngikmcjkjdaaaGreatDoorG17
import Derived.Test.YtpngikmcjkjdaaaGreatDoorG2
import Derived.Test.YtpngikmcjkjdaaaGreatDoorG3
set_option linter.unusedVariables false
set_option linter.unusedSimpArgs false
set_option maxRecDepth 20000
set_option maxHeartbeats 80000000
namespace Go.Proofs.YtpngikmcjkjdaaaGreatDoor
open Go.RowKit Tryz
theorem aaz_ (q d c:Nat)(hd:d<=6):(a5_ q d c).1<=12/\(a5_ q d c).2<=6:=by
 unfold a5_;split
 . exact⟨i_,hd⟩
 . split
   . exact⟨i_,hd⟩
   . split
     . rename_i h;simp at h;exact⟨i_,s_⟩
     . split
       . exact⟨i_,s_⟩
       . split
         . exact⟨i_,hd⟩
         . split
           . exact⟨i_,hd⟩
           . split
             . exact⟨i_,hd⟩
             . exact⟨i_,hd⟩
theorem adv_ (q c:Nat):setA q c<=12:=by
 unfold setA;split
 . omega
 . split
   . omega
   . split
     . omega
     . split
       . omega
       . split<;>omega
theorem aa0_ (q c:Nat):cl_ q c<=12:=by
 unfold cl_;split
 . omega
 . split
   . omega
   . split
     . omega
     . split<;>omega
theorem At.bound {s:ByteArray}{a q d:Nat}(h:At s a q d):q<=11/\d<=6:=by
 induction h with
 |zero=>omega
 |step h1 hlt ha hq ih=>
  rename_i a q d q' d';unfold aut at ha;split at ha
  . have:=aaz_ q d (ad_ s a) ih.2;rw[ha]at this;simp only at this;omega
  . split at ha
    . simp only[Prod.mk.injEq]at ha;have:=adv_ q (ad_ s a);omega
    . simp only[Prod.mk.injEq]at ha;have:=aa0_ q (ad_ s a);omega
theorem pd_ (s:ByteArray)(a:Nat):ad_ s a<256:=by unfold ad_;exact UInt8.toNat_lt _
def pe_ (s:ByteArray)(r:Int):Prop:=(∃a:Nat,b6_ s a/\r=(a:Int))\/(∃q,At s s.size q 0/\q<=2/\r= -1)
theorem aa1_ {q d c:Nat}(h:q<=2):aut q d c=a5_ q d c:=by unfold aut;rw[if_pos h]
theorem adw_ {q d c:Nat}(h:¬q<=2)(h':q<=7):aut q d c=(setA q c,d):=by unfold aut;rw[if_neg h,if_pos h']
theorem aa2_ {q d c:Nat}(h:¬q<=2)(h':¬q<=7):aut q d c=(cl_ q c,d):=by unfold aut;rw[if_neg h,if_neg h']
theorem g3_ (s:ByteArray)(w:World)(hs:s.size<=40):Calls prog 69 #[.string s] w fun e w'=>∃r:Int,e= .returned (.int .i64 r)/\pe_ s r/\w=w':=by
 go_enter func69,ntmps69;go_wp2_with fail;go_loop [3,4,5] (fun q' d' i'=>∃i q d:Nat,i<=s.size/\i'= .int .i64 (i:Int)/\q'= .int .i64 (q:Int)/\d'= .int .i64 (d:Int)/\At s i q d) (fun _ _ i'=>s.size - (intOf i').toNat)
 case atStart=>exact⟨0,0,0,o_,rfl,rfl,rfl,.zero⟩
 case round=>
  obtain⟨i,q,d,hi,rfl,rfl,rfl,hA⟩:=hrel;obtain⟨hqb,hdb⟩:=hA.bound;by_cases hlt:i<s.size
  . have hc:=pd_ s i;have hce:=a9_ hlt;have HA:Hid (At s i q d):=hA;clear hA;by_cases h2:q<=2
    . have h2':(q:Int)<=2:=o_;have HC:=aax_ q d (ad_ s i) w hc o_ o_;have HE:Hid (aut q d (ad_ s i)=a5_ q d (ad_ s i)):=aa1_ h2;obtain⟨q1,d1,HI⟩:∃q1 d1,Hid (a5_ q d (ad_ s i)=(q1,d1)):=⟨_,_,rfl⟩;rw[HI.out]at HC HE;rw[hce]at HC;simp only at HC;clear hce hc;by_cases h12:q1=12
      . have HS:Hid (b6_ s i):=⟨q,d,HA.out,.inl ⟨hlt,by rw[HE.out];exact h12⟩⟩;subst h12;clear HI HE;go_wp2_with (go_at_call 107;refine HC.mono ?_;rintro e w' ⟨rfl,rfl⟩);go_ret;exact⟨_,rfl,.inl ⟨i,HS.out,rfl⟩,rfl⟩
      . have h12':((q1:Int)==12)=false:=s_;have HN:Hid (At s (i+1) q1 d1):=HA.out.step hlt HE.out h12;clear HI HE h12;go_wp2_with (go_at_call 107;refine HC.mono ?_;rintro e w' ⟨rfl,rfl⟩);go_round
        case rel=>exact⟨i+1,q1,d1,o_,by go_num,rfl,rfl,HN.out⟩
        case measure=>simp[intOf];omega
    . have h2':¬(q:Int)<=2:=o_;by_cases h7:q<=7
      . have h7':(q:Int)<=7:=o_;have HC:=adu_ q (ad_ s i) w hc o_;have HE:Hid (aut q d (ad_ s i)=(setA q (ad_ s i),d)):=adw_ h2 h7;obtain⟨q1,HI⟩:=hx__ (setA q (ad_ s i));rw[HI.out]at HC HE;rw[hce]at HC;clear hce hc;by_cases h12:q1=12
        . have HS:Hid (b6_ s i):=⟨q,d,HA.out,.inl ⟨hlt,by rw[HE.out];exact h12⟩⟩;subst h12;clear HI HE;go_wp2_with (go_at_call 108;refine HC.mono ?_;rintro e w' ⟨rfl,rfl⟩);go_ret;exact⟨_,rfl,.inl ⟨i,HS.out,rfl⟩,rfl⟩
        . have h12':((q1:Int)==12)=false:=s_;have HN:Hid (At s (i+1) q1 d):=HA.out.step hlt HE.out h12;clear HI HE h12;go_wp2_with (go_at_call 108;refine HC.mono ?_;rintro e w' ⟨rfl,rfl⟩);go_round
          case rel=>exact⟨i+1,q1,d,o_,by go_num,rfl,rfl,HN.out⟩
          case measure=>simp[intOf];omega
      . have h7':¬(q:Int)<=7:=o_;have HC:=aay_ q (ad_ s i) w hc o_;have HE:Hid (aut q d (ad_ s i)=(cl_ q (ad_ s i),d)):=aa2_ h2 h7;obtain⟨q1,HI⟩:=hx__ (cl_ q (ad_ s i));rw[HI.out]at HC HE;rw[hce]at HC;clear hce hc;by_cases h12:q1=12
        . have HS:Hid (b6_ s i):=⟨q,d,HA.out,.inl ⟨hlt,by rw[HE.out];exact h12⟩⟩;subst h12;clear HI HE;go_wp2_with (go_at_call 109;refine HC.mono ?_;rintro e w' ⟨rfl,rfl⟩);go_ret;exact⟨_,rfl,.inl ⟨i,HS.out,rfl⟩,rfl⟩
        . have h12':((q1:Int)==12)=false:=s_;have HN:Hid (At s (i+1) q1 d):=HA.out.step hlt HE.out h12;clear HI HE h12;go_wp2_with (go_at_call 109;refine HC.mono ?_;rintro e w' ⟨rfl,rfl⟩);go_round
          case rel=>exact⟨i+1,q1,d,o_,by go_num,rfl,rfl,HN.out⟩
          case measure=>simp[intOf];omega
  . obtain rfl:i=s.size:=o_;have HA:Hid (At s s.size q d):=hA;clear hA;by_cases h2:q<=2
    . have h2':¬(2:Int)<(q:Int):=o_;by_cases h0:d=0
      . subst h0;go_wp2_with fail;go_ret;exact⟨_,rfl,.inr ⟨q,HA.out,h2,rfl⟩,rfl⟩
      . have h0':(0:Int)<(d:Int):=o_;have HD:Hid (0<d):=by unfold Hid;omega
        clear h0;go_wp2_with fail;go_ret;exact⟨_,rfl,.inl ⟨s.size,⟨q,d,HA.out,.inr ⟨rfl,.inr HD.out⟩⟩,rfl⟩,rfl⟩
    . have h2':(2:Int)<(q:Int):=o_;go_wp2_with fail;go_ret;exact⟨_,rfl,.inl ⟨s.size,⟨q,d,HA.out,.inr ⟨rfl,.inl o_⟩⟩,rfl⟩,rfl⟩
theorem gm_ (s:ByteArray)(w:World)(hs:s.size<=40):Calls prog 70 #[.string s] w fun e w'=>∃r:Int,e= .returned (.int .i64 r)/\((∃i:Nat,r=(i:Int)/\BkT s i=true/\∀j,j<i->BkT s j=false)\/(r= -1/\∀j,BkT s j=false))/\Below w.heap.size w w':=by
 go_enter func70,ntmps70;go_wp2_with fail;go_loopw [3,4] (fun i' _ wr=>∃i:Nat,i<=s.size/\i'= .int .i64 (i:Int)/\(∀j,j<i->BkT s j=false)/\Below w.heap.size w wr) (fun i' _ _=>s.size - (intOf i').toNat)
 case atStart=>exact⟨0,o_,rfl,fun j hj=>o_,br__⟩
 case round=>
  obtain⟨i,hi,rfl,hJ,hB⟩:=hrel;have HJ:Hid (∀j,j<i->BkT s j=false):=hJ;have HB:Hid (Below w.heap.size w wr):=hB;clear hJ hB;by_cases hlt:i<s.size
  . have hc:=pd_ s i;have hce:=a9_ hlt;have HC:=fun w=>e5_ (ad_ s i) w hc
    have HDG:Hid (a2_ (ad_ s i)=a2_ s[i].toNat):=by unfold Hid;rw[hce]
    rw[hce]at HC;clear hce hc;obtain⟨dg,HD⟩:∃x,Hid (a2_ s[i].toNat=x):=⟨a2_ s[i].toNat,rfl⟩;rw[HD.out]at HC;rw[HD.out]at HDG;clear HD;obtain⟨j1,J1⟩:∃x,Hid (i+1=x):=⟨i+1,rfl⟩;obtain⟨j2,J2⟩:∃x,Hid (i+2=x):=⟨i+2,rfl⟩;have hw1:IntKind.i64.wrap ((i:Int)+1)=(j1:Int):=by rw[<-J1.out,IntKind.wrap_i64];omega
    have hw2:IntKind.i64.wrap ((i:Int)+2)=(j2:Int):=by rw[<-J2.out,IntKind.wrap_i64];omega
    by_cases h2:i+2<s.size
    . have h2':(j2:Int)<(s.size:Int):=by rw[<-J2.out];omega
      have hl1:j1<s.size:=by rw[<-J1.out];omega
      have hl2:j2<s.size:=by rw[<-J2.out];omega
      have e1:=a9_ (s:=s) (a:=j1) hl1;have e2:=a9_ (s:=s) (a:=j2) hl2;have e0:=a9_ hlt;obtain⟨c0,C0⟩:∃x,Hid (s[i].toNat=x):=⟨s[i].toNat,rfl⟩;obtain⟨c1,C1⟩:∃x,Hid (s[j1].toNat=x):=⟨s[j1].toNat,rfl⟩;obtain⟨c2,C2⟩:∃x,Hid (s[j2].toNat=x):=⟨s[j2].toNat,rfl⟩;have E0:Hid (ad_ s i=c0):=e0.trans C0.out;have E1:Hid (ad_ s (i+1)=c1):=by unfold Hid;rw[J1.out];exact e1.trans C1.out
      have E2:Hid (ad_ s (i+2)=c2):=by unfold Hid;rw[J2.out];exact e2.trans C2.out
      clear e0 e1 e2;by_cases h45:c1=45
      . have t45:((s[j1].toNat:Int)==45)=true:=by rw[C1.out,h45];rfl
        have H45:Hid (c1=45):=h45;clear h45;by_cases hl:c2<c0
        . have hl':(s[j2].toNat:Int)<(s[i].toNat:Int):=by rw[C2.out,C0.out];omega
          have HL:Hid (c2<c0):=hl;clear hl;have HBK:Hid (BkT s i=true):=by
           unfold Hid BkT;rw[E0.out,E1.out,E2.out,H45.out];simp[h2,HL.out]
          go_wp2_with fail;go_quiet (fail);go_wp2_with fail;go_ret;exact⟨_,rfl,.inl ⟨i,rfl,HBK.out,HJ.out⟩,below_drewN HB.out nq⟩
        . have hl':¬(s[j2].toNat:Int)<(s[i].toNat:Int):=by rw[C2.out,C0.out];omega
          have t44:((s[j1].toNat:Int)==44)=false:=by rw[C1.out,H45.out];rfl
          have HL:Hid (¬c2<c0):=hl;clear hl;cases dg
          all_goals
           have HBK:Hid (BkT s i=false):=by
            unfold Hid BkT;have hL:=HL.out;rw[E0.out,E1.out,E2.out,H45.out];simp;omega
           go_wp2_with fail;go_quiet (fail);go_wp2_with fail;have HB2:Hid (Below w.heap.size w (wr.drewN nq)):=below_drewN HB.out nq;generalize wr.drewN nq=w2 at*;go_wp2_with (go_at_call 110;refine(HC _).mono ?_;rintro e w' ⟨rfl,rfl⟩);go_quiet (fail);go_wp2_with fail;go_roundw
           case rel=>exact⟨i+1,o_,by rw[J1.out],fun j hj=>by
            by_cases e:j=i
            . subst e;exact HBK.out
            . exact HJ.out j o_,below_drewN HB2.out nq⟩
           case measure=>
            have hj1:=J1.out;simp[intOf];omega
      . have t45:((s[j1].toNat:Int)==45)=false:=by rw[C1.out];simp;omega
        have H45:Hid (c1≠45):=h45;clear h45;by_cases h44:c1=44
        . have t44:((s[j1].toNat:Int)==44)=true:=by rw[C1.out,h44];rfl
          have H44:Hid (c1=44):=h44;clear h44;by_cases h125:c2=125
          . have t125:((s[j2].toNat:Int) !=125)=false:=by rw[C2.out,h125];rfl
            have H125:Hid (c2=125):=h125;clear h125;cases dg
            all_goals
             have HBK:Hid (BkT s i=false):=by
              unfold Hid BkT;rw[E0.out,E1.out,E2.out,H44.out,H125.out];simp
             go_wp2_with fail;go_quiet (fail);go_wp2_with fail;have HB2:Hid (Below w.heap.size w (wr.drewN nq)):=below_drewN HB.out nq;generalize wr.drewN nq=w2 at*;go_wp2_with (go_at_call 110;refine(HC _).mono ?_;rintro e w' ⟨rfl,rfl⟩);go_quiet (fail);go_wp2_with fail;go_roundw
             case rel=>exact⟨i+1,o_,by rw[J1.out],fun j hj=>by
              by_cases e:j=i
              . subst e;exact HBK.out
              . exact HJ.out j o_,below_drewN HB2.out nq⟩
             case measure=>
              have hj1:=J1.out;simp[intOf];omega
          . have t125:((s[j2].toNat:Int) !=125)=true:=by rw[C2.out];simp;omega
            have H125:Hid (c2≠125):=h125;clear h125;by_cases hl:c2<c0
            . have hl':(s[j2].toNat:Int)<(s[i].toNat:Int):=by rw[C2.out,C0.out];omega
              have HL:Hid (c2<c0):=hl;clear hl;cases dg
              . skip;have HBK:Hid (BkT s i=false):=by
                 unfold Hid BkT;rw[HDG.out,E1.out,H44.out];simp
                go_wp2_with fail;go_quiet (fail);go_wp2_with fail;have HB2:Hid (Below w.heap.size w (wr.drewN nq)):=below_drewN HB.out nq;generalize wr.drewN nq=w2 at*;go_wp2_with (go_at_call 110;refine(HC _).mono ?_;rintro e w' ⟨rfl,rfl⟩);go_quiet (fail);go_wp2_with fail;go_roundw
                case rel=>exact⟨i+1,o_,by rw[J1.out],fun j hj=>by
                 by_cases e:j=i
                 . subst e;exact HBK.out
                 . exact HJ.out j o_,below_drewN HB2.out nq⟩
                case measure=>
                 have hj1:=J1.out;simp[intOf];omega
              . skip;have HBK:Hid (BkT s i=true):=by
                 unfold Hid BkT;have hL:=HL.out;have hX:=H125.out;rw[HDG.out,E0.out,E1.out,E2.out,H44.out];simp;omega
                go_wp2_with fail;go_quiet (fail);go_wp2_with fail;have HB2:Hid (Below w.heap.size w (wr.drewN nq)):=below_drewN HB.out nq;generalize wr.drewN nq=w2 at*;go_wp2_with (go_at_call 110;refine(HC _).mono ?_;rintro e w' ⟨rfl,rfl⟩);go_quiet (fail);go_wp2_with fail;go_ret;exact⟨_,rfl,.inl ⟨i,rfl,HBK.out,HJ.out⟩,below_drewN HB2.out nq⟩
            . have hl':¬(s[j2].toNat:Int)<(s[i].toNat:Int):=by rw[C2.out,C0.out];omega
              have HL:Hid (¬c2<c0):=hl;clear hl;cases dg
              all_goals
               have HBK:Hid (BkT s i=false):=by
                unfold Hid BkT;have hL:=HL.out;rw[E0.out,E1.out,E2.out,H44.out];simp;intros;omega
               go_wp2_with fail;go_quiet (fail);go_wp2_with fail;have HB2:Hid (Below w.heap.size w (wr.drewN nq)):=below_drewN HB.out nq;generalize wr.drewN nq=w2 at*;go_wp2_with (go_at_call 110;refine(HC _).mono ?_;rintro e w' ⟨rfl,rfl⟩);go_quiet (fail);go_wp2_with fail;go_roundw
               case rel=>exact⟨i+1,o_,by rw[J1.out],fun j hj=>by
                by_cases e:j=i
                . subst e;exact HBK.out
                . exact HJ.out j o_,below_drewN HB2.out nq⟩
               case measure=>
                have hj1:=J1.out;simp[intOf];omega
        . have t44:((s[j1].toNat:Int)==44)=false:=by rw[C1.out];simp;omega
          have H44:Hid (c1≠44):=h44;clear h44;cases dg
          all_goals
           have HBK:Hid (BkT s i=false):=by
            unfold Hid BkT;have hX:=H44.out;have hY:=H45.out;rw[E1.out,show(c1==45)=false by simpa using hY,show(c1==44)=false by simpa using hX];simp
           go_wp2_with fail;go_quiet (fail);go_wp2_with fail;have HB2:Hid (Below w.heap.size w (wr.drewN nq)):=below_drewN HB.out nq;generalize wr.drewN nq=w2 at*;go_wp2_with (go_at_call 110;refine(HC _).mono ?_;rintro e w' ⟨rfl,rfl⟩);go_quiet (fail);go_wp2_with fail;go_roundw
           case rel=>exact⟨i+1,o_,by rw[J1.out],fun j hj=>by
            by_cases e:j=i
            . subst e;exact HBK.out
            . exact HJ.out j o_,below_drewN HB2.out nq⟩
           case measure=>
            have hj1:=J1.out;simp[intOf];omega
    . have h2':¬j2<s.size:=by rw[<-J2.out];omega
      cases dg
      all_goals
       have HBK:Hid (BkT s i=false):=by
        unfold Hid BkT;simp[h2]
       go_wp2_with fail;go_quiet (fail);go_wp2_with fail;have HB2:Hid (Below w.heap.size w (wr.drewN nq)):=below_drewN HB.out nq;generalize wr.drewN nq=w2 at*;go_wp2_with (go_at_call 110;refine(HC _).mono ?_;rintro e w' ⟨rfl,rfl⟩);go_quiet (fail);go_wp2_with fail;go_roundw
       case rel=>exact⟨i+1,o_,by rw[J1.out],fun j hj=>by
        by_cases e:j=i
        . subst e;exact HBK.out
        . exact HJ.out j o_,below_drewN HB2.out nq⟩
       case measure=>
        have hj1:=J1.out;simp[intOf];omega
  . obtain rfl:i=s.size:=o_;have HALL:Hid (∀j,BkT s j=false):=fun j=>by
     by_cases h:j<s.size
     . exact HJ.out j h
     . unfold BkT;have:¬j+2<s.size:=o_;simp[this]
    clear HJ;go_wp2_with fail;go_ret;exact⟨_,rfl,.inr ⟨rfl,HALL.out⟩,HB.out⟩
def txt (s:ByteArray):List Nat:=s.data.toList.map UInt8.toNat
def sub (s:ByteArray)(a b:Nat):List Nat:=((txt s).take b).drop a
theorem bc_ (s:ByteArray):(txt s).length=s.size:=by unfold txt;simp
theorem j5_ {s:ByteArray}{a:Nat}(h:a<s.size):(txt s)[a]? =some (ad_ s a):=by
 have h':a<s.data.toList.length:=by rw[Array.length_toList];exact h
 unfold txt ad_;rw[List.getElem?_map,List.getD_eq_getElem?_getD,List.getElem?_eq_getElem h'];rfl
theorem gv_ {s:ByteArray}{a b c:Nat}(h1:a<=b)(h2:b<=c):sub s a b++sub s b c=sub s a c:=by
 unfold sub;apply List.ext_getElem?;intro i;by_cases hb:b<=s.size
 . have hl:(((txt s).take b).drop a).length=b - a:=by rw[List.length_drop,List.length_take,bc_];omega
   by_cases hi:i<b - a
   . rw[List.getElem?_append_left o_,List.getElem?_drop,List.getElem?_drop,List.getElem?_take_of_lt o_,List.getElem?_take_of_lt o_]
   . rw[List.getElem?_append_right o_,hl,List.getElem?_drop,List.getElem?_drop,show b+(i - (b - a))=a+i by omega]
 . have e:(txt s).take b=txt s:=List.take_of_length_le (by rw[bc_];omega);have e':(txt s).take c=txt s:=List.take_of_length_le (by rw[bc_];omega);have e2:(txt s).drop b=[]:=List.drop_of_length_le (by rw[bc_];omega);rw[e,e',e2,List.append_nil]
theorem mr_ (s:ByteArray)(a:Nat):sub s a a=[]:=by unfold sub;exact List.drop_of_length_le (by rw[List.length_take];omega)
theorem gd_ {s:ByteArray}{a:Nat}(h:a<s.size):sub s a (a+1)=[ad_ s a]:=by
 unfold sub;rw[List.take_succ_eq_append_getElem (by rw[bc_];exact h),List.drop_append_of_le_length (by rw[List.length_take,bc_];omega),List.drop_of_length_le (by rw[List.length_take];omega),List.nil_append];have:=j5_ h;rw[List.getElem?_eq_getElem (by rw[bc_];exact h)]at this;simpa using this
theorem d0_ {s:ByteArray}{a b:Nat}(h:a<b)(hb:b<=s.size):sub s a b=ad_ s a::sub s (a+1) b:=by
 rw[<-gv_ (show a<=a+1 by omega) (show a+1<=b by omega),gd_ o_];rfl
theorem kq_ {s:ByteArray}{a b:Nat}(h:a<=b)(hb:b<s.size):sub s a (b+1)=sub s a b++ [ad_ s b]:=by
 rw[<-gv_ h (show b<=b+1 by omega),gd_ hb]
theorem adx_ (s:ByteArray):sub s 0 s.size=txt s:=by unfold sub;rw[List.take_of_length_le (by rw[bc_];omega)];rfl
inductive Mk where
 |none:Mk
 |star:Mk
 |plus:Mk
 |opt:Mk
 |just (n:Nat):Mk
 |more (n:Nat):Mk
 |span (n m:Nat):Mk
def Mk.text:Mk->List Nat
 | .none=> []
 | .star=> [42]
 | .plus=> [43]
 | .opt=> [63]
 | .just n=> [123,48+n,125]
 | .more n=> [123,48+n,44,125]
 | .span n m=> [123,48+n,44,48+m,125]
def Mk.app:Mk->Pat->Pat
 | .none=>fun p=>p
 | .star=>fun p=> .rep p 0 1 true
 | .plus=>fun p=> .rep p 1 2 true
 | .opt=>fun p=> .rep p 0 1 false
 | .just n=>fun p=> .rep p n n false
 | .more n=>fun p=> .rep p n (n+1) true
 | .span n m=>fun p=> .rep p n m false
def Mk.ok:Mk->Prop
 | .just n=>n<=9
 | .more n=>n<=9
 | .span n m=>n<=m/\m<=9
 |_=>True
structure Prt where
 f:Nat
 g:Nat
 dash:Bool
def Prt.ok (x:Prt):Prop:=x.f<8/\x.g<8/\(x.dash=false->x.g=x.f)/\x.f<=x.g
def Prt.text (x:Prt):List Nat:=if x.dash then [97+x.f,45,97+x.g]else [97+x.f]
def setN (N:Nat->Bool)(l:List Prt):Nat->Bool:=l.foldl (fun N x=>dz_ N x.f x.g) N
def eh_ (l:List Nat)(p:Pat):Prop:=
 (∃c,c<8/\l=[97+c]/\p= .one (fun x=>decide (x=c)))\/(l=[46]/\p= .one (fun _=>true))\/
 (∃ps:List Prt,ps≠ []/\(∀x∈ps,x.ok)/\((l=91::ps.flatMap Prt.text++ [93]/\p= .one (setN (fun _=>false) ps))\/(l=91::94::ps.flatMap Prt.text++ [93]/\p= .one (fun c=> !setN (fun _=>false) ps c))))
structure Itm where
 la:List Nat
 q:Pat
 m:Mk
def Itm.text (i:Itm):List Nat:=i.la++i.m.text
def Itm.pat (i:Itm):Pat:=i.m.app i.q
def br_ (p:Pat)(l:List Itm):Pat:=l.foldl (fun p i=> .chain p i.pat) p
def SeqT (A:List Nat->Pat->Prop)(l:List Nat)(p:Pat):Prop:=∃its:List Itm,(∀i∈its,A i.la i.q/\i.m.ok)/\l=its.flatMap Itm.text/\p=br_ .none its
def altL (p:Pat)(l:List (List Nat×Pat)):Pat:=l.foldl (fun p y=> .alt p y.2) p
def dw_ (l:List (List Nat×Pat)):List Nat:=l.flatMap fun y=>124::y.1
def PatT (A:List Nat->Pat->Prop)(l:List Nat)(p:Pat):Prop:=∃(x:List Nat×Pat) (xs:List (List Nat×Pat)),SeqT A x.1 x.2/\(∀y∈xs,SeqT A y.1 y.2)/\l=x.1++dw_ xs/\p=altL x.2 xs
def dl_:Nat->List Nat->Pat->Prop
 |0=>eh_
 |k+1=>fun l p=>eh_ l p\/∃l',l=40::l'++ [41]/\PatT (dl_ k) l' p
section
variable {s:ByteArray}
theorem in_ {pl f g:Nat}{t:Sp}(h:(bk_ pl f g t).bk=false):t.bk=false/\f<=g:=by
 unfold bk_ at h;by_cases hlt:g<f
 . rw[if_pos hlt]at h;simp[Sp.tell]at h
 . rw[if_neg hlt]at h;exact⟨h,o_⟩
theorem kr_ {a:Nat}(h:bs_ s a=true):ad_ s a=97+(ad_ s a - 97):=by have:=es_.1 h;omega
theorem i9_ {a:Nat}(h:bv_ s a=true):ad_ s a=48+(ad_ s a - 48):=by have:=h6_.1 h;omega
theorem p0_ {t t':Sp}{f g:Nat}(h:dv_ s t= .ok (f,g) t')(hfg:f<=g):t'.bk=t.bk/\∃x:Prt,x.ok/\x.f=f/\x.g=g/\sub s t.a t'.a=x.text:=by
 unfold dv_ at h;split at h
 . rename_i h1;have n1:=fx_ h1;have l1:=fp_ h1;split at h
   . rename_i h2;obtain⟨b2,l2⟩:=ca_ h2;split at h
     . rename_i h3;have n3:=fx_ h3;have l3:=fp_ h3;simp only[Res.ok.injEq,Prod.mk.injEq]at h;obtain⟨⟨rfl,rfl⟩,rfl⟩:=h;refine⟨rfl,⟨_,_,true⟩,⟨n1.1,n3.1,fun h=>by simp at h,hfg⟩,rfl,rfl, ?_⟩;simp only[go_a,Prt.text,if_true];rw[d0_ o_ o_,d0_ o_ o_,gd_ l3,b2,<-kr_ h1,<-kr_ h3]
     . simp at h
   . simp only[Res.ok.injEq,Prod.mk.injEq]at h;obtain⟨⟨rfl,rfl⟩,rfl⟩:=h;refine⟨rfl,⟨_,_,false⟩,⟨n1.1,n1.1,fun _=>rfl,hfg⟩,rfl,rfl, ?_⟩;simp only[go_a,Prt.text,Bool.false_eq_true,if_false];rw[gd_ l1,<-kr_ h1]
 . simp at h
theorem ly_ {n:Nat}{N N':Nat->Bool}{t t':Sp}(h:cx_ s n N t= .ok N' t')(hb:t'.bk=false):t.bk=false/\∃ps:List Prt,ps≠ []/\(∀x∈ps,x.ok)/\sub s t.a t'.a=ps.flatMap Prt.text++ [93]/\N'=setN N ps:=by
 induction n generalizing N t with
 |zero=>simp[cx_]at h
 |succ n ih=>
  simp only[cx_]at h;cases hp:dv_ s t with
  |no t1=>rw[hp]at h;simp at h
  |ok x t1=>
   obtain⟨f,g⟩:=x;rw[hp]at h;have hok:=ij_ hp;simp only at h;split at h
   . rename_i h2;have hfg:f<=g:=by
      have h':=h;simp only[Res.ok.injEq]at h';rw[<-h'.2]at hb;exact(in_ (show(bk_ t.a f g t1).bk=false from hb)).2
     obtain⟨hbk,x,hx,rfl,rfl,ht⟩:=p0_ hp hfg;obtain⟨b2,l2⟩:=ca_ h2;simp only[Res.ok.injEq]at h;obtain⟨rfl,rfl⟩:=h;have hb':(bk_ t.a x.f x.g t1).bk=false:=hb;refine⟨by rw[<-hbk];exact(in_ hb').1,[x],i_,by simpa using hx, ?_,rfl⟩;simp only[go_a,spanF_a];rw[kq_ o_ l2,ht,b2];simp
   . obtain⟨h3,ps,h4,h5,h6,h7⟩:=ih h;obtain⟨hbk,x,hx,rfl,rfl,ht⟩:=p0_ hp (in_ h3).2;refine⟨by rw[<-hbk];exact(in_ h3).1,x::ps,i_, ?_, ?_, ?_⟩
     . intro y hy;rcases List.mem_cons.1 hy with rfl|hy
       . exact hx
       . exact h5 y hy
     . simp only[spanF_a]at h6;have hgo:=kk_ h;simp only[spanF_a]at hgo;rw[<-gv_ (show t.a<=t1.a by omega) (show t1.a<=t'.a by omega),ht,h6];simp
     . rw[h7];rfl
theorem aa3_ {N:Nat->Bool}{t t':Sp}(h:setF s t= .ok N t')(hb:t'.bk=false)(hh:hit s (t.a - 1) 91=true)(ha:1<=t.a):t.bk=false/\eh_ (sub s (t.a - 1) t'.a) (.one N):=by
 have hok:=mp_ h;obtain⟨b0,l0⟩:=ca_ hh;unfold setF at h;have e0:sub s (t.a - 1) t'.a=91::sub s t.a t'.a:=by
  rw[d0_ o_ o_,b0,show t.a - 1+1=t.a by omega]
 split at h
 . rename_i h1;obtain⟨b1,l1⟩:=ca_ h1;cases hp:cx_ s (s.size+1) (fun _=>false) t.go with
   |no t1=>rw[hp]at h;simp at h
   |ok x t1=>
    rw[hp]at h;simp only[Res.ok.injEq]at h;obtain⟨rfl,rfl⟩:=h;obtain⟨h3,ps,h4,h5,h6,h7⟩:=ly_ hp hb;refine⟨h3,.inr (.inr ⟨ps,h4,h5,.inr ⟨?_,by rw[h7]⟩⟩)⟩;rw[e0,d0_ o_ o_,b1];simp only[go_a]at h6;rw[h6];rfl
 . obtain⟨h3,ps,h4,h5,h6,h7⟩:=ly_ h hb;refine⟨h3,.inr (.inr ⟨ps,h4,h5,.inl ⟨?_,by rw[h7]⟩⟩)⟩;rw[e0,h6];rfl
def ms_ (s:ByteArray)(A:List Nat->Pat->Prop)(atom:Sp->Res Pat):Prop:=∀t p t',atom t= .ok p t'->t'.bk=false->t.bk=false/\A (sub s t.a t'.a) p
theorem m4_:ms_ s eh_ (c3_ s):=by
 intro t p t' h hb;unfold c3_ at h;split at h
 . rename_i h1;cases hp:setF s t.go with
   |no t1=>rw[hp]at h;simp at h
   |ok x t1=>
    rw[hp]at h;simp only[Res.ok.injEq]at h;obtain⟨rfl,rfl⟩:=h;exact aa3_ hp hb (by simpa using h1) i_
 . split at h
   . rename_i h2;obtain⟨b2,l2⟩:=ca_ h2;simp only[Res.ok.injEq]at h;obtain⟨rfl,rfl⟩:=h;exact⟨hb,.inr (.inl ⟨by rw[go_a,gd_ l2,b2],rfl⟩)⟩
   . split at h
     . rename_i h2;have l2:=fp_ h2;simp only[Res.ok.injEq]at h;obtain⟨rfl,rfl⟩:=h;exact⟨hb,.inl ⟨ad_ s t.a - 97,(fx_ h2).1,by rw[go_a,gd_ l2,<-kr_ h2],rfl⟩⟩
     . simp at h
theorem v7_ {lo co:Nat}{en:Bool}{t t':Sp}(h:b9_ s t= .ok (lo,co,en) t')(hb:t'.bk=false):t.bk=false/\∃m:Mk,m.ok/\(∀p,m.app p= .rep p lo co en)/\123::sub s t.a t'.a=m.text:=by
 unfold b9_ at h;split at h
 . rename_i h1;have n1:=fy_ h1;have l1:=kj_ h1;split at h
   . rename_i h2;obtain⟨b2,l2⟩:=ca_ h2;simp only[Res.ok.injEq,Prod.mk.injEq]at h;obtain⟨⟨rfl,rfl,rfl⟩,rfl⟩:=h;refine⟨hb,.just (ad_ s t.a - 48),by show ad_ s t.a - 48<=9;omega,fun _=>rfl, ?_⟩;simp only[go_a,Mk.text];rw[d0_ o_ o_,gd_ l2,b2,<-i9_ h1]
   . split at h
     . rename_i h3;obtain⟨b3,l3⟩:=ca_ h3;split at h
       . rename_i h2;obtain⟨b2,l2⟩:=ca_ h2;simp only[Res.ok.injEq,Prod.mk.injEq]at h;obtain⟨⟨rfl,rfl,rfl⟩,rfl⟩:=h;refine⟨hb,.more (ad_ s t.a - 48),by show ad_ s t.a - 48<=9;omega,fun _=>rfl, ?_⟩;simp only[go_a,Mk.text];rw[d0_ o_ o_,d0_ o_ o_,gd_ l2,b2,b3,<-i9_ h1]
       . split at h
         . rename_i h4;have n4:=fy_ h4;have l4:=kj_ h4;split at h
           . rename_i h5;obtain⟨b5,l5⟩:=ca_ h5;simp only[Res.ok.injEq,Prod.mk.injEq]at h;obtain⟨⟨rfl,rfl,rfl⟩,rfl⟩:=h;have hb':(bk_ t.a (ad_ s t.a - 48) (ad_ s (t.a+1+1)- 48) t.go.go.go).bk=false:=hb;obtain⟨hb1,hle⟩:=in_ hb';refine⟨hb1,.span (ad_ s t.a - 48) (ad_ s (t.a+1+1)- 48),⟨hle,o_⟩,fun _=>rfl, ?_⟩;simp only[go_a,spanF_a,Mk.text];rw[d0_ o_ o_,d0_ o_ o_,d0_ o_ o_,gd_ l5,b5,b3,<-i9_ h1,<-i9_ h4]
           . simp at h
         . simp at h
     . simp at h
 . simp at h
theorem x5_ {A:List Nat->Pat->Prop}{atom:Sp->Res Pat}{B:Nat}(ha:ms_ s A atom)(hg:Goes s B atom){t t':Sp}{p:Pat}(h:ep_ s atom t= .ok p t')(hb:t'.bk=false):t.bk=false/\∃i:Itm,A i.la i.q/\i.m.ok/\i.pat=p/\sub s t.a t'.a=i.text:=by
 unfold ep_ at h;cases hp:atom t with
 |no t1=>rw[hp]at h;simp at h
 |ok q t1=>
  rw[hp]at h;obtain⟨g1,g2,_⟩:=hg _ _ _ hp;simp only at h;have one:∀(b:Nat) (m:Mk),hit s t1.a b=true->m.text=[b]->m.ok->t'=t1.go->p=m.app q->t.bk=false/\∃i:Itm,A i.la i.q/\i.m.ok/\i.pat=p/\sub s t.a t'.a=i.text:=by
   intro b m hh ht hm e1 e2;obtain⟨b2,l2⟩:=ca_ hh;subst e1;obtain⟨h3,h4⟩:=ha _ _ _ hp hb;refine⟨h3,⟨sub s t.a t1.a,q,m⟩,h4,hm,e2.symm, ?_⟩;unfold Itm.text;rw[go_a,kq_ o_ l2,b2,ht]
  split at h
  . rename_i h1;simp only[Res.ok.injEq]at h;exact one 42 .star h1 rfl trivial h.2.symm h.1.symm
  . split at h
    . rename_i h1;simp only[Res.ok.injEq]at h;exact one 43 .plus h1 rfl trivial h.2.symm h.1.symm
    . split at h
      . rename_i h1;simp only[Res.ok.injEq]at h;exact one 63 .opt h1 rfl trivial h.2.symm h.1.symm
      . split at h
        . rename_i h1;obtain⟨b1,l1⟩:=ca_ h1;cases hc:b9_ s t1.go with
          |no t2=>rw[hc]at h;simp at h
          |ok x t2=>
           obtain⟨lo,co,en⟩:=x;rw[hc]at h;simp only[Res.ok.injEq]at h;obtain⟨rfl,rfl⟩:=h;have hgo:=lq_ hc;simp only[go_a]at hgo;obtain⟨h3,m,h4,h5,h6⟩:=v7_ hc hb;obtain⟨h7,h8⟩:=ha _ _ _ hp h3;refine⟨h7,⟨sub s t.a t1.a,q,m⟩,h8,h4,h5 q, ?_⟩;unfold Itm.text;simp only[go_a]at h6;rw[<-h6,<-gv_ (show t.a<=t1.a by omega) (show t1.a<=t2.a by omega),d0_ (show t1.a<t2.a by omega) o_,b1]
        . simp only[Res.ok.injEq]at h;obtain⟨rfl,rfl⟩:=h;obtain⟨h7,h8⟩:=ha _ _ _ hp hb;exact⟨h7,⟨sub s t.a t1.a,q,.none⟩,h8,trivial,rfl,by unfold Itm.text;simp[Mk.text]⟩
theorem rx_ {A:List Nat->Pat->Prop}{atom:Sp->Res Pat}{B:Nat}(ha:ms_ s A atom)(hg:Goes s B atom){n:Nat}{t t':Sp}{p q:Pat}(hz:t.a<=s.size)(h:seqF s atom n p t= .ok q t')(hb:t'.bk=false):t.bk=false/\∃its:List Itm,(∀i∈its,A i.la i.q/\i.m.ok)/\sub s t.a t'.a=its.flatMap Itm.text/\q=br_ p its:=by
 induction n generalizing p t with
 |zero=>simp[seqF]at h
 |succ n ih=>
  simp only[seqF]at h;split at h
  . simp only[Res.ok.injEq]at h;obtain⟨rfl,rfl⟩:=h;exact⟨hb,[],i_,by rw[mr_];rfl,rfl⟩
  . cases hp:ep_ s atom t with
    |no t1=>rw[hp]at h;simp at h
    |ok q1 t1=>
     rw[hp]at h;obtain⟨g1,g2,_⟩:=h4_ hg _ _ _ hp;obtain⟨h1,its,h2,h3,h4⟩:=ih o_ h;have hgo:=fz_ hg o_ h;obtain⟨h5,i,h6,h7,h8,h9⟩:=x5_ ha hg hp h1;refine⟨h5,i::its, ?_, ?_, ?_⟩
     . intro y hy;rcases List.mem_cons.1 hy with rfl|hy
       . exact⟨h6,h7⟩
       . exact h2 y hy
     . rw[<-gv_ (show t.a<=t1.a by omega) (show t1.a<=t'.a by omega),h9,h3];rfl
     . rw[h4,<-h8];rfl
theorem ry_ {A:List Nat->Pat->Prop}{atom:Sp->Res Pat}{B:Nat}(ha:ms_ s A atom)(hg:Goes s B atom){n:Nat}{t t':Sp}{p q:Pat}(hz:t.a<=s.size)(h:d7_ s atom n p t= .ok q t')(hb:t'.bk=false):t.bk=false/\∃xs:List (List Nat×Pat),(∀y∈xs,SeqT A y.1 y.2)/\sub s t.a t'.a=dw_ xs/\q=altL p xs:=by
 induction n generalizing p t with
 |zero=>simp[d7_]at h
 |succ n ih=>
  simp only[d7_]at h;split at h
  . rename_i hh;obtain⟨b1,l1⟩:=ca_ hh;cases hp:seqF s atom (s.size+1) .none t.go with
    |no t1=>rw[hp]at h;simp at h
    |ok q1 t1=>
     rw[hp]at h;obtain⟨g1,g2,_⟩:=fz_ hg z_ hp;simp only[go_a]at g1;obtain⟨h1,xs,h2,h3,h4⟩:=ih o_ h;have hgo:=im_ hg o_ h;obtain⟨h5,its,h6,h7,h8⟩:=rx_ ha hg z_ hp h1;refine⟨h5,(sub s t.go.a t1.a,q1)::xs, ?_, ?_, ?_⟩
     . intro y hy;rcases List.mem_cons.1 hy with rfl|hy
       . exact⟨its,h6,h7,h8⟩
       . exact h2 y hy
     . rw[<-gv_ (show t.a<=t1.a by omega) (show t1.a<=t'.a by omega),d0_ (show t.a<t1.a by omega) o_,b1,h3];rfl
     . rw[h4];rfl
  . simp only[Res.ok.injEq]at h;obtain⟨rfl,rfl⟩:=h;exact⟨hb,[],i_,by rw[mr_];rfl,rfl⟩
theorem rz_ {A:List Nat->Pat->Prop}{atom:Sp->Res Pat}{B:Nat}(ha:ms_ s A atom)(hg:Goes s B atom){t t':Sp}{q:Pat}(hz:t.a<=s.size)(h:patF s atom t= .ok q t')(hb:t'.bk=false):t.bk=false/\PatT A (sub s t.a t'.a) q:=by
 unfold patF at h;cases hp:seqF s atom (s.size+1) .none t with
 |no t1=>rw[hp]at h;simp at h
 |ok q1 t1=>
  rw[hp]at h;obtain⟨g1,g2,_⟩:=fz_ hg hz hp;have hgo:=im_ hg o_ h;obtain⟨h1,xs,h2,h3,h4⟩:=ry_ ha hg o_ h hb;obtain⟨h5,its,h6,h7,h8⟩:=rx_ ha hg hz hp h1;exact⟨h5,(sub s t.a t1.a,q1),xs,⟨its,h6,h7,h8⟩,h2,by rw[<-gv_ (show t.a<=t1.a by omega) (show t1.a<=t'.a by omega),h3],h4⟩
theorem v8_ (s:ByteArray)(k:Nat):ms_ s (dl_ k) (by_ s k):=by
 induction k with
 |zero=>exact m4_
 |succ k ih=>
  intro t p t' h hb;simp only[by_]at h;split at h
  . rename_i hh;obtain⟨b1,l1⟩:=ca_ hh;cases hp:patF s (by_ s k) t.go with
    |no t1=>rw[hp]at h;simp at h
    |ok q1 t1=>
     rw[hp]at h;obtain⟨g1,g2,_⟩:=lr_ (do_ k) z_ hp;simp only[go_a]at g1;simp only at h;split at h
     . rename_i h2;obtain⟨b2,l2⟩:=ca_ h2;simp only[Res.ok.injEq]at h;obtain⟨rfl,rfl⟩:=h;obtain⟨h3,h4⟩:=rz_ ih (do_ k) z_ hp hb;refine⟨h3,.inr ⟨_, ?_,h4⟩⟩;rw[go_a,kq_ o_ l2,d0_ o_ o_,b1,b2];rfl
     . simp at h
  . obtain⟨h1,h2⟩:=m4_ _ _ _ h hb;exact⟨h1,.inl h2⟩
theorem ks_ {p:Pat}{t:Sp}(h:co_ s= .ok p t)(he:t.a=s.size)(hb:t.bk=false):PatT (dl_ 6) (txt s) p:=by
 have:=(rz_ (v8_ s 6) (do_ 6) i_ h hb).2;rw[he,adx_]at this;exact this
end
def bz_:List Nat->Int->List Nat->List (List Nat)
 | [],_,cur=> [cur]
 |c::l,n,cur=>if c=40 then bz_ l (n+1) (cur++ [c])else if c=41 then bz_ l (n - 1) (cur++ [c])else if c=124/\n=0 then cur::bz_ l n []else bz_ l n (cur++ [c])
def c1_:List Nat->Int->Nat->Nat
 | [],_,k=>k
 |c::l,n,k=>if c=40 then c1_ l (n+1) (k+1)else if c=41 then(if n - 1=0 then k else c1_ l (n - 1) (k+1))else c1_ l n (k+1)
def Flat (m:Int)(l:List Nat):Prop:=∀n cur rest,m<=n->bz_ (l++rest) n cur=bz_ rest n (cur++l)
def Skip (l:List Nat):Prop:=∀n k rest,1<=n->c1_ (l++rest) n k=c1_ rest n (k+l.length)
theorem Flat.nil (m:Int):Flat m []:=fun n cur rest _=>i_
theorem Flat.app {m:Int}{l l':List Nat}(h:Flat m l)(h':Flat m l'):Flat m (l++l'):=fun n cur rest hn=>by rw[List.append_assoc,h n cur _ hn,h' n _ rest hn,List.append_assoc]
theorem Flat.one {c:Nat}(m:Int)(h1:c≠40)(h2:c≠41)(h3:c≠124):Flat m [c]:=fun n cur rest _=>by
 simp only[List.cons_append,List.nil_append,bz_];rw[if_neg h1,if_neg h2,if_neg (fun h=>h3 h.1)]
theorem Flat.bar:Flat 1 [124]:=fun n cur rest hn=>by
 simp only[List.cons_append,List.nil_append,bz_];rw[if_neg o_,if_neg o_,if_neg (fun h=>o_)]
theorem Flat.mono {m m':Int}{l:List Nat}(h:Flat m l)(hm:m<=m'):Flat m' l:=fun n cur rest hn=>h n cur rest o_
theorem Flat.par {l:List Nat}(h:Flat 1 l):Flat 0 (40::l++ [41]):=fun n cur rest hn=>by
 rw[show 40::l++ [41]++rest=40::(l++(41::rest))by simp];rw[show bz_ (40::(l++(41::rest))) n cur=bz_ (l++(41::rest)) (n+1) (cur++ [40])by simp[bz_]];rw[h (n+1) _ _ o_];rw[show bz_ (41::rest) (n+1) (cur++ [40]++l)=bz_ rest (n+1 - 1) (cur++ [40]++l++ [41])by simp[bz_]];rw[show n+1 - 1=n by omega];congr 1;simp
theorem Skip.nil:Skip []:=fun n k rest _=>i_
theorem Skip.app {l l':List Nat}(h:Skip l)(h':Skip l'):Skip (l++l'):=fun n k rest hn=>by rw[List.append_assoc,h n k _ hn,h' n _ rest hn,List.length_append,Nat.add_assoc]
theorem Skip.one {c:Nat}(h1:c≠40)(h2:c≠41):Skip [c]:=fun n k rest _=>by
 simp only[List.cons_append,List.nil_append,c1_];rw[if_neg h1,if_neg h2];simp
theorem Skip.par {l:List Nat}(h:Skip l):Skip (40::l++ [41]):=fun n k rest hn=>by
 rw[show 40::l++ [41]++rest=40::(l++(41::rest))by simp];rw[show c1_ (40::(l++(41::rest))) n k=c1_ (l++(41::rest)) (n+1) (k+1)by simp[c1_]];rw[h (n+1) _ _ o_];rw[show c1_ (41::rest) (n+1) (k+1+l.length)=c1_ rest (n+1 - 1) (k+1+l.length+1)by
  simp only[c1_];rw[if_neg o_,if_pos trivial,if_neg o_]]
 rw[show n+1 - 1=n by omega];congr 1;simp;omega
theorem kt_ {l:List Nat}(m:Int)(h:∀c∈l,c≠40/\c≠41/\c≠124):Flat m l/\Skip l:=by
 induction l with
 |nil=>exact⟨Flat.nil m,Skip.nil⟩
 |cons c l ih=>
  obtain⟨h1,h2,h3⟩:=h c i_;obtain⟨i1,i2⟩:=ih (fun x hx=>h x (by simp[hx]));exact⟨(Flat.one m h1 h2 h3).app i1,(Skip.one h1 h2).app i2⟩
theorem Mk.plain {m:Mk}(h:m.ok):∀c∈m.text,c≠40/\c≠41/\c≠124:=by
 intro c hc;cases m<;>simp[Mk.text]at hc<;>simp[Mk.ok]at h<;>omega
theorem Prt.plain {x:Prt}(h:x.ok):∀c∈x.text,(97<=c/\c<=104)\/c=45:=by
 intro c hc;unfold Prt.text at hc;obtain⟨h1,h2,_,_⟩:=h;cases hd:x.dash<;>rw[hd]at hc<;>simp at hc<;>omega
theorem h7_ {ps:List Prt}(h:∀x∈ps,x.ok):∀c∈ps.flatMap Prt.text,(97<=c/\c<=104)\/c=45:=by
 intro c hc;obtain⟨x,hx,hc⟩:=List.mem_flatMap.1 hc;exact Prt.plain (h x hx) c hc
theorem eh_.plain {l:List Nat}{p:Pat}(h:eh_ l p):∀c∈l,c≠40/\c≠41/\c≠124:=by
 intro x hx;rcases h with ⟨c,hc,rfl,_⟩|⟨rfl,_⟩|⟨ps,_,h1,⟨rfl,_⟩|⟨rfl,_⟩⟩
 . simp at hx;omega
 . simp at hx;omega
 . simp only[List.cons_append,List.mem_cons,List.mem_append,List.not_mem_nil,or_false]at hx;rcases hx with hx|hx|hx
   . omega
   . have:=h7_ h1 x hx;omega
   . omega
 . simp only[List.cons_append,List.mem_cons,List.mem_append,List.not_mem_nil,or_false]at hx;rcases hx with hx|hx|hx|hx
   . omega
   . omega
   . have:=h7_ h1 x hx;omega
   . omega
theorem lz_ {α:Type}{m:Int}{f:α->List Nat}{l:List α}(h:∀x∈l,Flat m (f x)/\Skip (f x)):Flat m (l.flatMap f)/\Skip (l.flatMap f):=by
 induction l with
 |nil=>exact⟨Flat.nil m,Skip.nil⟩
 |cons x l ih=>
  obtain⟨h1,h2⟩:=h x i_;obtain⟨i1,i2⟩:=ih (fun y hy=>h y (by simp[hy]));rw[List.flatMap_cons];exact⟨h1.app i1,h2.app i2⟩
def oa_ (A:List Nat->Pat->Prop):Prop:=∀l p,A l p->Flat 0 l/\Skip l
theorem SeqT.flat {A:List Nat->Pat->Prop}(hA:oa_ A){l:List Nat}{p:Pat}(h:SeqT A l p):Flat 0 l/\Skip l:=by
 obtain⟨its,h1,rfl,_⟩:=h;refine lz_ (fun i hi=> ?_);obtain⟨h2,h3⟩:=h1 i hi;obtain⟨f1,f2⟩:=hA _ _ h2;obtain⟨g1,g2⟩:=kt_ 0 (Mk.plain h3);exact⟨f1.app g1,f2.app g2⟩
theorem PatT.flat {A:List Nat->Pat->Prop}(hA:oa_ A){l:List Nat}{p:Pat}(h:PatT A l p):Flat 1 l/\Skip l:=by
 obtain⟨x,xs,h1,h2,rfl,_⟩:=h;obtain⟨f1,f2⟩:=h1.flat hA;obtain⟨g1,g2⟩:=lz_ (m:=1) (f:=fun y:List Nat×Pat=>124::y.1) (l:=xs) (fun y hy=>by
  obtain⟨k1,k2⟩:=(h2 y hy).flat hA;exact⟨Flat.bar.app (k1.mono o_),(Skip.one o_ o_).app k2⟩)
 exact⟨(f1.mono o_).app g1,f2.app g2⟩
theorem ob_ (k:Nat):oa_ (dl_ k):=by
 induction k with
 |zero=>intro l p h;exact kt_ 0 (eh_.plain h)
 |succ k ih=>
  intro l p h;rcases h with h|⟨l',rfl,h⟩
  . exact kt_ 0 (eh_.plain h)
  . obtain⟨h1,h2⟩:=h.flat ih;exact⟨h1.par,h2.par⟩
theorem x6_ {A:List Nat->Pat->Prop}(hA:oa_ A){x:List Nat×Pat}{xs:List (List Nat×Pat)}(h1:SeqT A x.1 x.2)(h2:∀y∈xs,SeqT A y.1 y.2):bz_ (x.1++dw_ xs) 0 []=x.1::xs.map (·.1):=by
 have key:∀(xs:List (List Nat×Pat)) (cur:List Nat),(∀y∈xs,SeqT A y.1 y.2)->bz_ (dw_ xs) 0 cur=cur::xs.map (·.1):=by
  intro xs;induction xs with
  |nil=>intro cur _;rfl
  |cons y xs ih=>
   intro cur h;have hy:=(h y i_).flat hA;show bz_ (124::y.1++dw_ xs) 0 cur=_
   rw[show bz_ (124::y.1++dw_ xs) 0 cur=cur::bz_ (y.1++dw_ xs) 0 []by simp[bz_]];rw[hy.1 0 [] _ o_,ih _ (fun z hz=>h z (by simp[hz]))];simp
 rw[(h1.flat hA).1 0 [] _ o_,key xs _ h2];simp
theorem aa4_ {A:List Nat->Pat->Prop}(hA:oa_ A){l:List Nat}{p:Pat}(h:PatT A l p)(k:Nat)(rest:List Nat):c1_ (40::l++ [41]++rest) 0 k=k+1+l.length:=by
 rw[show 40::l++ [41]++rest=40::(l++(41::rest))by simp];rw[show c1_ (40::(l++(41::rest))) 0 k=c1_ (l++(41::rest)) 1 (k+1)by simp[c1_]];rw[(h.flat hA).2 1 _ _ o_];simp[c1_]
theorem dl_.head {k:Nat}{l:List Nat}{p:Pat}(h:dl_ k l p):∃c l',l=c::l'/\c≠42/\c≠43/\c≠63/\c≠123:=by
 have h0:∀ {l:List Nat} {p:Pat},eh_ l p->∃c l',l=c::l'/\c≠42/\c≠43/\c≠63/\c≠123:=by
  intro l p h;rcases h with ⟨c,hc,rfl,_⟩|⟨rfl,_⟩|⟨ps,_,h1,⟨rfl,_⟩|⟨rfl,_⟩⟩
  . exact⟨_,_,rfl,o_,o_,o_,o_⟩
  . exact⟨_,_,rfl,o_,o_,o_,o_⟩
  . exact⟨_,_,rfl,o_,o_,o_,o_⟩
  . exact⟨_,_,rfl,o_,o_,o_,o_⟩
 cases k with
 |zero=>exact h0 h
 |succ k=>
  rcases h with h|⟨l',rfl,_⟩
  . exact h0 h
  . exact⟨_,_,rfl,o_,o_,o_,o_⟩
def Mk.lo:Mk->Nat
 | .none=>1
 | .star=>0
 | .plus=>1
 | .opt=>0
 | .just n=>n
 | .more n=>n
 | .span n _=>n
def Mk.hi:Mk->Int
 | .none=>1
 | .star=> -1
 | .plus=> -1
 | .opt=>1
 | .just n=>n
 | .more _=> -1
 | .span _ m=>m
def Ex.repd (x:Ex)(lo:Nat)(hi:Int):Ex:=if hi<0 then x.must x.star' lo else x.must (x.opts (hi - lo).toNat) lo
theorem ady_ {l:List Nat->Prop}(x:List Nat):Pow l 1 x↔l x:=go_ x
theorem ja_ {x:Ex}{lo:Nat}:x.repd lo (-1)=x.must x.star' lo:=if_pos d_
theorem hq_ {x:Ex}{lo hi:Nat}(h:lo<=hi):x.repd lo hi=x.must (x.opts (hi - lo)) lo:=by
 unfold Ex.repd;rw[if_neg o_,show((hi:Int)- (lo:Int)).toNat=hi - lo by omega]
theorem x7_ (x:Ex)(q:Pat)(h:∀y,x.lang y↔q.lang y)(m:Mk)(hm:m.ok)(y:List Nat):(x.repd m.lo m.hi).lang y↔(m.app q).lang y:=by
 have span:∀lo hi:Nat,lo<=hi->((x.repd lo hi).lang y↔d4_ q.lang lo false hi y):=by
  intro lo hi hle;rw[hq_ hle];have:=ab2_ x q.lang h lo (hi - lo) y;rw[show lo+(hi - lo)=hi by omega]at this;exact this
 have more:∀lo:Nat,(x.repd lo (-1)).lang y↔d4_ q.lang lo true (lo+1) y:=by
  intro lo;rw[ja_];exact ab3_ x q.lang h lo y
 cases m with
 |none=>exact(span 1 1 o_).trans ((jy_ 1 o_ y).trans (ady_ y))
 |star=>exact more 0
 |plus=>exact more 1
 |opt=>exact span 0 1 o_
 |just n=>exact span n n o_
 |more n=>exact more n
 |span n m=>exact span n m hm.1
theorem f2_ (a b:Ex):(a.thn' b).letters<=a.letters+b.letters:=by
 unfold Ex.thn';split
 . omega
 . split
   . omega
   . exact lr__
theorem l0_ (a b:Ex):(a.alt' b).letters<=a.letters+b.letters:=by
 unfold Ex.alt';split
 . omega
 . exact lr__
theorem q4_ (a:Ex):a.star'.letters<=a.letters:=by
 unfold Ex.star';split
 . omega
 . exact lr__
theorem r0_ (x:Ex)(n:Nat):(x.opts n).letters<=n*x.letters:=by
 induction n with
 |zero=>simp[Ex.opts,Ex.letters]
 |succ n ih=>
  simp only[Ex.opts];have h1:=l0_ .nil (x.thn' (x.opts n));have h2:=f2_ x (x.opts n);have h3:Ex.nil.letters=0:=rfl;rw[Nat.add_mul];omega
theorem l1_ (x e:Ex)(n:Nat):(x.must e n).letters<=n*x.letters+e.letters:=by
 induction n with
 |zero=>simp[Ex.must]
 |succ n ih=>
  simp only[Ex.must];have h2:=f2_ x (x.must e n);rw[Nat.add_mul];omega
theorem r1_ (x:Ex)(q:Pat)(h:x.letters<=q.size)(m:Mk)(hm:m.ok):(x.repd m.lo m.hi).letters<=(m.app q).size:=by
 have star:∀lo,(x.must x.star' lo).letters<=q.size*(lo+1):=by
  intro lo;have h1:=l1_ x x.star' lo;have h2:=q4_ x;have h3:lo*x.letters<=lo*q.size:=Nat.mul_le_mul_left _ h;rw[Nat.mul_add,Nat.mul_comm q.size lo];omega
 have span:∀lo n,(x.must (x.opts n) lo).letters<=q.size*(lo+n):=by
  intro lo n;have h1:=l1_ x (x.opts n) lo;have h2:=r0_ x n;have h3:lo*x.letters<=lo*q.size:=Nat.mul_le_mul_left _ h;have h4:n*x.letters<=n*q.size:=Nat.mul_le_mul_left _ h;rw[Nat.mul_add,Nat.mul_comm q.size lo,Nat.mul_comm q.size n];omega
 have span':∀lo hi:Nat,lo<=hi->(x.repd lo hi).letters<=q.size*hi:=by
  intro lo hi hle;rw[hq_ hle];have:=span lo (hi - lo);rw[show lo+(hi - lo)=hi by omega]at this;exact this
 have star':∀lo:Nat,(x.repd lo (-1)).letters<=q.size*(lo+1):=by
  intro lo;rw[ja_];exact star lo
 cases m with
 |none=>
  have:=span' 1 1 o_;rw[Nat.mul_one]at this;exact this
 |star=>exact star' 0
 |plus=>exact star' 1
 |opt=>exact span' 0 1 o_
 |just n=>exact span' n n o_
 |more n=>exact star' n
 |span n m=>exact span' n m hm.1
theorem t5_ (p:Pat)(its:List Itm)(y:List Nat):(br_ p its).lang y↔Cat p.lang (br_ .none its).lang y:=by
 induction its generalizing p y with
 |nil=>exact(go_ y).symm
 |cons i its ih=>
  show(br_ (.chain p i.pat) its).lang y↔Cat p.lang (br_ (.chain .none i.pat) its).lang y
  rw[ih (.chain p i.pat) y];have h1:∀z,(br_ (.chain .none i.pat) its).lang z↔Cat i.pat.lang (br_ .none its).lang z:=by
   intro z;rw[ih (.chain .none i.pat) z];exact Cat.congr (fun u=>e9_ u) (fun _=>Iff.rfl) z
  rw[Cat.congr (fun _=>Iff.rfl) h1 y];exact je_ y
theorem ju_ (p:Pat)(its:List Itm):(br_ p its).size=p.size+(its.map fun i=>i.pat.size).sum:=by
 induction its generalizing p with
 |nil=>simp[br_]
 |cons i its ih=>
  show(br_ (.chain p i.pat) its).size=_
  rw[ih];simp only[Pat.size,List.map_cons,List.sum_cons];omega
theorem p1_ (p:Pat)(xs:List (List Nat×Pat)):(altL p xs).size=p.size+(xs.map fun y=>y.2.size).sum:=by
 induction xs generalizing p with
 |nil=>simp[altL]
 |cons y xs ih=>
  show(altL (.alt p y.2) xs).size=_
  rw[ih];simp only[Pat.size,List.map_cons,List.sum_cons];omega
end Go.Proofs.YtpngikmcjkjdaaaGreatDoor
