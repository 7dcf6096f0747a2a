import Derived.Test.YtpngikmcjkjdaaaGreatDoorG0
import Derived.Test.YtpngikmcjkjdaaaGreatDoorG19
import Derived.Test.YtpngikmcjkjdaaaGreatDoorG20
set_option linter.unusedVariables false
set_option linter.unusedSimpArgs false
set_option maxRecDepth 20000
set_option maxHeartbeats 80000000
namespace Go.Proofs.YtpngikmcjkjdaaaGreatDoor
open Go.RowKit Tryz
theorem m6_ {l:List Nat}{p:Pat}(h:eh_ l p){x:ByteArray}(hx:txt x=l):sg_ x 1:=by
 have hl:x.size=l.length:=by rw[<-bc_,hx]
 have key:∀c l',l=c::l'->c≠40->sg_ x 1:=by
  intro c l' hc hne;refine⟨by rw[hl,hc];simp,o_,.inl ⟨?_,rfl⟩⟩;have:=(dp_ hx (j:=0) (by rw[hc];simp)).2;rw[this,hc];exact hne
 rcases h with ⟨c,hc,rfl,_⟩|⟨rfl,_⟩|⟨ps,_,h1,⟨rfl,_⟩|⟨rfl,_⟩⟩
 . exact key _ _ rfl o_
 . exact key _ _ rfl o_
 . exact key _ _ rfl o_
 . exact key _ _ rfl o_
theorem ua_:pi_ 0:=by
 intro x y i w hx hA hm h1 h2;have hs:i.q.size=1:=or_ hA;refine jx_ x y i.m 1 i.pat.size w hx hm h2 (m6_ hA h1) ?_;have:=vf_ i.m hm i.q;rw[hs]at this;exact this
theorem ub_ (k:Nat)(hk:k<6)(HS:wh_ k):pi_ (k+1):=by
 intro x y i w hx hA hm h1 h2;have hw:=vf_ i.m hm i.q;have hA':=hA;rcases hA with hA|⟨l',hl',hP⟩
 . have hs:i.q.size=1:=or_ hA;rw[hs]at hw;exact jx_ x y i.m 1 i.pat.size w hx hm h2 (m6_ hA h1) hw
 . have hxl:x.size=l'.length+2:=by rw[<-bc_,h1,hl'];simp
   have hin:txt (x.extract 1 (x.size - 1))=l':=by
    rw[fq_];have:=(mv_ (s:=x) (pre:=[40]) (l:=l') (post:=[41]) (by rw[h1,hl'];simp)).1;rw[hxl];simp only[List.length_singleton]at this;rw[show l'.length+2 - 1=1+l'.length by omega];exact this
   refine jx_ x y i.m i.q.size i.pat.size w hx hm h2 ⟨o_, ?_,.inr ⟨?_,o_,fun w=> ?_⟩⟩ hw
   . have:=oq_ (k+1) _ _ hA';have h3:i.la.length<=40:=by rw[<-h1,bc_];exact hx
     have h4:=p7_ (k:=k+1) o_ h3;omega
   . have:=(dp_ h1 (j:=0) (by rw[hl'];simp)).2;rw[this,hl'];rfl
   . refine HS _ _ w ?_ (by rw[hin];exact hP);rw[<-bc_,hin];omega
theorem sh_ (l:List Nat)(i:Nat)(h:i<l.length):(l.take (i+1)).sum=(l.take i).sum+l.getD i 0:=by
 rw[List.take_succ_eq_append_getElem h,List.sum_append,List.getD_eq_getElem?_getD,List.getElem?_eq_getElem h];simp
theorem m7_ (l:List Nat)(i:Nat):(l.take i).sum<=l.sum:=by
 conv=>rhs;rw[<-List.take_append_drop i l]
 rw[List.sum_append];omega
structure ir_ (k:Nat)(s:ByteArray)(p:Pat)(x:List Nat×Pat)(xs:List (List Nat×Pat)):Prop where
 split:bz_ (txt s) 0 []=(x::xs).map (·.1)
 seq:∀y∈x::xs,SeqT (dl_ k) y.1 y.2
 len:∀y∈x::xs,y.1.length<=s.size
 pat:p=altL x.2 xs
theorem PatT.parts {k:Nat}{s:ByteArray}{p:Pat}(h:PatT (dl_ k) (txt s) p):∃x xs,ir_ k s p x xs:=by
 obtain⟨x,xs,h1,h2,h3,h4⟩:=h;refine⟨x,xs,by rw[h3];exact x6_ (ob_ k) h1 h2,fun y hy=> ?_,fun y hy=> ?_,h4⟩
 . rcases List.mem_cons.1 hy with rfl|hy
   . exact h1
   . exact h2 y hy
 . rw[<-bc_,h3,List.length_append];rcases List.mem_cons.1 hy with rfl|hy
   . omega
   . have:y.1.length<=(dw_ xs).length:=by
      clear h1 h2 h3 h4;rename_i hy0;clear hy0;induction xs with
      |nil=>simp at hy
      |cons z xs ih=>
       have hb:(dw_ (z::xs)).length=1+z.1.length+(dw_ xs).length:=by simp[dw_];omega
       rcases List.mem_cons.1 hy with rfl|hy
       . omega
       . have:=ih hy;omega
     omega
theorem ir_.one {k:Nat}{s:ByteArray}{p:Pat}{x:List Nat×Pat}{xs:List (List Nat×Pat)}(h:ir_ k s p x xs){Ls:List ByteArray}(hL:Ls.map txt=(x::xs).map (·.1)){i:Nat}(hi:i<(x::xs).length):
 ∃(y:ByteArray) (its:List Itm),Ls[i]? =some y/\y.size<=s.size/\txt y=its.flatMap Itm.text/\(∀j∈its,dl_ k j.la j.q/\j.m.ok)/\((x::xs).getD i ([],.none)).2=br_ .none its:=by
 have hx:i<Ls.length:=by have:=congrArg List.length hL;simp only[List.length_map]at this;omega
 have e1:(Ls.map txt)[i]? =((x::xs).map (·.1))[i]? :=by rw[hL]
 rw[List.getElem?_map,List.getElem?_map,List.getElem?_eq_getElem hx,List.getElem?_eq_getElem hi]at e1;simp only[Option.map_some,Option.some.injEq]at e1;have hm:(x::xs)[i]∈x::xs:=List.getElem_mem hi;obtain⟨its,h1,h2,h3⟩:=h.seq _ hm;refine⟨Ls[i],its,by rw[List.getElem?_eq_getElem hx], ?_,by rw[e1,h2],h1, ?_⟩
 . rw[<-bc_ Ls[i],e1];exact h.len _ hm
 . rw[List.getD_eq_getElem?_getD,List.getElem?_eq_getElem hi];exact h3
theorem l8_ {w:World}{base:Nat}{ao:Option Addr}{n cap:Nat}{Ls:List ByteArray}(hown:w.ownsRow base 9 1 (.slice ao n cap) Ls.length (strs Ls)){i:Nat}{y:ByteArray}(hy:Ls[i]? =some y):∃g,ao=some ⟨g,0,none⟩/\n=Ls.length/\base<=g/\g<w.heap.size/\w.cell? ⟨g,i,none⟩=some (.string y):=by
 have hi:i<Ls.length:=(List.getElem?_eq_some_iff.1 hy).1;obtain⟨ao',cap',he,hao⟩:=af_ hown;simp only[Value.slice.injEq]at he;obtain⟨rfl,rfl,rfl⟩:=he;obtain⟨g,rfl,hcp⟩:=hao o_;refine⟨g,rfl,rfl,(hown.lt g rfl).1,(hown.lt g rfl).2,(hcp i o_).trans ?_⟩;simp[strs,hy]
theorem si_ {w:World}{base:Nat}{ao:Option Addr}{n cap:Nat}{Ps:List (ByteArray×ByteArray)}(hown:w.ownsRow base 143 2 (.slice ao n cap) Ps.length (pieC Ps)){i:Nat}{y:ByteArray×ByteArray}(hy:Ps[i]? =some y):∃g,ao=some ⟨g,0,none⟩/\n=Ps.length/\base<=g/\g<w.heap.size/\w.cell? ⟨g,i*2,none⟩=some (.string y.1)/\w.cell? ⟨g,i*2+1,none⟩=some (.string y.2):=by
 have hi:i<Ps.length:=(List.getElem?_eq_some_iff.1 hy).1;obtain⟨ao',cap',he,hao⟩:=af_ hown;simp only[Value.slice.injEq]at he;obtain⟨rfl,rfl,rfl⟩:=he;obtain⟨g,rfl,hcp⟩:=hao o_;obtain⟨h1,h2⟩:=ad3_ Ps i y hy;exact⟨g,rfl,rfl,(hown.lt g rfl).1,(hown.lt g rfl).2,(hcp (i*2) o_).trans h1,(hcp (i*2+1) o_).trans h2⟩
theorem vg_ {k:Nat}{its:List Itm}(h:∀j∈its,dl_ k j.la j.q/\j.m.ok):its.length<=(its.flatMap Itm.text).length:=by
 induction its with
 |nil=>simp
 |cons i its ih=>
  have h1:=ih (fun y hy=>h y (by simp[hy]));obtain⟨c,l',hc,_⟩:=(h i i_).1.head;rw[List.flatMap_cons,List.length_append,List.length_cons];have:1<=i.text.length:=by unfold Itm.text;rw[hc];simp
  omega
theorem vh_ {its:List Itm}{Ps:List (ByteArray×ByteArray)}(hP:Ps.map (fun x=>(txt x.1,txt x.2))=its.map (fun i=>(i.la,i.m.text))){j:Nat}(hj:j<its.length):∃(y:ByteArray×ByteArray) (it:Itm),Ps[j]? =some y/\its[j]? =some it/\txt y.1=it.la/\txt y.2=it.m.text:=by
 have hx:j<Ps.length:=by have:=congrArg List.length hP;simp only[List.length_map]at this;omega
 have e1:(Ps.map (fun x=>(txt x.1,txt x.2)))[j]? =(its.map (fun i=>(i.la,i.m.text)))[j]? :=by rw[hP]
 rw[List.getElem?_map,List.getElem?_map,List.getElem?_eq_getElem hx,List.getElem?_eq_getElem hj]at e1;simp only[Option.map_some,Option.some.injEq,Prod.mk.injEq]at e1;exact⟨Ps[j],its[j],by rw[List.getElem?_eq_getElem hx],by rw[List.getElem?_eq_getElem hj],e1.1,e1.2⟩
theorem os_ (k:Nat)(hk:k<=6)(HO:pi_ k):wh_ k:=by
 intro s p w hs hP;have hpz:p.size<=400000000:=by
  have h1:=hP.size_le (oq_ k);rw[bc_]at h1;have h2:s.size*(10^k*10)<=400000000:=by
   have:=p7_ hk hs;rw[<-Nat.mul_assoc];omega
  omega
 obtain⟨x,xs,hPP⟩:=hP.parts;obtain⟨zs,HZ⟩:∃zs:List Nat,Hid ((x::xs).map (fun y=>y.2.size)=zs):=⟨_,rfl⟩;have hpsum:p.size=zs.sum:=by
  rw[hPP.pat,p1_,<-HZ.out,List.map_cons,List.sum_cons]
 rw[hpsum]at hpz ⊢;have hzl:zs.length=(x::xs).length:=by rw[<-HZ.out,List.length_map]
 have HZI:Hid (∀i,i<(x::xs).length->zs.getD i 0=((x::xs).getD i ([],.none)).2.size):=by
  intro i hi;rw[<-HZ.out,List.getD_eq_getElem?_getD,List.getD_eq_getElem?_getD,List.getElem?_map,List.getElem?_eq_getElem hi];rfl
 have HC:=sb_ s w hs;unfold kv_ at HC;rw[hPP.split]at HC;have HPP:Hid (ir_ k s p x xs):=hPP;obtain⟨nl,HNL⟩:=hx__ ((x::xs).length);rw[HNL.out]at hzl;clear hPP hP hpsum HZ;go_enter func71,ntmps71;go_wp2_with fail;refine HC.mono ?_;clear HC;rintro e w1 ⟨v,Ls,rfl,hL,hown,hB1,hLl⟩;obtain⟨ao,cap,rfl,_⟩:=af_ hown;have hLn:Ls.length=nl:=by have:=congrArg List.length hL;simp only[List.length_map]at this;rw[this];exact HNL.out
 rw[hLn]at hown;have HL:Hid (Ls.map txt=(x::xs).map (·.1)):=hL;have HOWN:Hid (w1.ownsRow w.heap.size 9 1 (.slice ao Ls.length cap) Ls.length (strs Ls)):=by unfold Hid;rw[hLn];exact hown
 have HLN:=hi__ hLn;have hnl:nl<=41:=o_;have hsz1:=hB1.size;rw[hLn];clear hL hown hLn hLl;go_wp2_with fail;go_loopw [3,5,6,7] (fun n' i' _ _ wr=>∃i:Nat,i<=nl/\i'= .int .i64 (i:Int)/\n'= .int .i64 (((zs.take i).sum:Nat):Int)/\Below w1.heap.size w1 wr) (fun _ i' _ _ _=>100 - (intOf i').toNat)
 case atStart=>exact⟨0,o_,rfl,rfl,br__⟩
 case round=>
  obtain⟨i,hi,rfl,rfl,hB⟩:=hrel;have hszr:=hB.size;by_cases hlt:i<nl
  . obtain⟨y,its,hy,hys,hyt,hits,hpat⟩:=HPP.out.one HL.out (i:=i) (by rw[HNL.out];exact hlt);obtain⟨g,rfl,_,hg1,hg2,hc⟩:=l8_ HOWN.out hy;have hzi:=HZI.out i (by rw[HNL.out];exact hlt);rw[hpat,ju_]at hzi;have hst:=sh_ zs i o_;have hsl:=m7_ zs (i+1);obtain⟨S,HS⟩:=hx__ ((zs.take i).sum);rw[HS.out]at hst;rw[HS.out];have c0:wr.cell? ⟨g,i,none⟩=some (.string y):=(hB.cell (p:=⟨g,i,none⟩) hg2).trans hc;have HC:=op_ k y its wr o_ hits hyt;obtain⟨ts,HTS⟩:∃l:List Nat,Hid (its.map (fun i=>i.pat.size)=l):=⟨_,rfl⟩;rw[HTS.out]at hzi;have htl:ts.length=its.length:=by rw[<-HTS.out,List.length_map]
    have hS1:(zs.take (i+1)).sum=S+ts.sum:=by rw[hst,hzi];simp[Pat.size]
    have HS1:=hi__ hS1;have hts:S+ts.sum<=400000000:=o_;have HIT:Hid (∀j (it:Itm),its[j]? =some it->dl_ k it.la it.q/\it.m.ok/\ts.getD j 0=it.pat.size/\it.la.length<=y.size):=by
     intro j it hj;have hm:=List.mem_of_getElem? hj;obtain⟨h1,h2⟩:=hits it hm;refine⟨h1,h2,by rw[<-HTS.out,List.getD_eq_getElem?_getD,List.getElem?_map,hj];rfl, ?_⟩;have:=ph_ hits hyt (j:=j) (List.getElem?_eq_some_iff.1 hj).1;obtain⟨it',hj',_,_,_,_,h3,_⟩:=this;rw[hj]at hj';simp only[Option.some.injEq]at hj';subst hj';omega
    have hil:its.length<=y.size:=by have:=vg_ hits;rw[<-hyt,bc_]at this;exact this
    clear hy hyt hits hpat hzi hst hsl hS1 HS hc;go_wp2_with fail;refine HC.mono ?_;clear HC;rintro e w2 ⟨v2,Ps,rfl,hP,hown2,hB2⟩;obtain⟨ao2,cap2,rfl,_⟩:=af_ hown2;have hPn:Ps.length=ts.length:=by have:=congrArg List.length hP;simp only[List.length_map]at this;omega
    have HOW2:Hid (w2.ownsRow wr.heap.size 143 2 (.slice ao2 Ps.length cap2) Ps.length (pieC Ps)):=hown2;have HP:Hid (Ps.map (fun x=>(txt x.1,txt x.2))=its.map (fun i=>(i.la,i.m.text))):=hP;obtain⟨nt,HNT⟩:=hx__ (ts.length);rw[HNT.out]at hPn htl;rw[hPn];have hB12:Below w1.heap.size w1 w2:=hB.trans (hB2.mono o_);have hsz2:=hB2.size;have hnt:nt<=40:=o_;have HPN:Hid (Ps.length=nt):=hPn;have HTL:Hid (nt=its.length):=htl;clear hP hown2 c0 hPn htl;go_wp2_with fail;go_loopw [3,7] (fun n' j' wr=>∃j:Nat,j<=nt/\j'= .int .i64 (j:Int)/\n'= .int .i64 ((S+(ts.take j).sum:Nat):Int)/\Below w2.heap.size w2 wr) (fun _ j' _=>100 - (intOf j').toNat)
    case atStart=>exact⟨0,o_,rfl,i_,br__⟩
    case round=>
     obtain⟨j,hj,rfl,rfl,hB3⟩:=hrel;have hsz3:=hB3.size;by_cases hltj:j<nt
     . obtain⟨y2,it,hy2,hit,ht1,ht2⟩:=vh_ HP.out (j:=j) (by rw[<-HTL.out];exact hltj);obtain⟨g2,rfl,_,hg3,hg4,hc1,hc2⟩:=si_ HOW2.out hy2;obtain⟨hA,hok,hsz4,hle⟩:=HIT.out j it hit;have hst:=sh_ ts j (by rw[HNT.out];exact hltj);have hsl:=m7_ ts (j+1);rw[hsz4]at hst;have e1:=(hB3.cell (p:=⟨g2,j*2,none⟩) hg4).trans hc1;have e2:=(hB3.cell (p:=⟨g2,j*2+1,none⟩) hg4).trans hc2;have HC:=HO y2.1 y2.2 it wr (by rw[<-bc_,ht1];omega) hA hok ht1 ht2;obtain⟨iz,HIZ⟩:=hx__ (it.pat.size);rw[HIZ.out]at HC hst;obtain⟨T,HT⟩:=hx__ ((ts.take j).sum);rw[HT.out]at hst;rw[HT.out];have HST:Hid ((ts.take (j+1)).sum=T+iz):=hst;have hb1:S+T+iz<=400000000:=o_;clear hy2 hit hA hok hsz4 ht1 ht2 hst hsl hc1 hc2 HT HIZ;go_wp2_with fail;refine HC.mono ?_;clear HC;rintro e w4 ⟨rfl,hB4⟩;have hB5:Below w2.heap.size w2 w4:=hB3.trans (hB4.mono o_);clear e1 e2 hB4;go_wp2_with fail;go_roundw
       case rel=>exact⟨j+1,o_,by go_num,by rw[HST.out];go_num,hB5⟩
       case measure=>simp[intOf];omega
     . obtain rfl:j=nt:=o_;have HTT:Hid ((ts.take j).sum=ts.sum):=by unfold Hid;rw[List.take_of_length_le (by rw[HNT.out];omega)]
       rw[HTT.out,<-HS1.out];have hB5:Below w1.heap.size w1 wr:=hB12.trans (hB3.mono o_);clear HTT hB3;obtain⟨z,HZZ⟩:=hx__ ((zs.take (i+1)).sum);rw[HZZ.out];go_wp2_with fail;go_roundw
       case rel=>exact⟨i+1,o_,by go_num,by rw[HZZ.out],hB5⟩
       case measure=>simp[intOf];omega
  . obtain rfl:i=nl:=o_;have HZE:Hid ((zs.take i).sum=zs.sum):=by unfold Hid;rw[List.take_of_length_le o_]
    rw[HZE.out];have hB5:Below w.heap.size w wr:=hB1.trans (hB.mono o_);clear hB HZE;go_wp2_with fail;go_ret;exact⟨rfl,hB5⟩
theorem ot_:∀k,k<=6->wh_ k
 |0,_=>os_ 0 o_ ua_
 |k+1,hk=>os_ (k+1) hk (ub_ k o_ (ot_ k o_))
theorem mw_ {w:World}{g t k:Nat}{S:Nat->Bool}{a b:Value}(h:w.heap[g]? =some (.cells (exC k S a b) t (0,0))){c:Nat}(hc:c<8)(v:Bool):(w.setCell ⟨g,1+c,none⟩ (.bool v)).heap[g]? =some (.cells (exC k (fun x=>if x=c then v else S x) a b) t (0,0)):=by
 rcases (show c=0\/c=1\/c=2\/c=3\/c=4\/c=5\/c=6\/c=7 by omega)with rfl|rfl|rfl|rfl|rfl|rfl|rfl|rfl<;>simp[World.setCell,Array.getElem?_modify,h,exC]
theorem yr_ {k:Nat}{S S':Nat->Bool}(a b:Value)(h:∀c,c<8->S c=S' c):exC k S a b=exC k S' a b:=by
 unfold exC;rw[h 0 o_,h 1 o_,h 2 o_,h 3 o_,h 4 o_,h 5 o_,h 6 o_,h 7 o_]
def c9_ (w:World)(g:Nat)(S:Nat->Bool):Prop:=w.heap[g]? =some (.cells (exC 1 S (.pointer none) (.pointer none)) 199 (0,0))
theorem c9_.congr {w:World}{g:Nat}{S S':Nat->Bool}(h:c9_ w g S)(e:∀c,c<8->S c=S' c):c9_ w g S':=by
 unfold c9_;rw[<-yr_ _ _ e];exact h
theorem p9_ (a:ByteArray)(b:Nat)(w:World)(ha:txt a=[b])(hb:b=46\/(97<=b/\b<=104)):
 Calls prog 154 #[.string a] w (hs_ (.one (fun c=>decide (c<8)&&(b==46||b==97+c))) w):=by
 have hl:=ky_ ha;obtain⟨hsz,hb0⟩:=dp_ ha (j:=0) i_;have hs1:a.size=1:=by rw[<-bc_,ha];rfl
 have hae:=a9_ hsz;rw[hb0]at hae;simp only[List.getD_cons_zero]at hae;have h46:(a.toList==[46])=(b==46):=by
  rw[hl];rcases hb with rfl|hb
  . rfl
  . have:(b==46)=false:=s_;rw[this];simp only[List.map];have hne:UInt8.ofNat b≠46:=by
     intro e;have:=congrArg UInt8.toNat e;rw[UInt8.toNat_ofNat']at this;have h2:(46:UInt8).toNat=46:=rfl;omega
    simp[hne]
 obtain⟨W,hW,BW,-,-⟩:=nw__ w (exC 1 noS (.pointer none) (.pointer none)) 199;have h0:c9_ W w.heap.size noS:=by rw[hW];exact ag_ rfl
 unfold exC noS at hW;simp only[show((1:Nat):Int)=1 from rfl]at hW;have hbl:b<=104:=o_;clear hl hb0 ha;obtain⟨b46,HB46⟩:=hx__ (b==46);rw[HB46.out]at h46;go_enter func154,ntmps154;go_upto_region 2 with fail;rw[<-hW];clear hW;go_wp2_with fail;go_loopw [4] (fun c' wr=>∃c:Nat,c<=8/\c'= .int .i64 (c:Int)/\c9_ wr w.heap.size (fun x=>decide (x<c)&&(b==46||b==97+x))/\Below w.heap.size w wr) (fun c' _=>8 - (intOf c').toNat)
 case atStart=>exact⟨0,o_,rfl,h0.congr (fun c _=>by simp[noS]),BW⟩
 case round=>
  obtain⟨c,hc,rfl,hO,hB⟩:=hrel;clear h0;by_cases hlt:c<8
  . obtain⟨x1,x2⟩:=id_ hO hlt;obtain⟨jc,HJ⟩:=hx__ (97+c);have hw1:IntKind.i64.wrap (97+(c:Int))=(jc:Int):=by rw[<-HJ.out,IntKind.wrap_i64];omega
    have hw2:IntKind.i64.wrap (a[0].toNat:Int)=(a[0].toNat:Int):=by rw[<-hae,IntKind.wrap_i64];omega
    obtain⟨bb,HBB⟩:=hx__ (b==jc);have t1:((a[0].toNat:Int)==(jc:Int))=bb:=by
     rw[<-HBB.out,<-hae,Bool.eq_iff_iff];simp;omega
    have t2:(a[0].toNat==jc)=bb:=by rw[<-HBB.out,<-hae]
    have HO:Hid (c9_ wr w.heap.size (fun x=>decide (x<c)&&(b==46||b==97+x))):=hO;have HB:Hid (Below w.heap.size w wr):=hB;have HAE:Hid (b=a[0].toNat):=hae;clear hO hB;have HFIN:Hid (∀wz:World,wz=wr->∀v,v=(b46||bb)->c9_ (wz.setCell ⟨w.heap.size,1+c,none⟩ (.bool v)) w.heap.size (fun x=>decide (x<c+1)&&(b==46||b==97+x))/\Below w.heap.size w (wz.setCell ⟨w.heap.size,1+c,none⟩ (.bool v))):=by
     intro wz e v hv;subst e hv;refine⟨?_,HB.out.setCell (p:=⟨w.heap.size,1+c,none⟩) lr__ _⟩;refine c9_.congr (mw_ HO.out hlt (b46||bb)) (fun x _=> ?_);by_cases e:x=c
     . subst e;simp[HB46.out,<-HBB.out,<-HJ.out]
     . simp only[e,if_false];have:decide (x<c+1)=decide (x<c):=by rw[decide_eq_decide];omega
       rw[this]
    clear HJ HBB hae;cases b46
    all_goals
     go_wp2_with fail;go_region
     all_goals
      go_wp2_with fail;go_roundw
      case rel=>
       obtain⟨f1,f2⟩:=HFIN.out wr rfl _ rfl;exact⟨c+1,o_,by go_num,f1,f2.drew⟩
      case measure=>simp[intOf];omega
  . obtain rfl:c=8:=o_;have HO:Hid (ExAt wr w.heap.size (.one (fun c=>decide (c<8)&&(b==46||b==97+c)))):=hO;have HB:Hid (Below w.heap.size w wr):=hB;clear hO hB;go_wp2_with fail;go_ret;exact⟨_,rfl,HO.out,HB.out⟩
def ou_ (c:Nat)(l:List Nat):Nat:=match l with
 |45::d::_=>d
 |_=>c
def covL:List Nat->Nat->Bool
 | [],_=>false
 |c::l,x=>(ai_ c&&decide (c<=97+x)&&decide (97+x<=ou_ c l))||covL l x
def okL:List Nat->Prop
 | []=>True
 |c::l=>(ai_ c=true->(∃d r,l=45::d::r/\ai_ d=true)\/(∃e r,l=e::r/\e≠45))/\okL l
theorem np_ {c e:Nat}{r:List Nat}(h:e≠45):ou_ c (e::r)=c:=by
 unfold ou_;split
 . rename_i heq;simp at heq;exact absurd heq.1 h
 . rfl
theorem qa_ {ps:List Prt}(h:∀x∈ps,x.ok):∃e r,ps.flatMap Prt.text++ [93]=e::r/\e≠45:=by
 cases ps with
 |nil=>exact⟨93,[],rfl,o_⟩
 |cons q ps=>
  have hq:=h q i_;rw[List.flatMap_cons];unfold Prt.text;cases q.dash
  . exact⟨97+q.f,_,rfl,o_⟩
  . exact⟨97+q.f,_,rfl,o_⟩
theorem kz_ {f:Nat}(h:f<8):ai_ (97+f)=true:=es_.2 o_
theorem qb_ {ps:List Prt}(h:∀x∈ps,x.ok)(x:Nat)(hx:x<8):covL (ps.flatMap Prt.text++ [93]) x=ps.any (fun q=>decide (q.f<=x)&&decide (x<=q.g)):=by
 induction ps with
 |nil=>simp[covL,ai_]
 |cons q ps ih=>
  obtain⟨h1,h2,h3,h4⟩:=h q i_;have h':∀y∈ps,y.ok:=fun y hy=>h y (by simp[hy])
  have ih':=ih h';obtain⟨e,r,he,hne⟩:=qa_ h';rw[List.any_cons,<-ih',List.flatMap_cons];cases hd:q.dash
  . have ht:Prt.text q=[97+q.f]:=by unfold Prt.text;rw[hd];rfl
    rw[ht];simp only[List.cons_append,List.nil_append,covL];rw[he,np_ hne,kz_ h1,h3 hd,Bool.true_and];congr 2
    . rw[decide_eq_decide];omega
    . rw[decide_eq_decide];omega
  . have ht:Prt.text q=[97+q.f,45,97+q.g]:=by unfold Prt.text;rw[hd];rfl
    rw[ht];simp only[List.cons_append,List.nil_append,covL];rw[he,np_ hne,kz_ h1,kz_ h2,Bool.true_and,Bool.true_and];have e1:ou_ (97+q.f) (45::(97+q.g)::e::r)=97+q.g:=rfl;have e2:ai_ 45=false:=rfl;rw[e1,e2,Bool.false_and,Bool.false_and,Bool.false_or];rw[Bool.eq_iff_iff];simp only[Bool.or_eq_true,Bool.and_eq_true,decide_eq_true_eq];constructor
    . rintro(h|h|h)
      . exact .inl o_
      . exact .inl o_
      . exact .inr h
    . rintro(h|h)
      . exact .inl o_
      . exact .inr (.inr h)
theorem sj_ {ps:List Prt}(h:∀x∈ps,x.ok):okL (ps.flatMap Prt.text++ [93]):=by
 induction ps with
 |nil=>exact⟨fun h=>by simp[ai_]at h,trivial⟩
 |cons q ps ih=>
  obtain⟨h1,h2,h3,h4⟩:=h q i_;have h':∀y∈ps,y.ok:=fun y hy=>h y (by simp[hy])
  have ih':=ih h';obtain⟨e,r,he,hne⟩:=qa_ h';rw[List.flatMap_cons];cases hd:q.dash
  . have ht:Prt.text q=[97+q.f]:=by unfold Prt.text;rw[hd];rfl
    rw[ht];exact⟨fun _=> .inr ⟨e,r,by simpa using he,hne⟩,by simpa using ih'⟩
  . have ht:Prt.text q=[97+q.f,45,97+q.g]:=by unfold Prt.text;rw[hd];rfl
    rw[ht];refine⟨fun _=> .inl ⟨97+q.g,_,rfl,kz_ h2⟩,fun h=>by simp[ai_]at h,fun _=> .inr ⟨e,r,by simpa using he,hne⟩,by simpa using ih'⟩
theorem sk_ (N:Nat->Bool)(ps:List Prt)(x:Nat):setN N ps x=(N x||ps.any (fun q=>decide (q.f<=x)&&decide (x<=q.g))):=by
 induction ps generalizing N with
 |nil=>simp[setN]
 |cons q ps ih=>
  show setN (dz_ N q.f q.g) ps x=_
  rw[ih,List.any_cons];unfold dz_;rw[Bool.or_assoc]
theorem abl_ {l:List Nat}(h:okL l)(i:Nat):okL (l.drop i):=by
 induction i generalizing l with
 |zero=>exact h
 |succ i ih=>
  cases l with
  |nil=>trivial
  |cons c l=>exact ih h.2
theorem qc_ (a:ByteArray)(l:List Nat)(ng:Bool)(w:World)(hs:a.size<=40)(ha:txt a=91::l)(h2:2<=a.size)(hng:(ad_ a 1==94)=ng)(hok:okL l):
 Calls prog 154 #[.string a] w (hs_ (.one (fun c=>decide (c<8)&&(if covL l c then !ng else ng))) w):=by
 have hd1:(txt a).drop 1=l:=by rw[ha];rfl
 have hb1:=a9_ (s:=a) (a:=1) o_;have t94:((a[1].toNat:Int)==94)=ng:=by
  rw[<-hng,hb1,Bool.eq_iff_iff];simp;omega
 have hs1:¬((a.size:Int)=1):=o_;have hs2:((a.size:Int)==1)=false:=s_;obtain⟨W,hW,BW,-,-⟩:=nw__ w (exC 1 noS (.pointer none) (.pointer none)) 199;have h0:c9_ W w.heap.size noS:=by rw[hW];exact ag_ rfl
 unfold exC noS at hW;simp only[show((1:Nat):Int)=1 from rfl]at hW;have HOK:Hid (∀i,okL ((txt a).drop (1+i))):=fun i=>by
  rw[<-List.drop_drop,hd1];exact abl_ hok i
 have HD1:=hi__ hd1;clear hb1 hng ha hok hd1;go_enter func154,ntmps154;go_upto_region 2 with fail;rw[<-hW];clear hW;go_wp2_with fail;go_loopw [6] (fun c' wr=>∃c:Nat,c<=8/\c'= .int .i64 (c:Int)/\c9_ wr w.heap.size (fun x=>if x<c then ng else false)/\Below w.heap.size w wr) (fun c' _=>8 - (intOf c').toNat)
 case atStart=>exact⟨0,o_,rfl,h0.congr (fun c _=>by simp[noS]),BW⟩
 case round=>
  obtain⟨c,hc,rfl,hO,hB⟩:=hrel;clear h0 t94 hs1 hs2;by_cases hlt:c<8
  . obtain⟨x1,x2⟩:=id_ hO hlt;have HO:Hid (c9_ wr w.heap.size (fun x=>if x<c then ng else false)):=hO;have HB:Hid (Below w.heap.size w wr):=hB;clear hO hB;go_wp2_with fail;go_roundw
    case rel=>
     refine⟨c+1,o_,by go_num,c9_.congr (mw_ HO.out hlt ng) (fun x _=> ?_),HB.out.setCell (p:=⟨w.heap.size,1+c,none⟩) lr__ _⟩;by_cases e:x=c
     . subst e;simp
     . simp only[e,if_false];by_cases h':x<c
       . rw[if_pos h',if_pos o_]
       . rw[if_neg h',if_neg o_]
    case measure=>simp[intOf];omega
  . obtain rfl:c=8:=o_;have hO':c9_ wr w.heap.size (fun x=>if (fun _=>false:Nat->Bool) x then !ng else ng):=hO.congr (fun x hx=>by simp[hx]);clear hO;go_wp2_with fail;go_loopw [7,8,9,10] (fun i' _ _ _ wr=>∃(i:Nat) (C:Nat->Bool),1<=i/\i<=a.size/\i'= .int .i64 (i:Int)/\Hid (∀x,x<8->(C x||covL ((txt a).drop i) x)=covL l x)/\c9_ wr w.heap.size (fun x=>if C x then !ng else ng)/\Below w.heap.size w wr) (fun i' _ _ _ _=>100 - (intOf i').toNat)
    case atStart=>exact⟨1,fun _=>false,lr__,o_,rfl,by unfold Hid;intro x _;rw[HD1.out];simp,hO',hB⟩
    case round=>
     clear hO' hB;obtain⟨i,C,hi1,hi2,rfl,HCV,hO,hB⟩:=hrel;by_cases hlti:i<a.size
     . have hil:(i:Int)<(a.size:Int):=o_;have hdc:=gx_ hlti;have hbe:=a9_ hlti;have hc256:=pd_ a i;have HC:=fun w=>a6_ (ad_ a i) w hc256
       have hokk:=HOK.out (i - 1);rw[show 1+(i - 1)=i by omega,hdc]at hokk;obtain⟨c0,HC0⟩:=hx__ (ad_ a i);have hac:a[i].toNat=c0:=by rw[<-hbe];exact HC0.out
       rw[hdc]at HCV;rw[HC0.out]at HC HCV hokk hc256;cases hn:ai_ c0
       . have HN:Hid (∀x,x<8->(C x||covL ((txt a).drop (i+1)) x)=covL l x):=by
          intro x hx;have:=HCV.out x hx;simp only[covL,hn,Bool.false_and,Bool.false_or]at this;exact this
         rw[hn]at HC;rw[<-hac]at HC;have HO:Hid (c9_ wr w.heap.size (fun x=>if C x then !ng else ng)):=hO;have HB:Hid (Below w.heap.size w wr):=hB;clear hn hac hbe HC0 hdc HCV hokk hO hB;go_wp2_with (go_at_call 146;refine(HC _).mono ?_;rintro e w' ⟨rfl,rfl⟩);go_roundw
         case rel=>exact⟨i+1,C,o_,o_,by go_num,HN,HO.out,HB.out⟩
         case measure=>simp[intOf];omega
       . have hnn:=es_.1 hn;rw[hn]at HC;have key:∃(dash:Bool) (la:Nat),i+1<a.size/\(ad_ a (i+1)==45)=dash/\(dash=true->i+2<a.size/\ad_ a (i+2)=la)/\(dash=false->la=c0)/\97<=la/\la<=104/\ou_ c0 ((txt a).drop (i+1))=la:=by
          rcases hokk.1 hn with ⟨d,r,hr,hdn⟩|⟨e,r,hr,hne⟩
          . have hl1:i+1<a.size:=by
             have:=congrArg List.length hr;rw[List.length_drop,bc_]at this;simp at this;omega
            have hl2:i+2<a.size:=by
             have:=congrArg List.length hr;rw[List.length_drop,bc_]at this;simp at this;omega
            have e1:=hr;rw[gx_ hl1,gx_ hl2]at e1;simp only[List.cons.injEq]at e1;have hdn':=es_.1 hdn;exact⟨true,d,hl1,by rw[e1.1];rfl,fun _=>⟨hl2,e1.2.1⟩,fun h=>by simp at h,hdn'.1,hdn'.2,by rw[hr];rfl⟩
          . have hl1:i+1<a.size:=by
             have:=congrArg List.length hr;rw[List.length_drop,bc_]at this;simp at this;omega
            have e1:=hr;rw[gx_ hl1]at e1;simp only[List.cons.injEq]at e1;exact⟨false,c0,hl1,by rw[e1.1];simpa using hne,fun h=>by simp at h,fun _=>rfl,hnn.1,hnn.2,by rw[hr];exact np_ hne⟩
         obtain⟨dash,la,hl1,hdash,hdt,hdf,hla1,hla2,hlast⟩:=key;have HN:Hid (∀x,x<8->((C x||(decide (c0 - 97<=x)&&decide (x<la - 97+1)))||covL ((txt a).drop (i+1)) x)=covL l x):=by
          intro x hx;have:=HCV.out x hx;simp only[covL,hn,hlast,Bool.true_and]at this;rw[<-this,Bool.or_assoc];congr 2
          rw[Bool.eq_iff_iff];simp;omega
         have hbe1:=a9_ hl1;have t45:((a[i+1].toNat:Int)==45)=dash:=by
          rw[<-hdash,hbe1,Bool.eq_iff_iff];simp;omega
         rw[<-hac]at HC;have hw0:((a[i].toNat:Int)- 97)=((c0 - 97:Nat):Int):=by rw[hac];omega
         have ha97:(97:Int)<=(a[i].toNat:Int):=by rw[hac];omega
         have ha104:(a[i].toNat:Int)<=104:=by rw[hac];omega
         have HO:Hid (c9_ wr w.heap.size (fun x=>if C x then !ng else ng)):=hO;have HB:Hid (Below w.heap.size w wr):=hB;obtain⟨lo,HLO⟩:=hx__ (c0 - 97);obtain⟨hi,HHI⟩:=hx__ (la - 97);rw[HLO.out,HHI.out]at HN;rw[HLO.out]at hw0;have hlo8:lo<8:=by rw[<-HLO.out];omega
         have hhi8:hi<8:=by rw[<-HHI.out];omega
         have HCC:=hi__ hac;clear hn hbe HC0 hdc HCV hokk hO hB hlast hdash hbe1 hac;cases dash
         . obtain rfl:=hdf rfl;obtain rfl:lo=hi:=by rw[<-HLO.out,<-HHI.out]
           clear hdt hdf;go_wp2_with (go_at_call 146;refine(HC _).mono ?_;rintro e w' ⟨rfl,rfl⟩);go_loopw [10] (fun c' wr=>∃c:Nat,lo<=c/\(c<=lo+1\/c=lo)/\c'= .int .i64 (c:Int)/\c9_ wr w.heap.size (fun x=>if (C x||(decide (lo<=x)&&decide (x<c)))then !ng else ng)/\Below w.heap.size w wr) (fun c' _=>20 - (intOf c').toNat)
           case atStart=>
            refine⟨lo,lr__,.inr rfl,rfl,HO.out.congr (fun x _=> ?_),HB.out⟩;have:(decide (lo<=x)&&decide (x<lo))=false:=i_;rw[this,Bool.or_false]
           case round=>
            obtain⟨c,hc1,hc2,rfl,hO2,hB2⟩:=hrel;by_cases hch:c<=lo
            . have hch2:(c:Int)<=(lo:Int):=o_;have hc8:c<8:=o_;obtain⟨x1,x2⟩:=id_ hO2 hc8;have HO2:Hid (c9_ wr w.heap.size (fun x=>if (C x||(decide (lo<=x)&&decide (x<c)))then !ng else ng)):=hO2;have HB2:Hid (Below w.heap.size w wr):=hB2;clear hO2 hB2;go_wp2_with fail;go_roundw
              case rel=>
               refine⟨c+1,o_,o_,by go_num,c9_.congr (mw_ HO2.out hc8 (!ng)) (fun x _=> ?_),HB2.out.setCell (p:=⟨w.heap.size,1+c,none⟩) lr__ _⟩;by_cases e:x=c
               . subst e;have:(decide (lo<=x)&&decide (x<x+1))=true:=s_;simp only[if_true,this,Bool.or_true]
               . simp only[e,if_false];have:decide (x<c+1)=decide (x<c):=by rw[decide_eq_decide];omega
                 rw[this]
              case measure=>simp[intOf];omega
            . have hch2:¬(c:Int)<=(lo:Int):=o_;have HO2:Hid (c9_ wr w.heap.size (fun x=>if (C x||(decide (lo<=x)&&decide (x<lo+1)))then !ng else ng)):=hO2.congr (fun x _=>by
               have:(decide (lo<=x)&&decide (x<c))=(decide (lo<=x)&&decide (x<lo+1)):=by rw[Bool.eq_iff_iff];simp;omega
               rw[this])
              have HB2:Hid (Below w.heap.size w wr):=hB2;clear hO2 hB2;go_wp2_with fail;go_roundw
              case rel=>exact⟨i+1,fun x=>C x||(decide (lo<=x)&&decide (x<lo+1)),o_,o_,by go_num,HN,HO2.out,HB2.out⟩
              case measure=>simp[intOf];omega
         . obtain⟨hl2,hb2⟩:=hdt rfl;have hbe2:=a9_ hl2;rw[hb2]at hbe2;have hwl:((a[i+2].toNat:Int)- 97)=(hi:Int):=by rw[<-hbe2,<-HHI.out];omega
           have hb97:(97:Int)<=(a[i+2].toNat:Int):=by rw[<-hbe2];omega
           have hb104:(a[i+2].toNat:Int)<=104:=by rw[<-hbe2];omega
           clear hdt hdf hb2 hbe2;go_wp2_with (go_at_call 146;refine(HC _).mono ?_;rintro e w' ⟨rfl,rfl⟩);go_loopw [10] (fun c' wr=>∃c:Nat,lo<=c/\(c<=hi+1\/c=lo)/\c'= .int .i64 (c:Int)/\c9_ wr w.heap.size (fun x=>if (C x||(decide (lo<=x)&&decide (x<c)))then !ng else ng)/\Below w.heap.size w wr) (fun c' _=>20 - (intOf c').toNat)
           case atStart=>
            refine⟨lo,lr__,.inr rfl,rfl,HO.out.congr (fun x _=> ?_),HB.out⟩;have:(decide (lo<=x)&&decide (x<lo))=false:=i_;rw[this,Bool.or_false]
           case round=>
            obtain⟨c,hc1,hc2,rfl,hO2,hB2⟩:=hrel;by_cases hch:c<=hi
            . have hch2:(c:Int)<=(hi:Int):=o_;have hc8:c<8:=o_;obtain⟨x1,x2⟩:=id_ hO2 hc8;have HO2:Hid (c9_ wr w.heap.size (fun x=>if (C x||(decide (lo<=x)&&decide (x<c)))then !ng else ng)):=hO2;have HB2:Hid (Below w.heap.size w wr):=hB2;clear hO2 hB2;go_wp2_with fail;go_roundw
              case rel=>
               refine⟨c+1,o_,o_,by go_num,c9_.congr (mw_ HO2.out hc8 (!ng)) (fun x _=> ?_),HB2.out.setCell (p:=⟨w.heap.size,1+c,none⟩) lr__ _⟩;by_cases e:x=c
               . subst e;have:(decide (lo<=x)&&decide (x<x+1))=true:=s_;simp only[if_true,this,Bool.or_true]
               . simp only[e,if_false];have:decide (x<c+1)=decide (x<c):=by rw[decide_eq_decide];omega
                 rw[this]
              case measure=>simp[intOf];omega
            . have hch2:¬(c:Int)<=(hi:Int):=o_;have HO2:Hid (c9_ wr w.heap.size (fun x=>if (C x||(decide (lo<=x)&&decide (x<hi+1)))then !ng else ng)):=hO2.congr (fun x _=>by
               have:(decide (lo<=x)&&decide (x<c))=(decide (lo<=x)&&decide (x<hi+1)):=by rw[Bool.eq_iff_iff];simp;omega
               rw[this])
              have HB2:Hid (Below w.heap.size w wr):=hB2;clear hO2 hB2;go_wp2_with fail;go_roundw
              case rel=>exact⟨i+1,fun x=>C x||(decide (lo<=x)&&decide (x<hi+1)),o_,o_,by go_num,HN,HO2.out,HB2.out⟩
              case measure=>simp[intOf];omega
     . have hil:¬(i:Int)<(a.size:Int):=o_;obtain rfl:i=a.size:=o_;have HO:Hid (ExAt wr w.heap.size (.one (fun c=>decide (c<8)&&(if covL l c then !ng else ng)))):=by
        refine c9_.congr hO (fun x hx=> ?_);have:=HCV.out x hx;rw[nl_]at this;simp only[covL,Bool.or_false]at this;rw[this];simp[hx]
       have HB:Hid (Below w.heap.size w wr):=hB;clear hO hB HCV;go_wp2_with fail;go_ret;exact⟨_,rfl,HO.out,HB.out⟩
def Ex.dep:Ex->Nat
 | .nil=>0
 | .one _=>0
 | .star a=>a.dep+1
 | .thn a b=>max a.dep b.dep+1
 | .alt a b=>max a.dep b.dep+1
def Pat.wt:Pat->Nat
 | .none=>1
 | .one _=>10
 | .chain a b=>a.wt+b.wt+3
 | .alt a b=>a.wt+b.wt+3
 | .rep a lo hi en=>if en then(lo+1)*(a.wt+3)else hi*(a.wt+7)+1
def Pat.dp:Pat->Nat
 | .none=>0
 | .one _=>0
 | .chain a b=>a.dp+b.dp+1
 | .alt a b=>a.dp+b.dp+1
 | .rep a _ _ _=>a.dp+20
theorem sl_ (S:Nat->Bool)(n:Nat):(setL S n).length<=n:=by
 induction n with
 |zero=>simp[setL]
 |succ n ih=>
  simp only[setL];split
  . rw[List.length_append,List.length_singleton];omega
  . omega
theorem ad5_ (S:Nat->Bool):(Ex.one S).nm.length<=10:=by
 have:=sl_ S 8;simp[Ex.nm];omega
theorem ae7_ (e:Ex):1<=e.nm.length:=by cases e<;>simp[Ex.nm]
theorem pj_ (a b:Ex):(Ex.thn a b).nm.length=a.nm.length+b.nm.length+3:=by simp[Ex.nm];omega
theorem pk_ (a b:Ex):(Ex.alt a b).nm.length=a.nm.length+b.nm.length+3:=by simp[Ex.nm];omega
theorem nq_ (a:Ex):(Ex.star a).nm.length=a.nm.length+3:=by simp[Ex.nm]
theorem is_ (a b:Ex):(a.thn' b).nm.length<=a.nm.length+b.nm.length+3:=by
 unfold Ex.thn';split
 . omega
 . split
   . omega
   . rw[pj_];omega
theorem sm_ (a b:Ex):(a.alt' b).nm.length<=a.nm.length+b.nm.length+3:=by
 unfold Ex.alt';split
 . omega
 . rw[pk_];omega
theorem ys_ (a:Ex):a.star'.nm.length<=a.nm.length+3:=by
 unfold Ex.star';split
 . omega
 . rw[nq_];omega
theorem sn_ (x e:Ex)(n:Nat):(x.must e n).nm.length<=n*(x.nm.length+3)+e.nm.length:=by
 induction n with
 |zero=>simp[Ex.must]
 |succ n ih=>have:=is_ x (x.must e n);simp only[Ex.must];rw[Nat.succ_mul];omega
theorem abm_ (x:Ex)(n:Nat):(x.opts n).nm.length<=n*(x.nm.length+7)+1:=by
 induction n with
 |zero=>simp[Ex.opts,Ex.nm]
 |succ n ih=>
  have h1:=is_ x (x.opts n);have h2:=sm_ .nil (x.thn' (x.opts n));have h3:(Ex.nil).nm.length=1:=rfl;simp only[Ex.opts];rw[Nat.succ_mul];omega
theorem nr_ (a b:Ex):(a.thn' b).dep<=max a.dep b.dep+1:=by
 unfold Ex.thn';split
 . omega
 . split
   . omega
   . simp[Ex.dep]
theorem so_ (a b:Ex):(a.alt' b).dep<=max a.dep b.dep+1:=by
 unfold Ex.alt';split
 . omega
 . simp[Ex.dep]
theorem yt_ (a:Ex):a.star'.dep<=a.dep+1:=by
 unfold Ex.star';split
 . omega
 . simp[Ex.dep]
theorem sp_ (x e:Ex)(n:Nat):(x.must e n).dep<=max x.dep e.dep+n:=by
 induction n with
 |zero=>simp[Ex.must];omega
 |succ n ih=>have:=nr_ x (x.must e n);simp only[Ex.must];omega
theorem abn_ (x:Ex)(n:Nat):(x.opts n).dep<=x.dep+2*n:=by
 induction n with
 |zero=>simp[Ex.opts,Ex.dep]
 |succ n ih=>
  have h1:=nr_ x (x.opts n);have h2:=so_ .nil (x.thn' (x.opts n));have h3:(Ex.nil).dep=0:=rfl;simp only[Ex.opts];omega
theorem sq_ (x:Ex):x.repd 1 1=x:=by
 have:=hq_ (x:=x) (lo:=1) (hi:=1) o_;rw[show((1:Nat):Int)=1 from rfl]at this;rw[this];show x.thn' .nil=x
 unfold Ex.thn';cases x<;>simp[Ex.isNil]
theorem ad6_ (x:Ex)(q:Pat)(h:x.nm.length<=q.wt)(m:Mk)(hm:m.ok):(x.repd m.lo m.hi).nm.length<=(m.app q).wt:=by
 have star:∀lo:Nat,(x.repd lo (-1)).nm.length<=(lo+1)*(q.wt+3):=by
  intro lo;rw[ja_];have h1:=sn_ x x.star' lo;have h2:=ys_ x;have h3:lo*(x.nm.length+3)<=lo*(q.wt+3):=Nat.mul_le_mul_left _ o_;rw[Nat.succ_mul];omega
 have span:∀lo hi:Nat,lo<=hi->(x.repd lo hi).nm.length<=hi*(q.wt+7)+1:=by
  intro lo hi hle;rw[hq_ hle];have h1:=sn_ x (x.opts (hi - lo)) lo;have h2:=abm_ x (hi - lo);have h3:lo*(x.nm.length+3)<=lo*(q.wt+7):=Nat.mul_le_mul_left _ o_;have h4:(hi - lo)*(x.nm.length+7)<=(hi - lo)*(q.wt+7):=Nat.mul_le_mul_left _ o_;have h5:lo*(q.wt+7)+(hi - lo)*(q.wt+7)=hi*(q.wt+7):=by rw[<-Nat.add_mul,show lo+(hi - lo)=hi by omega]
  omega
 cases m with
 |none=>show(x.repd 1 1).nm.length<=q.wt;rw[sq_];exact h
 |star=>exact star 0
 |plus=>exact star 1
 |opt=>exact span 0 1 o_
 |just n=>exact span n n o_
 |more n=>exact star n
 |span n k=>exact span n k hm.1
theorem ad7_ (x:Ex)(q:Pat)(h:x.dep<=q.dp)(m:Mk)(hm:m.ok):(x.repd m.lo m.hi).dep<=(m.app q).dp:=by
 have star:∀lo:Nat,lo<=9->(x.repd lo (-1)).dep<=q.dp+20:=by
  intro lo hl;rw[ja_];have h1:=sp_ x x.star' lo;have h2:=yt_ x;omega
 have span:∀lo hi:Nat,lo<=hi->hi<=9->(x.repd lo hi).dep<=q.dp+20:=by
  intro lo hi hle hl;rw[hq_ hle];have h1:=sp_ x (x.opts (hi - lo)) lo;have h2:=abn_ x (hi - lo);omega
 cases m with
 |none=>show(x.repd 1 1).dep<=q.dp;rw[sq_];exact h
 |star=>exact star 0 o_
 |plus=>exact star 1 o_
 |opt=>exact span 0 1 o_ o_
 |just n=>exact span n n o_ hm
 |more n=>exact star n hm
 |span n k=>exact span n k hm.1 hm.2
theorem qd_ (p:Pat)(its:List Itm):(br_ p its).wt=p.wt+(its.map fun i=>i.pat.wt+3).sum:=by
 induction its generalizing p with
 |nil=>simp[br_]
 |cons i its ih=>
  show(br_ (.chain p i.pat) its).wt=_
  rw[ih];simp only[Pat.wt,List.map_cons,List.sum_cons];omega
theorem qe_ (p:Pat)(its:List Itm):(br_ p its).dp=p.dp+(its.map fun i=>i.pat.dp+1).sum:=by
 induction its generalizing p with
 |nil=>simp[br_]
 |cons i its ih=>
  show(br_ (.chain p i.pat) its).dp=_
  rw[ih];simp only[Pat.dp,List.map_cons,List.sum_cons];omega
theorem uc_ {a b:Nat}(ha:1<=a)(hb:1<=b):2^a+2^b<=2^(a+b):=by
 obtain⟨a,rfl⟩:∃x,a=x+1:=⟨a - 1,o_⟩;obtain⟨b,rfl⟩:∃x,b=x+1:=⟨b - 1,o_⟩;rw[show a+1+(b+1)=(a+b+1)+1 by omega,Nat.pow_succ 2 (a+b+1)];have h1:2^(a+1)<=2^(a+b+1):=Nat.pow_le_pow_right o_ o_;have h2:2^(b+1)<=2^(a+b+1):=Nat.pow_le_pow_right o_ o_;omega
def WtA (A:List Nat->Pat->Prop):Prop:=∀l q,A l q->1<=l.length/\q.wt+12<=14*2^l.length/\q.dp+2<=25*l.length
theorem ad8_ {A:List Nat->Pat->Prop}(hA:WtA A){i:Itm}(h:A i.la i.q)(hm:i.m.ok):1<=i.text.length/\i.pat.wt+12<=16*2^i.text.length/\i.pat.dp+2<=25*i.text.length:=by
 obtain⟨h1,h2,h3⟩:=hA _ _ h;obtain⟨la,q,m⟩:=i;simp only at h h1 h2 h3 hm;have e0:(Itm.text ⟨la,q,m⟩).length=la.length+m.text.length:=by simp[Itm.text]
 rw[e0];obtain⟨n,hn⟩:=ew__ (la.length);rw[<-hn]at h1 h2 h3 ⊢;obtain⟨P,hP⟩:=ew__ (2^n);have hp:∀k,2^(n+k)=P*2^k:=fun k=>by rw[Nat.pow_add,hP]
 rw[hp];rw[<-hP]at h2;have hin:∀n W:Nat,n<=9->n*(W+7)<=9*(W+7):=fun n W h=>Nat.mul_le_mul_right _ h
 have hin2:∀n W:Nat,n<=9->(n+1)*(W+3)<=10*(W+3):=fun n W h=>Nat.mul_le_mul_right _ o_
 cases m with
 |none=>
  refine⟨o_, ?_, ?_⟩
  . show q.wt+12<=16*(P*2^0);omega
  . show q.dp+2<=25*(n+0);omega
 |star=>
  refine⟨o_, ?_, ?_⟩
  . show(0+1)*(q.wt+3)+12<=16*(P*2^1);omega
  . show q.dp+20+2<=25*(n+1);omega
 |plus=>
  refine⟨o_, ?_, ?_⟩
  . show(1+1)*(q.wt+3)+12<=16*(P*2^1);omega
  . show q.dp+20+2<=25*(n+1);omega
 |opt=>
  refine⟨o_, ?_, ?_⟩
  . show 1*(q.wt+7)+1+12<=16*(P*2^1);omega
  . show q.dp+20+2<=25*(n+1);omega
 |just k=>
  have:=hin k q.wt hm;refine⟨o_, ?_, ?_⟩
  . show k*(q.wt+7)+1+12<=16*(P*2^3);omega
  . show q.dp+20+2<=25*(n+3);omega
 |more k=>
  have:=hin2 k q.wt hm;refine⟨o_, ?_, ?_⟩
  . show(k+1)*(q.wt+3)+12<=16*(P*2^4);omega
  . show q.dp+20+2<=25*(n+4);omega
 |span k j=>
  have:=hin j q.wt hm.2;refine⟨o_, ?_, ?_⟩
  . show j*(q.wt+7)+1+12<=16*(P*2^5);omega
  . show q.dp+20+2<=25*(n+5);omega
theorem ae8_ {A:List Nat->Pat->Prop}(hA:WtA A)(its:List Itm)(h:∀i∈its,A i.la i.q/\i.m.ok):its≠ []->1<=(its.flatMap Itm.text).length/\(its.map fun i=>i.pat.wt+3).sum+9<=16*2^(its.flatMap Itm.text).length/\(its.map fun i=>i.pat.dp+1).sum+1<=25*(its.flatMap Itm.text).length:=by
 induction its with
 |nil=>intro h;exact absurd rfl h
 |cons i its ih=>
  intro _;obtain⟨h1,h2,h3⟩:=ad8_ hA (h i i_).1 (h i i_).2;have ih:=ih (fun j hj=>h j (by simp[hj]));simp only[List.flatMap_cons,List.length_append,List.map_cons,List.sum_cons];by_cases he:its=[]
  . subst he;simp only[List.flatMap_nil,List.length_nil,List.map_nil,List.sum_nil,Nat.add_zero];omega
  . obtain⟨g1,g2,g3⟩:=ih he;have:=uc_ h1 g1;refine⟨o_,o_,o_⟩
theorem yu_ {A:List Nat->Pat->Prop}(hA:WtA A){l:List Nat}{p:Pat}(h:SeqT A l p):p.wt+8<=16*2^l.length/\p.dp<=25*l.length:=by
 obtain⟨its,h1,rfl,rfl⟩:=h;rw[qd_,qe_];by_cases he:its=[]
 . subst he;simp[Pat.wt,Pat.dp]
 . obtain⟨g1,g2,g3⟩:=ae8_ hA its h1 he;simp only[Pat.wt,Pat.dp];omega
theorem ad9_ {A:List Nat->Pat->Prop}(hA:WtA A)(xs:List (List Nat×Pat)):∀(n:Nat) (p:Pat),p.wt+8<=16*2^n->p.dp<=25*n->(∀y∈xs,SeqT A y.1 y.2)->(altL p xs).wt+8<=16*2^(n+(dw_ xs).length)/\(altL p xs).dp<=25*(n+(dw_ xs).length):=by
 induction xs with
 |nil=>intro n p h1 h2 _;exact⟨h1,h2⟩
 |cons y xs ih=>
  intro n p h1 h2 h3;obtain⟨g1,g2⟩:=yu_ hA (h3 y i_);have hb:(dw_ (y::xs)).length=1+y.1.length+(dw_ xs).length:=by simp[dw_];omega
  have hp:2^n+2^y.1.length<=2^(n+(1+y.1.length)):=by
   rw[show n+(1+y.1.length)=(n+y.1.length)+1 by omega,Nat.pow_succ];have h1:2^n<=2^(n+y.1.length):=Nat.pow_le_pow_right o_ o_;have h2:2^y.1.length<=2^(n+y.1.length):=Nat.pow_le_pow_right o_ o_;omega
  have:=ih (n+(1+y.1.length)) (.alt p y.2) (by simp only[Pat.wt];omega) (by simp only[Pat.dp];omega) (fun z hz=>h3 z (by simp[hz]));rw[hb,show n+(1+y.1.length+(dw_ xs).length)=n+(1+y.1.length)+(dw_ xs).length by omega];exact this
theorem yv_ {A:List Nat->Pat->Prop}(hA:WtA A){l:List Nat}{p:Pat}(h:PatT A l p):p.wt+8<=16*2^l.length/\p.dp<=25*l.length:=by
 obtain⟨x,xs,h1,h2,rfl,rfl⟩:=h;obtain⟨g1,g2⟩:=yu_ hA h1;rw[List.length_append];exact ad9_ hA xs _ _ g1 g2 h2
theorem sr_:WtA eh_:=by
 have key:∀n,1<=n->10+12<=14*2^n/\0+2<=25*n:=by
  intro n hn;have:2^1<=2^n:=Nat.pow_le_pow_right o_ hn;omega
 intro l q h;rcases h with ⟨c,hc,rfl,rfl⟩|⟨rfl,rfl⟩|⟨ps,hps,h1,⟨rfl,rfl⟩|⟨rfl,rfl⟩⟩
 . exact⟨i_,key _ i_⟩
 . exact⟨i_,key _ i_⟩
 . exact⟨i_,key _ i_⟩
 . exact⟨i_,key _ i_⟩
theorem vi_:∀k,WtA (dl_ k)
 |0=>sr_
 |k+1=>by
  intro l q h;rcases h with h|⟨l',rfl,h⟩
  . exact sr_ l q h
  . obtain⟨h1,h2⟩:=yv_ (vi_ k) h;have e:(40::l'++ [41]).length=l'.length+2:=i_;have hp:1<=2^l'.length:=Nat.one_le_two_pow;rw[e,Nat.pow_add];exact⟨o_,o_,o_⟩
theorem aea_ {e:Ex}:∀d∈e.pds,d.nm.length<=e.nm.length*(e.dep+1):=by
 induction e with
 |nil=>intro d hd;simp[Ex.pds]at hd
 |one S=>
  intro d hd;simp[Ex.pds]at hd;subst hd;have:=ae7_ (.one S);show 1<=(Ex.one S).nm.length*(0+1);omega
 |alt a b iha ihb=>
  intro d hd;simp only[Ex.pds,List.mem_append]at hd;rw[pk_];simp only[Ex.dep];rcases hd with hd|hd
  . exact Nat.le_trans (iha d hd) (Nat.mul_le_mul o_ o_)
  . exact Nat.le_trans (ihb d hd) (Nat.mul_le_mul o_ o_)
 |thn a b iha ihb=>
  intro d hd;simp only[Ex.pds,List.mem_append,List.mem_map]at hd;rw[pj_];simp only[Ex.dep];rcases hd with ⟨y,hy,rfl⟩|hd
  . have h1:=iha y hy;have h2:=is_ y b;have h3:a.nm.length*(a.dep+1)<=a.nm.length*(max a.dep b.dep+1+1):=Nat.mul_le_mul_left _ o_;have h4:(b.nm.length+3)*1<=(b.nm.length+3)*(max a.dep b.dep+1+1):=Nat.mul_le_mul_left _ o_;rw[show a.nm.length+b.nm.length+3=a.nm.length+(b.nm.length+3)by omega,Nat.add_mul];omega
  . exact Nat.le_trans (ihb d hd) (Nat.mul_le_mul o_ o_)
 |star a iha=>
  intro d hd;simp only[Ex.pds,List.mem_map]at hd;obtain⟨y,hy,rfl⟩:=hd;have h1:=iha y hy;have h2:=is_ y (.star a);rw[nq_]at h2 ⊢;simp only[Ex.dep];rw[Nat.add_mul,Nat.mul_add a.nm.length];rw[show 3*(a.dep+1+1)=3*a.dep+6 by omega];omega
theorem ge_ (e:Ex)(c:Nat):(e.behind c).length<=e.letters:=by
 induction e with
 |nil=>simp[Ex.behind]
 |one S=>simp only[Ex.behind,Ex.letters];split<;>simp
 |alt a b iha ihb=>simp only[Ex.behind,Ex.letters,List.length_append];omega
 |star a iha=>simpa [Ex.behind,Ex.letters] using iha
 |thn a b iha ihb=>
  simp only[Ex.behind,Ex.letters,List.length_append,List.length_map];split
  . omega
  . simp;omega
end Go.Proofs.YtpngikmcjkjdaaaGreatDoor
