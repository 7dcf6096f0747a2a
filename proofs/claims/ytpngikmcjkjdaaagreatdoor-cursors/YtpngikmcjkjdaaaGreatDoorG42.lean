import Derived.Test.YtpngikmcjkjdaaaGreatDoorG0
import Derived.Deep.Slices
import Derived.OpenShut
import Derived.SizedLaws
import Derived.Test.YtpngikmcjkjdaaaGreatDoorG38
import Derived.Test.YtpngikmcjkjdaaaGreatDoorG39
import Derived.Test.YtpngikmcjkjdaaaGreatDoorG40
set_option linter.unusedVariables false
set_option linter.unusedSimpArgs false
set_option maxRecDepth 20000
set_option maxHeartbeats 80000000
namespace Go.Proofs.YtpngikmcjkjdaaaGreatDoor
open Go.RowKit Tryz
open Go.RowKit Go.ChangeShapes Go.WideShapes Go.Deep
section
variable {H:Type} {enc:TypeId×Value->H} {P:Program} {w:World} {base:Nat} {spare:Nat->Bool} {held:Bool}
theorem to_ {t:TypeId}{f0 f1 f2 f3 f4 f5 f6:Field}{fuel:Nat}{cs:List Value}{x:DataW H×List MemPlace}(ht:P.underlying t=some (.struct #[f0,f1,f2,f3,f4,f5,f6]))(h:DataW.trod enc P w base spare held fuel t cs=some x):
 ∃y0 y1 y2 y3 y4 y5 y6 n,x.1= .agg [y0.1,y1.1,y2.1,y3.1,y4.1,y5.1,y6.1]/\cs.length=P.cellsOf t/\DataW.trod enc P w base spare held n f0.type ((cs.drop f0.offset).take (P.cellsOf f0.type))=some y0/\
  DataW.trod enc P w base spare held n f1.type ((cs.drop f1.offset).take (P.cellsOf f1.type))=some y1/\DataW.trod enc P w base spare held n f2.type ((cs.drop f2.offset).take (P.cellsOf f2.type))=some y2/\
  DataW.trod enc P w base spare held n f3.type ((cs.drop f3.offset).take (P.cellsOf f3.type))=some y3/\DataW.trod enc P w base spare held n f4.type ((cs.drop f4.offset).take (P.cellsOf f4.type))=some y4/\
  DataW.trod enc P w base spare held n f5.type ((cs.drop f5.offset).take (P.cellsOf f5.type))=some y5/\DataW.trod enc P w base spare held n f6.type ((cs.drop f6.offset).take (P.cellsOf f6.type))=some y6:=by
 obtain⟨xs,n,_,rfl,hl,hlen,hf⟩:=DataW.trod_struct ht h;match xs,hlen with
 | [y0,y1,y2,y3,y4,y5,y6],_=>exact⟨y0,y1,y2,y3,y4,y5,y6,n,i_,hl,by simpa using hf 0 f0 rfl,by simpa using hf 1 f1 rfl,by simpa using hf 2 f2 rfl,by simpa using hf 3 f3 rfl,by simpa using hf 4 f4 rfl,by simpa using hf 5 f5 rfl,by simpa using hf 6 f6 rfl⟩
theorem ux_ {P:Program}{e:TypeId}:∀(l:List (DataW H)) (d:DataW H),d∈l->∀n∈d.weights P e,n∈DataW.weightsAll P e l:=by
 intro l;induction l with
 |nil=>intro d hd;simp at hd
 |cons x l ih=>
  intro d hd n hn;simp only[DataW.weightsAll,List.mem_append];simp only[List.mem_cons]at hd;rcases hd with rfl|hd
  . exact .inl hn
  . exact .inr (ih d hd n hn)
end
theorem iy_ (b o n:Nat):(⟨b,o,none⟩:Addr).add n=⟨b,o+n,none⟩:=by unfold Addr.add;split<;>simp_all
theorem qv_ {W:World}{a:Addr}{v:Value}(h:W.cell? a=some v):a.spot=none:=World.cell?_spot h
theorem jk_:prog.cellsOf 33=7:=k_
theorem lb_:prog.cellsOf 3=1:=k_
theorem xe_:prog.cellsOf 9=1:=k_
theorem uy_:prog.cellsOf 24=1:=k_
theorem z1_:prog.bytesOf 33=80:=k_
theorem xf_:prog.bytesOf 3=8:=k_
structure m1_ where
 (kd fa fb fc fd:Int)
 (st:ByteArray)
 (lo:Option Addr)
 (ll lc:Nat)
 (z:Nat->Int)
structure m1_.At (w:World)(b o:Nat)(r:m1_):Prop where
 c0:w.cell? ⟨b,o,none⟩=some (.int .i64 r.kd)
 c1:w.cell? ⟨b,o+1,none⟩=some (.int .i64 r.fa)
 c2:w.cell? ⟨b,o+2,none⟩=some (.int .i64 r.fb)
 c3:w.cell? ⟨b,o+3,none⟩=some (.int .i64 r.fc)
 c4:w.cell? ⟨b,o+4,none⟩=some (.int .i64 r.fd)
 c5:w.cell? ⟨b,o+5,none⟩=some (.string r.st)
 c6:w.cell? ⟨b,o+6,none⟩=some (.slice r.lo r.ll r.lc)
 ra: -9223372036854775808<=r.fa/\r.fa<=9223372036854775807
 rb: -9223372036854775808<=r.fb/\r.fb<=9223372036854775807
 rc: -9223372036854775808<=r.fc/\r.fc<=9223372036854775807
 str:r.st.size<=maxLen
 lst:jf_ w r.lo r.ll r.z
theorem acv_ {H:Type}{enc:TypeId×Value->H}{W:World}{ao:Option Addr}{len cap:Nat}{d:DataW H}{p:List MemPlace}{ts:List TypeId}{ds:List (DataW H)}
 (h:DataW.Trod enc prog W 0 (fun _=>true) true 22 (.slice ao len cap) d p) (hr:(DataW.weightsEach prog ts ds).all (·<=reachBytes)=true) (ht:ts[0]? =some 22) (hd:ds[0]? =some d):
 ∃r:Nat->m1_,len<=4398046511104/\∀i,i<len->∃b o,ao=some ⟨b,o,none⟩/\(r i).At W b (o+i*7):=by
 obtain⟨fuel,hf⟩:=h;rcases open_slice underlying22 hf with ⟨hcs,_⟩|⟨a,l,c,m,n,D,Pl,hcs,_,hl,hm,hmm,hx,hall⟩
 . simp[Value.cells]at hcs;obtain⟨rfl,rfl,rfl⟩:=hcs;exact⟨fun _=>⟨0,0,0,0,0,⟨#[]⟩,none,0,0,fun _=>0⟩,o_,fun i hi=>absurd hi o_⟩
 . simp[Value.cells]at hcs;obtain⟨rfl,rfl,rfl⟩:=hcs;simp only[Prod.mk.injEq]at hx;obtain⟨rfl,rfl⟩:=hx;have hb:=sized_slice hr ht hd underlying22;rw[z1_]at hb;simp only[List.length_map,List.length_range]at hb;have hrb:=reachBytes_lt;simp only[if_true]at hmm;subst hmm;have hone:∀i,∃r:m1_,i<len->∃b o,a=⟨b,o,none⟩/\r.At W b (o+i*7):=by
    intro i;by_cases hi:i<len
    . obtain⟨cs,hcs,ht2⟩:=hall i o_;obtain⟨_,hcl,hcell⟩:=World.cells?_some hcs;rw[jk_]at hcell hcl;obtain⟨y0,y1,y2,y3,y4,y5,y6,n2,hD,_,t0,t1,t2,t3,t4,t5,t6⟩:=to_ underlying33 ht2;simp only[lb_,xe_,uy_]at t0 t1 t2 t3 t4 t5 t6;match cs,hcl with
      | [v0,v1,v2,v3,v4,v5,v6],_=>
       simp only[List.drop,List.take]at t0 t1 t2 t3 t4 t5 t6;obtain⟨k0,e0,_,_⟩:=DataW.trod_int underlying3 t0;obtain⟨k1,e1,_,w1⟩:=DataW.trod_int underlying3 t1;obtain⟨k2,e2,_,w2⟩:=DataW.trod_int underlying3 t2;obtain⟨k3,e3,_,w3⟩:=DataW.trod_int underlying3 t3;obtain⟨k4,e4,_,w4⟩:=DataW.trod_int underlying3 t4;obtain⟨s5,e5,_,w5⟩:=DataW.trod_string underlying9 t5;simp only[List.cons.injEq,and_true]at e0 e1 e2 e3 e4 e5;subst e0;subst e1;subst e2;subst e3;subst e4;subst e5;obtain⟨ab,ao,spot⟩:=a;have hspot:spot=none:=by
        obtain⟨cs0,hcs0,_⟩:=hall 0 o_;obtain⟨_,hl0,hc0⟩:=World.cells?_some hcs0;rw[jk_]at hl0 hc0;have h00:=hc0 0 o_;rw[List.getElem?_eq_getElem (show 0<cs0.length by omega),Nat.zero_mul]at h00;exact qv_ (a:=⟨ab,ao,spot⟩) (by simpa [Addr.add] using h00)
       subst hspot;have hadd:∀j,((⟨ab,ao,none⟩:Addr).add (i*prog.cellsOf 33)).add j=⟨ab,ao+i*7+j,none⟩:=fun j=>by rw[jk_,iy_,iy_]
       have hc:∀j,j<7->W.cell? ⟨ab,ao+i*7+j,none⟩=[Value.int .i64 k0,.int .i64 k1,.int .i64 k2,.int .i64 k3,.int .i64 k4,.string s5,v6][j]? :=fun j hj=>by rw[<-hadd j,jk_];exact hcell j hj
       obtain⟨lo,ll,lc,z,rfl,hL⟩:∃lo ll lc z,v6= .slice lo ll lc/\jf_ W lo ll z:=by
        rcases open_slice underlying24 t6 with ⟨h6,_⟩|⟨a6,l6,c6,m6,n6,D6,P6,h6,_,hl6,hm6,hmm6,hx6,hall6⟩
        . simp only[List.cons.injEq,and_true]at h6;exact⟨none,0,0,fun _=>0,h6,o_,fun t ht=>absurd ht o_⟩
        . simp only[List.cons.injEq,and_true]at h6;simp only[if_true]at hmm6;subst hmm6;have hy6:y6.1= .slice ((List.range l6).map D6) ((List.range (m6 - l6)).map fun j=>D6 (l6+j)):=by rw[hx6]
          have hwt:(l6+(m6 - l6))*prog.bytesOf 3∈DataW.weightsEach prog ts ds:=by
           refine DataW.weights_mem_each ht hd _ ?_;simp only[DataW.weights,underlying22,List.mem_cons,List.mem_append];right;left;refine ux_ _ (D i) (List.mem_map.2 ⟨i,by simpa using hi,rfl⟩) _ ?_;have hD':D i= .agg [y0.1,y1.1,y2.1,y3.1,y4.1,y5.1,y6.1]:=hD;rw[hD',hy6];simp[DataW.weights,DataW.weightsEach,underlying33,underlying24]
          have hle:=of_decide_eq_true (List.all_eq_true.1 hr _ hwt);rw[xf_]at hle;refine⟨some a6,l6,m6,fun t=>match W.cell? (a6.add t)with|some (.int .i64 x)=>x|_=>0,h6,o_,fun t ht=> ?_⟩;obtain⟨cs6,hcs6,ht6⟩:=hall6 t o_;rw[lb_,Nat.mul_one]at hcs6;obtain⟨_,hl7,hcell6⟩:=World.cells?_some hcs6;obtain⟨x,hx,_,_⟩:=DataW.trod_int underlying3 ht6;subst hx;have h7:=hcell6 0 o_;obtain⟨b6,o6,spot6⟩:=a6;have hsp6:spot6=none:=by
           obtain⟨cs0,hcs0,_⟩:=hall6 0 o_;obtain⟨_,hl0,hc0⟩:=World.cells?_some hcs0;rw[lb_]at hl0 hc0;have h00:=hc0 0 o_;rw[List.getElem?_eq_getElem (show 0<cs0.length by omega),Nat.zero_mul]at h00;exact qv_ (a:=⟨b6,o6,spot6⟩) (by simpa [Addr.add] using h00)
          subst hsp6;refine⟨b6,o6,rfl, ?_⟩;have ea:((⟨b6,o6,none⟩:Addr).add t)=⟨b6,o6+t,none⟩:=iy_ _ _ _;have eb:((⟨b6,o6,none⟩:Addr).add t).add 0=⟨b6,o6+t,none⟩:=by rw[iy_,iy_,Nat.add_zero]
          rw[eb]at h7;rw[ea,h7];rfl
       refine⟨⟨k0,k1,k2,k3,k4,s5,lo,ll,lc,z⟩,fun _=>⟨ab,ao,rfl,by simpa using hc 0 o_,by simpa using hc 1 o_,by simpa using hc 2 o_,by simpa using hc 3 o_,by simpa using hc 4 o_,by simpa using hc 5 o_,by simpa using hc 6 o_,bounds_i64 w1,bounds_i64 w2,bounds_i64 w3,w5,hL⟩⟩
    . exact⟨⟨0,0,0,0,0,⟨#[]⟩,none,0,0,fun _=>0⟩,fun h=>absurd h hi⟩
   obtain⟨f,hfun⟩:=Classical.skolem.1 hone;refine⟨f,o_,fun i hi=> ?_⟩;obtain⟨b,o,rfl,h⟩:=hfun i hi;exact⟨b,o,rfl,h⟩
theorem afj_ {w:World}{ao:Option Addr}{len:Nat}{r:Nat->m1_}(hlen:len<=4398046511104)(h:∀i,i<len->∃b o,ao=some ⟨b,o,none⟩/\(r i).At w b (o+i*7)):
 o1_ w ao len (fun i=>(r i).kd) (fun i=>(r i).fa) (fun i=>(r i).fb) (fun i=>(r i).fc) (fun i=>(r i).fd) (fun i=>(r i).st) (fun i=>(r i).lo) (fun i=>(r i).ll) (fun i=>(r i).lc) (fun i=>(r i).z) where
 ln:=hlen
 cel i hi:=by
  obtain⟨b,o,e,a⟩:=h i hi;exact⟨b,o,e,a.c0,a.c1,a.c2,a.c3,a.c4,a.c5,a.c6⟩
 ra i hi:=by obtain⟨b,o,e,a⟩:=h i hi;exact a.ra
 rb i hi:=by obtain⟨b,o,e,a⟩:=h i hi;exact a.rb
 rc i hi:=by obtain⟨b,o,e,a⟩:=h i hi;exact a.rc
 str i hi:=by obtain⟨b,o,e,a⟩:=h i hi;exact a.str
 lst i hi:=by obtain⟨b,o,e,a⟩:=h i hi;exact a.lst
theorem tp_ (W0:Fw)(w:World)(bw:Nat)(vts:Value)(hs:List Hd)(hw:WdAt W0 w bw vts hs)(hn:hs.length<=4398046511104)(a b c d:Int)(s:ByteArray)(lo:Option Addr)(ll lc:Nat)(hss:s.size<=maxLen):
 Calls prog 18 #[.pointer (some ⟨bw,0,none⟩),.agg #[.int .i64 8,.int .i64 a,.int .i64 b,.int .i64 c,.int .i64 d,.string s,.slice lo ll lc]] w
  (fun e w'=>f7_ W0 bw hs.length e w'/\Kept bw vts w w'):=by
 obtain⟨W2,hW2,BW2,-,-⟩:=nw__ w #[.int .i64 8,.int .i64 a,.int .i64 b,.int .i64 c,.int .i64 d,.string s,.slice lo ll lc] 33;have hWs:W2.heap.size=w.heap.size+1:=by rw[hW2];simp
 have b0:=hn__ hW2;obtain⟨x0,x1,x2,_,_,x5,_⟩:=bn_ b0;have hw2:=hw.below BW2;go_enter func18,ntmps18;go_upto_region 1 with fail;rw[<-hW2];clear hW2;cases hje:gg_ s a with
 |none=>
  obtain⟨p,t,hp,hta,hbk,hpz,hs40,ha1,ha2⟩:=sz_ hje;obtain⟨bu,rfl⟩:∃n:Nat,a=(n:Int):=⟨a.toNat,o_⟩;clear hje;have HCO:Hid (∀w1,Calls prog 30 #[.string s,.int .i64 (bu:Int)] w1 fun e w'=>∃n,nt_ (patL p) bu n w1 e w'):=fun w1=>wp_ s bu w1 hp hta hbk hpz hs40 o_ o_
  have HCR:Hid (∀w1,Calls prog 31 #[.string s,.int .i64 (bu:Int)] w1 (qu_ (patL p) bu w1)):=fun w1=>ut_ s bu w1 hp hta hbk hpz hs40 o_ o_
  obtain⟨L,HL⟩:=hx__ (patL p);rw[HL.out]at HCO HCR;clear hp hta hbk hpz hs40 HL;have HC:=HCO.out W2;go_wp2_with fail;refine HC.mono ?_;clear HC x0 x1 x2 x5;rintro e w6 ⟨n,v,er,rfl,hB6,⟨R,Vr,hR,hRd,hev,hTr,hFr,hFs⟩|⟨hev,hbud,hRn⟩⟩
  . obtain⟨rfl,rfl⟩:v=_/\er=_:=by simpa using hev
    clear hev;have hs6:=hB6.size;go_upto_region 6 with fail;obtain⟨W6,hW6,bW6,sW6,qW6⟩:=nw__ w6 #[.slice (some ⟨Vr.ba,Vr.oa,none⟩) R.n Vr.ca,.slice (some ⟨Vr.bn,Vr.on,none⟩) R.n Vr.cn] 41;rw[<-hW6];clear hW6;have B6:Below W2.heap.size W2 W6:=hB6.trans (bW6.mono o_);obtain⟨z0,z1,z2,_,_,z5,_⟩:=bn_ ((B6.block _ o_).trans b0);have HC2:=HCR.out W6;have HR:Hid _:=hR;have HTr:Hid _:=hTr;have HFr:Hid (Vr.From W2.heap.size R.n):=hFr;have HFs:Hid _:=hFs;clear hR hTr hFr hFs;go_wp2_with fail;refine HC2.mono ?_;clear HC2;rintro e w7 ⟨hB7,⟨U,Q,hQ,hQd,rfl,hU⟩|⟨rfl,Q,hQ,hQd⟩⟩
    . have hs7:=hB7.size;go_upto_region 7 with fail;obtain⟨W7,hW7,bW7,sW7,qW7⟩:=nw__ w7 #[.slice (some ⟨U.ba,U.oa,none⟩) Q.n U.ca,.slice (some ⟨U.bn,U.on,none⟩) Q.n U.cn] 41;rw[<-hW7];clear hW7;have BC:Below W6.heap.size W6 W7:=hB7.trans (bW7.mono o_);have BB:Below W2.heap.size W2 W7:=B6.trans (BC.mono o_);obtain⟨f0,f1,_,_⟩:=aa_ ((BC.block _ o_).trans qW6);obtain⟨g0,g1,_,_⟩:=aa_ qW7;have BD:Below w6.heap.size w6 W7:=bW6.trans (BC.mono o_);have HC3:=tn_ W0 W2 W7 bw vts hs hw2 BB hn Vr U R Q L HR.out hQ (HTr.out.below BD) (HFs.out.below BD) HFr.out (hU.below bW7) o_;clear z0 z1 z2 z5 BC BD hB7 bW7 bW6 qW6 qW7 hQ HR HTr HFr HFs hU;go_wp2_with fail;refine HC3.mono ?_;clear HC3;rintro e w8 ⟨⟨rfl,vts',hs',hW',hl'⟩,hK⟩;have HF:Hid _:=hW';have HK:Hid (Kept bw vts w w8):=Kept.from BW2 hK
      clear hK;clear hW' f0 f1 g0 g1;go_wp2_with fail;go_ret;exact⟨⟨rfl,vts',hs',HF.out,hl'⟩,HK.out⟩
    . exfalso;have:=(i1_ HR.out hQ).n;omega
  . obtain⟨rfl,rfl⟩:v=_/\er=_:=by simpa using hev
    clear hev;have hs6:=hB6.size;go_upto_region 6 with fail;obtain⟨W6,hW6,bW6,sW6,qW6⟩:=nw__ w6 #[.slice none 0 0,.slice none 0 0] 41;rw[<-hW6];clear hW6;have B6:Below W2.heap.size W2 W6:=hB6.trans (bW6.mono o_);obtain⟨z0,z1,z2,_,_,z5,_⟩:=bn_ ((B6.block _ o_).trans b0);have HC2:=HCR.out W6;have HRN:Hid _:=hRn;clear hRn;go_wp2_with fail;refine HC2.mono ?_;clear HC2;rintro e w7 ⟨hB7,⟨U,Q,hQ,hQd,rfl,hU⟩|⟨rfl,Q,hQ,hQd⟩⟩
    . exfalso;have:=HRN.out Q hQ;omega
    . have hs7:=hB7.size;go_upto_region 7 with fail;obtain⟨W7,hW7,bW7,sW7,qW7⟩:=nw__ w7 #[.slice none 0 0,.slice none 0 0] 41;rw[<-hW7];clear hW7;have BC:Below W6.heap.size W6 W7:=hB7.trans (bW7.mono o_);have BB:Below W2.heap.size W2 W7:=B6.trans (BC.mono o_);obtain⟨f0,f1,_,_⟩:=aa_ ((BC.block _ o_).trans qW6);obtain⟨g0,g1,_,_⟩:=aa_ qW7;have HC3:=jj_ bw 5 W7 d_;clear z0 z1 z2 z5 BC hB7 bW7 qW6 qW7;go_wp2_with fail;refine HC3.mono ?_;clear HC3;rintro e w8 ⟨rfl,hB8⟩;have HF:Hid (WdAt W0 w8 bw vts hs):=hw2.below (BB.trans (hB8.mono o_));have HK:Hid (Kept bw vts w w8):=Kept.from BW2 (Kept.of_below (BB.trans (hB8.mono o_)))
      clear hB8 BB f0 f1 g0 g1;go_wp2_with fail;go_ret;exact⟨⟨rfl,_,_,HF.out,o_⟩,HK.out⟩
 |some v=>
  obtain⟨er,pl⟩:=v;have HC:=wq_ s a W2 hss hje;have HCR:Hid (∀w1,Calls prog 31 #[.string s,.int .i64 a] w1 (ew_ er pl w1)):=fun w1=>us_ s a w1 hss hje
  have her:er≠0:=by
   rcases li_ hje with ⟨_,rfl,_⟩|⟨_,_,rfl⟩|⟨_,_,_,_,_,⟨_,rfl,_⟩|⟨_,_,rfl,_⟩|⟨_,_,_,rfl,_⟩⟩<;>decide
  clear hje;go_wp2_with fail;refine HC.mono ?_;clear HC x0 x1 x2 x5;rintro e w6 ⟨rfl,hB6⟩;have hs6:=hB6.size;go_upto_region 6 with fail;obtain⟨W6,hW6,bW6,sW6,qW6⟩:=nw__ w6 #[.slice none 0 0,.slice none 0 0] 41;rw[<-hW6];clear hW6;have B6:Below W2.heap.size W2 W6:=hB6.trans (bW6.mono o_);obtain⟨z0,z1,z2,_,_,z5,_⟩:=bn_ ((B6.block _ o_).trans b0);have HC2:=HCR.out W6;go_wp2_with fail;refine HC2.mono ?_;clear HC2;rintro e w7 ⟨rfl,hB7⟩;have hs7:=hB7.size;go_upto_region 7 with fail;obtain⟨W7,hW7,bW7,sW7,qW7⟩:=nw__ w7 #[.slice none 0 0,.slice none 0 0] 41;rw[<-hW7];clear hW7;have BC:Below W6.heap.size W6 W7:=hB7.trans (bW7.mono o_);have BB:Below W2.heap.size W2 W7:=B6.trans (BC.mono o_);obtain⟨f0,f1,_,_⟩:=aa_ ((BC.block _ o_).trans qW6);obtain⟨g0,g1,_,_⟩:=aa_ qW7;have HC3:=jj_ bw er W7 her;clear z0 z1 z2 z5 BC hB7 bW7 qW6 qW7;go_wp2_with fail;refine HC3.mono ?_;clear HC3;rintro e w8 ⟨rfl,hB8⟩;have HF:Hid (WdAt W0 w8 bw vts hs):=hw2.below (BB.trans (hB8.mono o_));have HK:Hid (Kept bw vts w w8):=Kept.from BW2 (Kept.of_below (BB.trans (hB8.mono o_)))
  clear hB8 BB f0 f1 g0 g1;go_wp2_with fail;go_ret;exact⟨⟨rfl,_,_,HF.out,o_⟩,HK.out⟩
theorem tq_ (W0:Fw)(w:World)(bw:Nat)(vts:Value)(hs:List Hd)(h:WdAt W0 w bw vts hs)(a b c d:Int)(s:ByteArray)(lo:Option Addr)(ll lc:Nat)(hn:hs.length<=4398046511104)(hss:s.size<=maxLen):
 Calls prog 12 #[.pointer (some ⟨bw,0,none⟩),.agg #[.int .i64 8,.int .i64 a,.int .i64 b,.int .i64 c,.int .i64 d,.string s,.slice lo ll lc]] w (f7_ W0 bw hs.length):=by
 obtain⟨W,hW,BW,-,b0⟩:=nw__ w #[.int .i64 8,.int .i64 a,.int .i64 b,.int .i64 c,.int .i64 d,.string s,.slice lo ll lc] 33;have h1:=h.below BW;obtain⟨x0,x1,x2,x3,x4,x5,x6⟩:=bn_ b0;have HQ:=tp_ W0 W bw vts hs h1 hn a b c d s lo ll lc hss;clear h h1;go_enter func12,ntmps12;go_upto_region 1 with fail;rw[<-hW];clear hW;go_wp2_with fail;refine HQ.mono ?_;clear HQ;rintro e w1 ⟨⟨rfl,hT⟩,_⟩;have HT:Hid _:=hT;clear hT;go_wp2_with fail;go_ret;exact⟨rfl,HT.out⟩
theorem z2_ (W0:Fw)(w:World)(bw:Nat)(vts:Value)(hs:List Hd)(hw:WdAt W0 w bw vts hs)(hn:hs.length<=4398046511104)(a b c d:Int)(s:ByteArray)(lo:Option Addr)(ll lc:Nat)(hss:s.size<=maxLen):
 Calls prog 18 #[.pointer (some ⟨bw,0,none⟩),.agg #[.int .i64 9,.int .i64 a,.int .i64 b,.int .i64 c,.int .i64 d,.string s,.slice lo ll lc]] w
  (fun e w'=>f7_ W0 bw hs.length e w'/\Kept bw vts w w'):=by
 obtain⟨W2,hW2,BW2,-,-⟩:=nw__ w #[.int .i64 9,.int .i64 a,.int .i64 b,.int .i64 c,.int .i64 d,.string s,.slice lo ll lc] 33;have hWs:W2.heap.size=w.heap.size+1:=by rw[hW2];simp
 have b0:=hn__ hW2;obtain⟨x0,x1,x2,_,_,x5,_⟩:=bn_ b0;have hw2:=hw.below BW2;go_enter func18,ntmps18;go_upto_region 1 with fail;rw[<-hW2];clear hW2;by_cases hje:em_ s a b=0
 . have hj:=hje;unfold em_ at hj;cases htt:(decide (s.size<=12)&&ba_ s s.size)
   . rw[htt]at hj;simp at hj
   rw[htt]at hj;simp only[Bool.true_eq_false,if_false]at hj;have ha:0<=a/\a<=2:=by
    refine Classical.byContradiction (fun hn'=> ?_);rw[if_pos o_]at hj;omega
   rw[if_neg o_]at hj;have hb:1<=b/\b<=40:=by
    refine Classical.byContradiction (fun hn'=> ?_);rw[if_pos o_]at hj;omega
   have hs12:s.size<=12:=by simp at htt;exact htt.1
   have ht:ed_ s:=(ek_ s).1 (by simp at htt;exact htt.2);obtain⟨most,rfl⟩:∃n:Nat,a=(n:Int):=⟨a.toNat,o_⟩;obtain⟨bu,rfl⟩:∃n:Nat,b=(n:Int):=⟨b.toNat,o_⟩;clear hj hje htt;have HC:=aej_ s most bu W2 hs12 o_ ht o_ o_;go_wp2_with fail;refine HC.mono ?_;clear HC x0 x1 x2 x5;rintro e w6 ⟨n,hB6,⟨R,Vr,hR,hRd,rfl,hTr,hFr,hFs⟩|⟨rfl,hbud,hRn⟩⟩
   . have hs6:=hB6.size;go_upto_region 3 with fail;obtain⟨W6,hW6,bW6,sW6,qW6⟩:=nw__ w6 #[.slice (some ⟨Vr.ba,Vr.oa,none⟩) R.n Vr.ca,.slice (some ⟨Vr.bn,Vr.on,none⟩) R.n Vr.cn] 41;rw[<-hW6];clear hW6;have B6:Below W2.heap.size W2 W6:=hB6.trans (bW6.mono o_);obtain⟨z0,z1,z2,_,_,z5,_⟩:=bn_ ((B6.block _ o_).trans b0);have HC2:=o0_ s most bu W6 hs12 o_ ht o_ o_;have HR:Hid _:=hR;have HTr:Hid _:=hTr;have HFr:Hid (Vr.From W2.heap.size R.n):=hFr;have HFs:Hid _:=hFs;clear hR hTr hFr hFs;go_wp2_with fail;refine HC2.mono ?_;clear HC2;rintro e w7 ⟨hB7,⟨U,Q,hQ,hQd,rfl,hU⟩|⟨rfl,Q,hQ,hQd⟩⟩
     . have hs7:=hB7.size;go_upto_region 4 with fail;obtain⟨W7,hW7,bW7,sW7,qW7⟩:=nw__ w7 #[.slice (some ⟨U.ba,U.oa,none⟩) Q.n U.ca,.slice (some ⟨U.bn,U.on,none⟩) Q.n U.cn] 41;rw[<-hW7];clear hW7;have BC:Below W6.heap.size W6 W7:=hB7.trans (bW7.mono o_);have BB:Below W2.heap.size W2 W7:=B6.trans (BC.mono o_);obtain⟨f0,f1,_,_⟩:=aa_ ((BC.block _ o_).trans qW6);obtain⟨g0,g1,_,_⟩:=aa_ qW7;have BD:Below w6.heap.size w6 W7:=bW6.trans (BC.mono o_);have HC3:=tn_ W0 W2 W7 bw vts hs hw2 BB hn Vr U R Q (Ear.lang ⟨ay_ s,s.size,most⟩) HR.out hQ (HTr.out.below BD) (HFs.out.below BD) HFr.out (hU.below bW7) o_;clear z0 z1 z2 z5 BC BD hB7 bW7 bW6 qW6 qW7 hQ HR HTr HFr HFs hU;go_wp2_with fail;refine HC3.mono ?_;clear HC3;rintro e w8 ⟨⟨rfl,vts',hs',hW',hl'⟩,hK⟩;have HF:Hid _:=hW';have HK:Hid (Kept bw vts w w8):=Kept.from BW2 hK
       clear hK;clear hW' f0 f1 g0 g1;go_wp2_with fail;go_ret;exact⟨⟨rfl,vts',hs',HF.out,hl'⟩,HK.out⟩
     . exfalso;have:=(i1_ HR.out hQ).n;omega
   . have hs6:=hB6.size;go_upto_region 3 with fail;obtain⟨W6,hW6,bW6,sW6,qW6⟩:=nw__ w6 #[.slice none 0 0,.slice none 0 0] 41;rw[<-hW6];clear hW6;have B6:Below W2.heap.size W2 W6:=hB6.trans (bW6.mono o_);obtain⟨z0,z1,z2,_,_,z5,_⟩:=bn_ ((B6.block _ o_).trans b0);have HC2:=o0_ s most bu W6 hs12 o_ ht o_ o_;have HRN:Hid _:=hRn;clear hRn;go_wp2_with fail;refine HC2.mono ?_;clear HC2;rintro e w7 ⟨hB7,⟨U,Q,hQ,hQd,rfl,hU⟩|⟨rfl,Q,hQ,hQd⟩⟩
     . exfalso;have:=HRN.out Q hQ;omega
     . have hs7:=hB7.size;go_upto_region 4 with fail;obtain⟨W7,hW7,bW7,sW7,qW7⟩:=nw__ w7 #[.slice none 0 0,.slice none 0 0] 41;rw[<-hW7];clear hW7;have BC:Below W6.heap.size W6 W7:=hB7.trans (bW7.mono o_);have BB:Below W2.heap.size W2 W7:=B6.trans (BC.mono o_);obtain⟨f0,f1,_,_⟩:=aa_ ((BC.block _ o_).trans qW6);obtain⟨g0,g1,_,_⟩:=aa_ qW7;have HC3:=jj_ bw 5 W7 d_;clear z0 z1 z2 z5 BC hB7 bW7 qW6 qW7;go_wp2_with fail;refine HC3.mono ?_;clear HC3;rintro e w8 ⟨rfl,hB8⟩;have HF:Hid (WdAt W0 w8 bw vts hs):=hw2.below (BB.trans (hB8.mono o_));have HK:Hid (Kept bw vts w w8):=Kept.from BW2 (Kept.of_below (BB.trans (hB8.mono o_)))
       clear hB8 BB f0 f1 g0 g1;go_wp2_with fail;go_ret;exact⟨⟨rfl,_,_,HF.out,o_⟩,HK.out⟩
 . have HC:=aek_ s a b W2 hss hje;obtain⟨er,HE⟩:=hx__ (em_ s a b);have her:er≠0:=by rw[<-HE.out];exact hje
   rw[HE.out]at HC;go_wp2_with fail;refine HC.mono ?_;clear HC x0 x1 x2 x5;rintro e w6 ⟨rfl,hB6⟩;have hs6:=hB6.size;go_upto_region 3 with fail;obtain⟨W6,hW6,bW6,sW6,qW6⟩:=nw__ w6 #[.slice none 0 0,.slice none 0 0] 41;rw[<-hW6];clear hW6;have B6:Below W2.heap.size W2 W6:=hB6.trans (bW6.mono o_);obtain⟨z0,z1,z2,_,_,z5,_⟩:=bn_ ((B6.block _ o_).trans b0);have HC2:=w8_ s a b W6 hss hje;rw[HE.out]at HC2;clear hje;go_wp2_with fail;refine HC2.mono ?_;clear HC2;rintro e w7 ⟨rfl,hB7⟩;have hs7:=hB7.size;go_upto_region 4 with fail;obtain⟨W7,hW7,bW7,sW7,qW7⟩:=nw__ w7 #[.slice none 0 0,.slice none 0 0] 41;rw[<-hW7];clear hW7;have BC:Below W6.heap.size W6 W7:=hB7.trans (bW7.mono o_);have BB:Below W2.heap.size W2 W7:=B6.trans (BC.mono o_);obtain⟨f0,f1,_,_⟩:=aa_ ((BC.block _ o_).trans qW6);obtain⟨g0,g1,_,_⟩:=aa_ qW7;have HC3:=jj_ bw er W7 her;clear z0 z1 z2 z5 BC hB7 bW7 qW6 qW7;go_wp2_with fail;refine HC3.mono ?_;clear HC3;rintro e w8 ⟨rfl,hB8⟩;have HF:Hid (WdAt W0 w8 bw vts hs):=hw2.below (BB.trans (hB8.mono o_));have HK:Hid (Kept bw vts w w8):=Kept.from BW2 (Kept.of_below (BB.trans (hB8.mono o_)))
   clear hB8 BB f0 f1 g0 g1;go_wp2_with fail;go_ret;exact⟨⟨rfl,_,_,HF.out,o_⟩,HK.out⟩
theorem z3_ (W0:Fw)(w:World)(bw:Nat)(vts:Value)(hs:List Hd)(h:WdAt W0 w bw vts hs)(a b c d:Int)(s:ByteArray)(lo:Option Addr)(ll lc:Nat)(hn:hs.length<=4398046511104)(hss:s.size<=maxLen):
 Calls prog 12 #[.pointer (some ⟨bw,0,none⟩),.agg #[.int .i64 9,.int .i64 a,.int .i64 b,.int .i64 c,.int .i64 d,.string s,.slice lo ll lc]] w (f7_ W0 bw hs.length):=by
 obtain⟨W,hW,BW,-,b0⟩:=nw__ w #[.int .i64 9,.int .i64 a,.int .i64 b,.int .i64 c,.int .i64 d,.string s,.slice lo ll lc] 33;have h1:=h.below BW;obtain⟨x0,x1,x2,x3,x4,x5,x6⟩:=bn_ b0;have HQ:=z2_ W0 W bw vts hs h1 hn a b c d s lo ll lc hss;clear h h1;go_enter func12,ntmps12;go_upto_region 1 with fail;rw[<-hW];clear hW;go_wp2_with fail;refine HQ.mono ?_;clear HQ;rintro e w1 ⟨⟨rfl,hT⟩,_⟩;have HT:Hid _:=hT;clear hT;go_wp2_with fail;go_ret;exact⟨rfl,HT.out⟩
end Go.Proofs.YtpngikmcjkjdaaaGreatDoor
