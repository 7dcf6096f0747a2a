import Derived.Test.YtpngikmcjkjdaaaGreatDoorG0
import Derived.Test.YtpngikmcjkjdaaaGreatDoorG15
import Derived.Test.YtpngikmcjkjdaaaGreatDoorG26
import Derived.Test.YtpngikmcjkjdaaaGreatDoorG27
import Derived.Test.YtpngikmcjkjdaaaGreatDoorG8
set_option linter.unusedVariables false
set_option linter.unusedSimpArgs false
set_option maxRecDepth 20000
set_option maxHeartbeats 80000000
namespace Go.Proofs.YtpngikmcjkjdaaaGreatDoor
open Go.RowKit Tryz
def adb_ (k:Nat):Prop:=∀(bp:Nat) (s:ByteArray) (t:Sp) (vn:Value) (L:List Nd) (w:World) (d:Int),d=6 - (k:Int)->s.size<=40->t.a<=s.size->L.length+4*(s.size - t.a)<=900->ParM w bp s t vn L->
 Calls prog 184 #[.pointer (some ⟨bp,0,none⟩),.int .i64 d] w (cm_ bp s L (4*(s.size - t.a)- 1) (ep_ s (by_ s k) t) w)
theorem gf_ {s:ByteArray}{k a b x:Nat}(hk:k<=6)(hs:s.size<=40)(hb:b<=s.size)(h:x<=(b - a)*10^k):x<=40000000:=by
 have h1:10^k<=10^6:=Nat.pow_le_pow_right o_ hk;have h2:(b - a)*10^k<=40*10^6:=Nat.mul_le_mul o_ h1;omega
theorem cm_.rep {bp:Nat}{s:ByteArray}{t t1 t':Sp}{L M:List Nd}{i lo co:Nat}{en:Bool}{p:Pat}{d1:Nd}{w w1 w2:World}{e:Ending}(hb:Below bp w w1)(hN:be_ (L++M) i p)(hd:(L++M)[i]? =some d1)(hsz:d1.size=p.size)(hlen:M.length+4*(s.size - t1.a)<=4*(s.size - t.a)- 2)(ha:g7_ bp s t' (L++M) ⟨4,d1.size*co,fun _=>false,lo,co,en,i,0⟩ w1 e w2)(h0:t.a<s.size)(h1:t1.a<t'.a)(h2:t'.a<=s.size):
 ∃j:Nat,e= .returned (.int .i64 (j:Int))/\cm_ bp s L (4*(s.size - t.a)- 1) (.ok (.rep p lo co en) t') w (.returned (.tuple #[.int .i64 (j:Int),.bool true])) w2:=by
 obtain⟨rfl,vn',hp,hb2⟩:=ha;refine⟨(L++M).length,rfl,(L++M).length,vn',M++ [⟨4,d1.size*co,fun _=>false,lo,co,en,i,0⟩],rfl,by rw[<-List.append_assoc];exact hp, ?_,s_,hb.trans hb2⟩;rw[<-List.append_assoc];exact .rep (d:=⟨4,d1.size*co,fun _=>false,lo,co,en,i,0⟩) i_ rfl (by rw[hsz]) rfl rfl rfl rfl (hN.app _)
theorem y4_ (k:Nat)(hk:k<=6)(HAT:re_ k):adb_ k:=by
 intro bp s t vn L w d hd hs hta hM hm0;have HA:=HAT bp s t vn L w d hd hs hta hM hm0;clear hd HAT;unfold ep_;cases hr:by_ s k t with
 |no t1=>
  rw[hr]at HA;simp only;clear hr;go_enter func184,ntmps184;go_wp2_with fail;refine HA.mono ?_;clear HA;rintro e w1 ⟨⟨v,rfl⟩,⟨vn1,L1,hm1⟩,hb1⟩;go_wp2_with fail;go_ret2;exact⟨⟨_,rfl⟩,⟨_,_,hm1⟩,hb1⟩
 |ok p t1=>
  rw[hr]at HA;have hgo:=do_ k _ _ _ hr;clear hr;simp only;cases h1:hit s t1.a 42
  rotate_left 1
  . have l1:=cv_ h1;simp only[Bool.false_eq_true,if_false,if_true];go_enter func184,ntmps184;go_wp2_with fail;refine HA.mono ?_;clear HA;rintro e w1 ⟨i,vn1,M,rfl,hm1,hN,hlen,hb1⟩;obtain⟨d1,hd1,hsz⟩:=hN.node;have hdz:d1.size<=1000000000:=by rw[hsz];have:=gf_ hk hs hgo.2.1 hgo.2.2;omega
    have HN:Hid (be_ (L++M) i p):=hN;have HD1:Hid ((L++M)[i]? =some d1):=hd1;have HSZ:Hid (d1.size=p.size):=hsz;have hll:(L++M).length<=1000:=by rw[List.length_append];omega
    clear hN hd1 hsz;have HC2:=bq_ hs h1 hm1.par;go_wp2_with fail;refine HC2.mono ?_;clear HC2;rintro e w2 ⟨rfl,hq2,ht2⟩;have hm2:ParM w2 bp s t1.go vn1 (L++M):=hm1.touched hq2 ht2;have hb2:Below bp w w2:=hb1.trans (ao_ ht2 hm1.lt);clear hq2 ht2;have HC3:=g2_ bp s t1.go vn1 (L++M) i 0 1 true d1 w2 hm2 hll HD1.out hdz o_;simp only[show((0:Nat):Int)=0 from rfl,show((1:Nat):Int)=1 from rfl,show((2:Nat):Int)=2 from rfl]at HC3;go_wp2_with fail;refine HC3.mono ?_;clear HC3;intro e w3 hp3;obtain⟨j,rfl,hf⟩:=cm_.rep (t:=t) hb2 HN.out HD1.out HSZ.out hlen hp3 o_ z_ z_;have HF:Hid _:=hf;clear hf hp3;go_wp2_with fail;go_ret2;exact HF.out
  cases h2:hit s t1.a 43
  rotate_left 1
  . have l1:=cv_ h2;simp only[Bool.false_eq_true,if_false,if_true];go_enter func184,ntmps184;go_wp2_with fail;refine HA.mono ?_;clear HA;rintro e w1 ⟨i,vn1,M,rfl,hm1,hN,hlen,hb1⟩;obtain⟨d1,hd1,hsz⟩:=hN.node;have hdz:d1.size<=1000000000:=by rw[hsz];have:=gf_ hk hs hgo.2.1 hgo.2.2;omega
    have HN:Hid (be_ (L++M) i p):=hN;have HD1:Hid ((L++M)[i]? =some d1):=hd1;have HSZ:Hid (d1.size=p.size):=hsz;have hll:(L++M).length<=1000:=by rw[List.length_append];omega
    clear hN hd1 hsz;have HC2:=aw_ hs h1 hm1.par;go_wp2_with fail;refine HC2.mono ?_;clear HC2;rintro e w2 ⟨rfl,hq2,ht2⟩;have hm2:ParM w2 bp s t1 vn1 (L++M):=hm1.touched hq2 ht2;have hb2:Below bp w w2:=hb1.trans (ao_ ht2 hm1.lt);clear hq2 ht2;have HC3:=bq_ hs h2 hm2.par;go_wp2_with fail;refine HC3.mono ?_;clear HC3;rintro e w3 ⟨rfl,hq3,ht3⟩;have hm3:ParM w3 bp s t1.go vn1 (L++M):=hm2.touched hq3 ht3;have hb3:Below bp w w3:=hb2.trans (ao_ ht3 hm2.lt);clear hq3 ht3;have HC4:=g2_ bp s t1.go vn1 (L++M) i 1 2 true d1 w3 hm3 hll HD1.out hdz o_;simp only[show((0:Nat):Int)=0 from rfl,show((1:Nat):Int)=1 from rfl,show((2:Nat):Int)=2 from rfl]at HC4;go_wp2_with fail;refine HC4.mono ?_;clear HC4;intro e w4 hp4;obtain⟨j,rfl,hf⟩:=cm_.rep (t:=t) hb3 HN.out HD1.out HSZ.out hlen hp4 o_ z_ z_;have HF:Hid _:=hf;clear hf hp4;go_wp2_with fail;go_ret2;exact HF.out
  cases h3:hit s t1.a 63
  rotate_left 1
  . have l1:=cv_ h3;simp only[Bool.false_eq_true,if_false,if_true];go_enter func184,ntmps184;go_wp2_with fail;refine HA.mono ?_;clear HA;rintro e w1 ⟨i,vn1,M,rfl,hm1,hN,hlen,hb1⟩;obtain⟨d1,hd1,hsz⟩:=hN.node;have hdz:d1.size<=1000000000:=by rw[hsz];have:=gf_ hk hs hgo.2.1 hgo.2.2;omega
    have HN:Hid (be_ (L++M) i p):=hN;have HD1:Hid ((L++M)[i]? =some d1):=hd1;have HSZ:Hid (d1.size=p.size):=hsz;have hll:(L++M).length<=1000:=by rw[List.length_append];omega
    clear hN hd1 hsz;have HC2:=aw_ hs h1 hm1.par;go_wp2_with fail;refine HC2.mono ?_;clear HC2;rintro e w2 ⟨rfl,hq2,ht2⟩;have hm2:ParM w2 bp s t1 vn1 (L++M):=hm1.touched hq2 ht2;have hb2:Below bp w w2:=hb1.trans (ao_ ht2 hm1.lt);clear hq2 ht2;have HC3:=aw_ hs h2 hm2.par;go_wp2_with fail;refine HC3.mono ?_;clear HC3;rintro e w3 ⟨rfl,hq3,ht3⟩;have hm3:ParM w3 bp s t1 vn1 (L++M):=hm2.touched hq3 ht3;have hb3:Below bp w w3:=hb2.trans (ao_ ht3 hm2.lt);clear hq3 ht3;have HC4:=bq_ hs h3 hm3.par;go_wp2_with fail;refine HC4.mono ?_;clear HC4;rintro e w4 ⟨rfl,hq4,ht4⟩;have hm4:ParM w4 bp s t1.go vn1 (L++M):=hm3.touched hq4 ht4;have hb4:Below bp w w4:=hb3.trans (ao_ ht4 hm3.lt);clear hq4 ht4;have HC5:=g2_ bp s t1.go vn1 (L++M) i 0 1 false d1 w4 hm4 hll HD1.out hdz o_;simp only[show((0:Nat):Int)=0 from rfl,show((1:Nat):Int)=1 from rfl,show((2:Nat):Int)=2 from rfl]at HC5;go_wp2_with fail;refine HC5.mono ?_;clear HC5;intro e w5 hp5;obtain⟨j,rfl,hf⟩:=cm_.rep (t:=t) hb4 HN.out HD1.out HSZ.out hlen hp5 o_ z_ z_;have HF:Hid _:=hf;clear hf hp5;go_wp2_with fail;go_ret2;exact HF.out
  cases h4:hit s t1.a 123
  . simp only[Bool.false_eq_true,if_false];go_enter func184,ntmps184;go_wp2_with fail;refine HA.mono ?_;clear HA;rintro e w1 ⟨i,vn1,M,rfl,hm1,hN,hlen,hb1⟩;obtain⟨d1,hd1,hsz⟩:=hN.node;have hdz:d1.size<=1000000000:=by rw[hsz];have:=gf_ hk hs hgo.2.1 hgo.2.2;omega
    have HN:Hid (be_ (L++M) i p):=hN;have HD1:Hid ((L++M)[i]? =some d1):=hd1;have HSZ:Hid (d1.size=p.size):=hsz;have hll:(L++M).length<=1000:=by rw[List.length_append];omega
    clear hN hd1 hsz;have HC2:=aw_ hs h1 hm1.par;go_wp2_with fail;refine HC2.mono ?_;clear HC2;rintro e w2 ⟨rfl,hq2,ht2⟩;have hm2:ParM w2 bp s t1 vn1 (L++M):=hm1.touched hq2 ht2;have hb2:Below bp w w2:=hb1.trans (ao_ ht2 hm1.lt);clear hq2 ht2;have HC3:=aw_ hs h2 hm2.par;go_wp2_with fail;refine HC3.mono ?_;clear HC3;rintro e w3 ⟨rfl,hq3,ht3⟩;have hm3:ParM w3 bp s t1 vn1 (L++M):=hm2.touched hq3 ht3;have hb3:Below bp w w3:=hb2.trans (ao_ ht3 hm2.lt);clear hq3 ht3;have HC4:=aw_ hs h3 hm3.par;go_wp2_with fail;refine HC4.mono ?_;clear HC4;rintro e w4 ⟨rfl,hq4,ht4⟩;have hm4:ParM w4 bp s t1 vn1 (L++M):=hm3.touched hq4 ht4;have hb4:Below bp w w4:=hb3.trans (ao_ ht4 hm3.lt);clear hq4 ht4;have HC5:=aw_ hs h4 hm4.par;go_wp2_with fail;refine HC5.mono ?_;clear HC5;rintro e w5 ⟨rfl,hq5,ht5⟩;have hm5:ParM w5 bp s t1 vn1 (L++M):=hm4.touched hq5 ht5;have hb5:Below bp w w5:=hb4.trans (ao_ ht5 hm4.lt);clear hq5 ht5;go_wp2_with fail;go_ret2;exact⟨i,vn1,M,rfl,hm5,HN.out,o_,hb5⟩
  have l4:=cv_ h4;simp only[Bool.false_eq_true,if_false,if_true];cases hc:b9_ s t1.go with
  |no t2=>
   simp only;go_enter func184,ntmps184;go_wp2_with fail;refine HA.mono ?_;clear HA;rintro e w1 ⟨i,vn1,M,rfl,hm1,hN,hlen,hb1⟩;obtain⟨d1,hd1,hsz⟩:=hN.node;have hdz:d1.size<=1000000000:=by rw[hsz];have:=gf_ hk hs hgo.2.1 hgo.2.2;omega
   have HN:Hid (be_ (L++M) i p):=hN;have HD1:Hid ((L++M)[i]? =some d1):=hd1;have HSZ:Hid (d1.size=p.size):=hsz;have hll:(L++M).length<=1000:=by rw[List.length_append];omega
   clear hN hd1 hsz;have HC2:=aw_ hs h1 hm1.par;go_wp2_with fail;refine HC2.mono ?_;clear HC2;rintro e w2 ⟨rfl,hq2,ht2⟩;have hm2:ParM w2 bp s t1 vn1 (L++M):=hm1.touched hq2 ht2;have hb2:Below bp w w2:=hb1.trans (ao_ ht2 hm1.lt);clear hq2 ht2;have HC3:=aw_ hs h2 hm2.par;go_wp2_with fail;refine HC3.mono ?_;clear HC3;rintro e w3 ⟨rfl,hq3,ht3⟩;have hm3:ParM w3 bp s t1 vn1 (L++M):=hm2.touched hq3 ht3;have hb3:Below bp w w3:=hb2.trans (ao_ ht3 hm2.lt);clear hq3 ht3;have HC4:=aw_ hs h3 hm3.par;go_wp2_with fail;refine HC4.mono ?_;clear HC4;rintro e w4 ⟨rfl,hq4,ht4⟩;have hm4:ParM w4 bp s t1 vn1 (L++M):=hm3.touched hq4 ht4;have hb4:Below bp w w4:=hb3.trans (ao_ ht4 hm3.lt);clear hq4 ht4;have HC5:=bq_ hs h4 hm4.par;go_wp2_with fail;refine HC5.mono ?_;clear HC5;rintro e w5 ⟨rfl,hq5,ht5⟩;have hm5:ParM w5 bp s t1.go vn1 (L++M):=hm4.touched hq5 ht5;have hb5:Below bp w w5:=hb4.trans (ao_ ht5 hm4.lt);clear hq5 ht5;have HC6:=rt_ bp s t1.go vn1 w5 hs z_ hm5.par;rw[hc]at HC6;clear hc;go_wp2_with fail;refine HC6.mono ?_;clear HC6;rintro e w6 ⟨⟨⟨x1,x2,x3,rfl⟩,hq6⟩,ht6⟩;have hm6:ParM w6 bp s t2 vn1 (L++M):=hm5.touched hq6 ht6;have hb6:Below bp w w6:=hb5.trans (ao_ ht6 hm5.lt);go_wp2_with fail;go_ret2;exact⟨⟨_,rfl⟩,⟨_,_,hm6.below ba__⟩,hb6.alloc (Nat.le_of_lt hm6.lt) _⟩
  |ok x t2=>
   obtain⟨lo,co,en⟩:=x;have hco:=lq_ hc;simp only[go_a]at hco;simp only;go_enter func184,ntmps184;go_wp2_with fail;refine HA.mono ?_;clear HA;rintro e w1 ⟨i,vn1,M,rfl,hm1,hN,hlen,hb1⟩;obtain⟨d1,hd1,hsz⟩:=hN.node;have hdz:d1.size<=1000000000:=by rw[hsz];have:=gf_ hk hs hgo.2.1 hgo.2.2;omega
   have HN:Hid (be_ (L++M) i p):=hN;have HD1:Hid ((L++M)[i]? =some d1):=hd1;have HSZ:Hid (d1.size=p.size):=hsz;have hll:(L++M).length<=1000:=by rw[List.length_append];omega
   clear hN hd1 hsz;have HC2:=aw_ hs h1 hm1.par;go_wp2_with fail;refine HC2.mono ?_;clear HC2;rintro e w2 ⟨rfl,hq2,ht2⟩;have hm2:ParM w2 bp s t1 vn1 (L++M):=hm1.touched hq2 ht2;have hb2:Below bp w w2:=hb1.trans (ao_ ht2 hm1.lt);clear hq2 ht2;have HC3:=aw_ hs h2 hm2.par;go_wp2_with fail;refine HC3.mono ?_;clear HC3;rintro e w3 ⟨rfl,hq3,ht3⟩;have hm3:ParM w3 bp s t1 vn1 (L++M):=hm2.touched hq3 ht3;have hb3:Below bp w w3:=hb2.trans (ao_ ht3 hm2.lt);clear hq3 ht3;have HC4:=aw_ hs h3 hm3.par;go_wp2_with fail;refine HC4.mono ?_;clear HC4;rintro e w4 ⟨rfl,hq4,ht4⟩;have hm4:ParM w4 bp s t1 vn1 (L++M):=hm3.touched hq4 ht4;have hb4:Below bp w w4:=hb3.trans (ao_ ht4 hm3.lt);clear hq4 ht4;have HC5:=bq_ hs h4 hm4.par;go_wp2_with fail;refine HC5.mono ?_;clear HC5;rintro e w5 ⟨rfl,hq5,ht5⟩;have hm5:ParM w5 bp s t1.go vn1 (L++M):=hm4.touched hq5 ht5;have hb5:Below bp w w5:=hb4.trans (ao_ ht5 hm4.lt);clear hq5 ht5;have HC6:=rt_ bp s t1.go vn1 w5 hs z_ hm5.par;rw[hc]at HC6;clear hc;go_wp2_with fail;refine HC6.mono ?_;clear HC6;rintro e w6 ⟨⟨rfl,hq6⟩,ht6⟩;have hm6:ParM w6 bp s t2 vn1 (L++M):=hm5.touched hq6 ht6;have hb6:Below bp w w6:=hb5.trans (ao_ ht6 hm5.lt);clear hq6 ht6;obtain⟨W8,hW8,-,-,-⟩:=nw__ w6 #[.int .i64 (lo:Int),.int .i64 (co:Int),.bool en] 130;have B8:Below w6.heap.size w6 W8.drew:=by rw[hW8];exact ba__.drew
   have k8:=hn__ hW8;obtain⟨c0,c1,c2,_,_,_⟩:=ak_ k8;have HC8:=g2_ bp s t2 vn1 (L++M) i lo co en d1 W8.drew (hm6.below B8) hll HD1.out hdz o_;have hb8:Below bp w W8.drew:=hb6.trans (B8.mono (Nat.le_of_lt hm6.lt));have hs8:w6.heap.size<W8.heap.size:=ac_ k8;have hs9:bp<w6.heap.size:=hm6.lt;clear k8 B8;go_wp2_with fail;rw[<-hW8];clear hW8;go_region_with (go_at_call 189;refine HC8.mono ?_;intro e w9 hp9;obtain⟨j,rfl,hf9⟩:=cm_.rep (t:=t) hb8 HN.out HD1.out HSZ.out hlen hp9 o_ o_ o_;have HF:Hid _:=hf9;clear hf9 hp9);go_wp2_with fail;go_ret2;exact HF.out
def SeqC (k:Nat):Prop:=∀(bp:Nat) (s:ByteArray) (t:Sp) (vn:Value) (L:List Nd) (w:World) (d:Int),d=6 - (k:Int)->s.size<=40->t.a<=s.size->L.length+4*(s.size - t.a)<=898->ParM w bp s t vn L->
 Calls prog 168 #[.pointer (some ⟨bp,0,none⟩),.int .i64 d] w (cm_ bp s L (4*(s.size - t.a)+1) (seqF s (by_ s k) (s.size+1) .none t) w)
structure hj_ (R:Res Pat)(k:Nat)(w:World)(bp:Nat)(s:ByteArray)(L:List Nd)(t:Sp)(wr:World)(wh:Nat)(t1:Sp)(vn1:Value)(M:List Nd)(p:Pat):Prop where
 par:ParM wr bp s t1 vn1 (L++M)
 nod:be_ (L++M) wh p
 rel:∃n,s.size - t1.a<n/\seqF s (by_ s k) n p t1=R
 le:t1.a<=s.size
 len:M.length+4*(s.size - t1.a)<=4*(s.size - t.a)+1
 blw:Below bp w wr
 sz:p.size<=t1.a*10000000
section
variable {R:Res Pat} {k:Nat} {w:World} {bp:Nat} {s:ByteArray} {L:List Nd} {t:Sp} {wr:World} {wh:Nat} {t1:Sp} {vn1:Value} {M:List Nd} {p:Pat}
theorem hj_.stop (h:hj_ R k w bp s L t wr wh t1 vn1 M p)(he:cs_ s t1.a=true):R= .ok p t1:=by
 obtain⟨n,hn,hR⟩:=h.rel;obtain⟨n,rfl⟩:∃m,n=m+1:=⟨n - 1,o_⟩;simp only[seqF,he,if_true]at hR;exact hR.symm
theorem hj_.fail (h:hj_ R k w bp s L t wr wh t1 vn1 M p)(he:cs_ s t1.a=false){t2:Sp}(hi:ep_ s (by_ s k) t1= .no t2):R= .no t2:=by
 obtain⟨n,hn,hR⟩:=h.rel;obtain⟨n,rfl⟩:∃m,n=m+1:=⟨n - 1,o_⟩;simp only[seqF,he,Bool.false_eq_true,if_false,hi]at hR;exact hR.symm
theorem ow_ {q:Pat}{t2:Sp}(hk:k<=6)(hi:ep_ s (by_ s k) t1= .ok q t2):t1.a<t2.a/\t2.a<=s.size/\q.size<=(t2.a - t1.a)*10000000:=by
 obtain⟨h1,h2,h3⟩:=h4_ (do_ k) _ _ _ hi;refine⟨h1,h2,Nat.le_trans h3 (Nat.mul_le_mul_left _ ?_)⟩;have:10^k<=10^6:=Nat.pow_le_pow_right o_ hk;omega
theorem hj_.next (h:hj_ R k w bp s L t wr wh t1 vn1 M p)(hk:k<=6)(he:cs_ s t1.a=false){q:Pat}{t2:Sp}(hi:ep_ s (by_ s k) t1= .ok q t2){M':List Nd}{i:Nat}{d1 d2:Nd}{w2 w3:World}{e:Ending}(hb:Below bp w w2)
 (hN':be_ (L++M++M') i q) (hlen:M'.length+4*(s.size - t2.a)<=4*(s.size - t1.a)- 1) (hd1:d1.size=p.size) (hd2:d2.size=q.size) (ha:g7_ bp s t2 (L++M++M') ⟨2,d1.size+d2.size,fun _=>false,0,0,false,wh,i⟩ w2 e w3):
 ∃(j:Nat) (vn3:Value) (M2:List Nd),e= .returned (.int .i64 (j:Int))/\hj_ R k w bp s L t w3 j t2 vn3 M2 (.chain p q):=by
 obtain⟨rfl,vn3,hp,hb2⟩:=ha;obtain⟨n,hn,hR⟩:=h.rel;obtain⟨n,rfl⟩:∃m,n=m+1:=⟨n - 1,o_⟩;simp only[seqF,he,Bool.false_eq_true,if_false,hi]at hR;obtain⟨g1,g2,g3⟩:=ow_ hk hi;have hsz:=h.sz;have hl:=h.len;refine⟨(L++M++M').length,vn3,M++M'++ [⟨2,d1.size+d2.size,fun _=>false,0,0,false,wh,i⟩],rfl,⟨?_, ?_,⟨n,o_,hR⟩,g2,by simp only[List.length_append,List.length_singleton];omega,hb.trans hb2, ?_⟩⟩
 . rw[<-List.append_assoc,<-List.append_assoc];exact hp
 . rw[<-List.append_assoc,<-List.append_assoc];exact .chain (d:=⟨2,d1.size+d2.size,fun _=>false,0,0,false,wh,i⟩) i_ rfl (by simp only[hd1,hd2]) rfl rfl ((h.nod.app M').app _) (hN'.app _)
 . simp only[Pat.size];have:=il_ (a:=0) (b:=t1.a) (c:=t2.a) o_ o_ 10000000;simp only[Nat.sub_zero]at this;omega
end
theorem adc_ (k:Nat)(hk:k<=6)(HIT:adb_ k):SeqC k:=by
 intro bp s t vn L w d hd hs hta hM hm0;have HI:=fun t1 vn1 L1 w1=>HIT bp s t1 vn1 L1 w1 d hd hs
 clear hd HIT;obtain⟨R,HR⟩:=hx__ (seqF s (by_ s k) (s.size+1) .none t);rw[HR.out];have HC:=kl_ bp s t vn L ⟨0,0,fun _=>false,0,0,false,0,0⟩ w hm0 o_;unfold nagg at HC;simp only[show((0:Nat):Int)=0 from rfl]at HC;go_enter func168,ntmps168;go_wp2_with fail;refine HC.mono ?_;clear HC;rintro e w1 ⟨rfl,vn1,hm1,hb1⟩;have S0:hj_ R k w bp s L t w1 L.length t vn1 [⟨0,0,fun _=>false,0,0,false,0,0⟩] .none:=
  ⟨hm1,.none (d:=⟨0,0,fun _=>false,0,0,false,0,0⟩) i_ rfl rfl,⟨s.size+1,o_,HR.out⟩,hta,s_,hb1,by simp[Pat.size]⟩
 clear hm1 hb1 HR hm0;go_wp2_with fail;go_loopw [6,7,8] (fun wh' _ _ wr=>∃(wh:Nat) (t1:Sp) (vn1:Value) (M:List Nd) (p:Pat),wh'= .int .i64 (wh:Int)/\hj_ R k w bp s L t wr wh t1 vn1 M p) (fun _ _ _ wr=>100 - atOf wr bp)
 case atStart=>exact⟨_,_,_,_,_,rfl,S0⟩
 case round=>
  clear S0 vn1;obtain⟨wh,t1,vn1,M,p,rfl,hS⟩:=hrel;have HAT:Hid (atOf wr bp=t1.a):=hS.par.par.atOf;have hle:=hS.le;have hlen:=hS.len;have HE:=aap_ bp s t1.a vn1 t1.bk (t1.sp:Int) wr hs hS.par.par;cases he:cs_ s t1.a
  . rw[he]at HE;cases hi:ep_ s (by_ s k) t1 with
    |no t2=>
     have hR:=hS.fail he hi;subst hR;go_wp2_with fail;refine HE.mono ?_;clear HE;rintro e w2 ⟨rfl,hq2,ht2⟩;have hm2:ParM w2 bp s t1 vn1 (L++M):=hS.par.touched hq2 ht2;have hb2:Below bp w w2:=hS.blw.trans (ao_ ht2 hS.par.lt);clear hq2 ht2;have HC:=HI t1 vn1 (L++M) w2 hle (by rw[List.length_append];omega) hm2;rw[hi]at HC;clear hi hS;go_wp2_with fail;refine HC.mono ?_;clear HC;rintro e w3 ⟨⟨v,rfl⟩,⟨vn3,L3,hm3⟩,hb3⟩;go_wp2_with fail;go_ret2;exact⟨⟨_,rfl⟩,⟨_,_,hm3⟩,hb2.trans hb3⟩
    |ok q t2=>
     obtain⟨g1,g2,g3⟩:=ow_ hk hi;have HI1:Hid (ep_ s (by_ s k) t1= .ok q t2):=hi;have HS:Hid (hj_ R k w bp s L t wr wh t1 vn1 M p):=hS;go_wp2_with fail;refine HE.mono ?_;clear HE;rintro e w2 ⟨rfl,hq2,ht2⟩;have hm2:ParM w2 bp s t1 vn1 (L++M):=hS.par.touched hq2 ht2;have hb2:Below bp w w2:=hS.blw.trans (ao_ ht2 hS.par.lt);clear hq2 ht2;have HC:=HI t1 vn1 (L++M) w2 hle (by rw[List.length_append];omega) hm2;rw[hi]at HC;clear hi hS;go_wp2_with fail;refine HC.mono ?_;clear HC;rintro e w3 ⟨i,vn3,M',rfl,hm3,hN3,hlen3,hb3⟩;have hb33:Below bp w w3:=hb2.trans hb3;obtain⟨d1,hd1,hz1⟩:=(HS.out.nod.app M').node;obtain⟨d2,hd2,hz2⟩:=hN3.node;have hsz:=HS.out.sz;have HC:=pw_ bp s t2 vn3 (L++M++M') 2 wh i d1 d2 w3 hm3 (by simp only[List.length_append];omega) hd1 hd2 (by rw[hz1];omega) (by rw[hz2];omega);simp only[show((2:Nat):Int)=2 from rfl]at HC;have HZ1:Hid (d1.size=p.size):=hz1;have HZ2:Hid (d2.size=q.size):=hz2;have HN3:Hid (be_ (L++M++M') i q):=hN3;clear hd1 hd2 hz1 hz2 hb3 hN3 hm2 hm3;go_wp2_with fail;refine HC.mono ?_;clear HC;intro e w4 hp4;obtain⟨j4,vn4,M4,rfl,hS4⟩:=HS.out.next hk he HI1.out hb33 HN3.out hlen3 HZ1.out HZ2.out hp4;have hat4:=hS4.par.par.atOf;clear hp4;go_wp2_with fail;go_roundw
     case rel=>exact⟨_,_,_,_,_,rfl,hS4⟩
     case measure=>
      have:=HAT.out;omega
  . rw[he]at HE;have hR:=hS.stop he;subst hR;go_wp2_with fail;refine HE.mono ?_;clear HE;rintro e w2 ⟨rfl,hq2,ht2⟩;have hm2:ParM w2 bp s t1 vn1 (L++M):=hS.par.touched hq2 ht2;have hb2:Below bp w w2:=hS.blw.trans (ao_ ht2 hS.par.lt);clear hq2 ht2;have HN:Hid (be_ (L++M) wh p):=hS.nod;clear hS;go_wp2_with fail;go_ret2;exact⟨wh,vn1,M,rfl,hm2,HN.out,hlen,hb2⟩
structure ia_ (R:Res Pat)(k:Nat)(w:World)(bp:Nat)(s:ByteArray)(L:List Nd)(t:Sp)(wr:World)(wh:Nat)(t1:Sp)(vn1:Value)(M:List Nd)(p:Pat):Prop where
 par:ParM wr bp s t1 vn1 (L++M)
 nod:be_ (L++M) wh p
 rel:∃n,s.size - t1.a<n/\d7_ s (by_ s k) n p t1=R
 le:t1.a<=s.size
 len:M.length+4*(s.size - t1.a)<=4*(s.size - t.a)+1
 blw:Below bp w wr
 sz:p.size<=t1.a*10000000
structure add_ (R:Res Pat)(w:World)(bp:Nat)(s:ByteArray)(wr:World):Prop where
 no:∃t1 vn1 L1,R= .no t1/\ParM wr bp s t1 vn1 L1
 blw:Below bp w wr
def y5_ (R:Res Pat)(k:Nat)(w:World)(bp:Nat)(s:ByteArray)(L:List Nd)(t:Sp)(wr:World)(v:Int)(g:Bool):Prop:=
 (g=true/\∃(wh:Nat) (t1:Sp) (vn1:Value) (M:List Nd) (p:Pat),v=(wh:Int)/\ia_ R k w bp s L t wr wh t1 vn1 M p)\/(g=false/\add_ R w bp s wr)
section
variable {R:Res Pat} {k:Nat} {w:World} {bp:Nat} {s:ByteArray} {L:List Nd} {t:Sp} {wr:World} {wh:Nat} {t1:Sp} {vn1:Value} {M:List Nd} {p:Pat}
theorem ia_.stop (h:ia_ R k w bp s L t wr wh t1 vn1 M p)(he:hit s t1.a 124=false):R= .ok p t1:=by
 obtain⟨n,hn,hR⟩:=h.rel;obtain⟨n,rfl⟩:∃m,n=m+1:=⟨n - 1,o_⟩;simp only[d7_,he,Bool.false_eq_true,if_false]at hR;exact hR.symm
theorem ia_.fail (h:ia_ R k w bp s L t wr wh t1 vn1 M p)(he:hit s t1.a 124=true){t2:Sp}(hi:seqF s (by_ s k) (s.size+1) .none t1.go= .no t2):R= .no t2:=by
 obtain⟨n,hn,hR⟩:=h.rel;obtain⟨n,rfl⟩:∃m,n=m+1:=⟨n - 1,o_⟩;simp only[d7_,he,if_true,hi]at hR;exact hR.symm
theorem ma_ {q:Pat}{t2:Sp}(hk:k<=6)(hz:t1.a<=s.size)(hi:seqF s (by_ s k) (s.size+1) .none t1= .ok q t2):t1.a<=t2.a/\t2.a<=s.size/\q.size<=(t2.a - t1.a)*10000000:=by
 obtain⟨h1,h2,h3⟩:=fz_ (do_ k) hz hi;refine⟨h1,h2,Nat.le_trans h3 ?_⟩;simp only[Pat.size,Nat.zero_add];refine Nat.mul_le_mul_left _ ?_;have:10^k<=10^6:=Nat.pow_le_pow_right o_ hk;omega
theorem ia_.next (h:ia_ R k w bp s L t wr wh t1 vn1 M p)(hk:k<=6)(he:hit s t1.a 124=true){q:Pat}{t2:Sp}(hi:seqF s (by_ s k) (s.size+1) .none t1.go= .ok q t2){M':List Nd}{i:Nat}{d1 d2:Nd}{w2 w3:World}{e:Ending}(hb:Below bp w w2)
 (hN':be_ (L++M++M') i q) (hlen:M'.length+4*(s.size - t2.a)<=4*(s.size - t1.go.a)+1) (hd1:d1.size=p.size) (hd2:d2.size=q.size) (ha:g7_ bp s t2 (L++M++M') ⟨3,d1.size+d2.size,fun _=>false,0,0,false,wh,i⟩ w2 e w3):
 ∃(j:Nat) (vn3:Value) (M2:List Nd),e= .returned (.int .i64 (j:Int))/\ia_ R k w bp s L t w3 j t2 vn3 M2 (.alt p q):=by
 obtain⟨rfl,vn3,hp,hb2⟩:=ha;obtain⟨n,hn,hR⟩:=h.rel;obtain⟨n,rfl⟩:∃m,n=m+1:=⟨n - 1,o_⟩;simp only[d7_,he,if_true,hi]at hR;have hlt:=cv_ he;obtain⟨g1,g2,g3⟩:=ma_ hk z_ hi;simp only[go_a]at g1 g3 hlen;have hsz:=h.sz;have hl:=h.len;refine⟨(L++M++M').length,vn3,M++M'++ [⟨3,d1.size+d2.size,fun _=>false,0,0,false,wh,i⟩],rfl,⟨?_, ?_,⟨n,o_,hR⟩,g2,by simp only[List.length_append,List.length_singleton];omega,hb.trans hb2, ?_⟩⟩
 . rw[<-List.append_assoc,<-List.append_assoc];exact hp
 . rw[<-List.append_assoc,<-List.append_assoc];exact .alt (d:=⟨3,d1.size+d2.size,fun _=>false,0,0,false,wh,i⟩) i_ rfl (by simp only[hd1,hd2]) rfl rfl ((h.nod.app M').app _) (hN'.app _)
 . simp only[Pat.size];have:=il_ (a:=0) (b:=t1.a) (c:=t2.a) o_ o_ 10000000;simp only[Nat.sub_zero]at this;have h7:(t2.a - (t1.a+1))*10000000<=(t2.a - t1.a)*10000000:=Nat.mul_le_mul_right _ o_;omega
end
def sw_ (g:Value)(w:World)(bp:Nat):Nat:=match g with
 | .bool true=>100 - atOf w bp
 |_=>0
theorem ade_ (k:Nat)(hk:k<=6)(HSQ:SeqC k):PatC k:=by
 intro bp s t vn L w d hd hs hta hM hm0;have HI:=fun t1 vn1 L1 w1=>HSQ bp s t1 vn1 L1 w1 d hd hs
 clear hd HSQ;obtain⟨R,HR⟩:=hx__ (patF s (by_ s k) t);rw[HR.out];have HC:=HI t vn L w hta o_ hm0;have HFST:Hid (∀e w1,cm_ bp s L (4*(s.size - t.a)+1) (seqF s (by_ s k) (s.size+1) .none t) w e w1->∃(v:Int) (g:Bool),e= .returned (.tuple #[.int .i64 v,.bool g])/\y5_ R k w bp s L t w1 v g):=by
  intro e w1 hp;cases hi:seqF s (by_ s k) (s.size+1) .none t with
  |no t1=>
   rw[hi]at hp;obtain⟨⟨v,rfl⟩,⟨vn1,L1,hm1⟩,hb1⟩:=hp;refine⟨v,false,rfl,.inr ⟨rfl,⟨t1,vn1,L1, ?_,hm1⟩,hb1⟩⟩;rw[<-HR.out];unfold patF;rw[hi]
  |ok q t1=>
   rw[hi]at hp;obtain⟨i,vn1,M,rfl,hm1,hN,hlen,hb1⟩:=hp;obtain⟨g1,g2,g3⟩:=ma_ hk hta hi;refine⟨_,true,rfl,.inl ⟨rfl,i,t1,vn1,M,q,rfl,hm1,hN,⟨s.size+1,o_, ?_⟩,g2,hlen,hb1, ?_⟩⟩
   . rw[<-HR.out];unfold patF;rw[hi]
   . exact Nat.le_trans g3 (Nat.mul_le_mul_right _ o_)
 clear HR hm0;go_enter func141,ntmps141;go_wp2_with fail;refine HC.mono ?_;clear HC;intro e w1 hp1;obtain⟨v1,g1,rfl,S0⟩:=HFST.out e w1 hp1;clear hp1 HFST;go_wp2_with fail;go_loopw [6,7,8] (fun wh' g' _ wr=>∃(v:Int) (g:Bool),wh'= .int .i64 v/\g'= .bool g/\y5_ R k w bp s L t wr v g) (fun _ g' _ wr=>sw_ g' wr bp)
 case atStart=>exact⟨_,_,rfl,rfl,S0⟩
 case round=>
  clear S0;obtain⟨v,g,rfl,rfl,hrel⟩:=hrel;rcases hrel with ⟨rfl,wh,t1,vn1,M,p,rfl,hS⟩|⟨rfl,hS⟩
  . have HAT:Hid (atOf wr bp=t1.a):=hS.par.par.atOf;have hle:=hS.le;have hlen:=hS.len;cases he:hit s t1.a 124
    . have HE:=aw_ hs he hS.par.par;have hR:=hS.stop he;subst hR;go_wp2_with fail;refine HE.mono ?_;clear HE;rintro e w2 ⟨rfl,hq2,ht2⟩;have hm2:ParM w2 bp s t1 vn1 (L++M):=hS.par.touched hq2 ht2;have hb2:Below bp w w2:=hS.blw.trans (ao_ ht2 hS.par.lt);have HN:Hid (be_ (L++M) wh p):=hS.nod;clear hq2 ht2 hS;go_wp2_with fail;go_ret2;exact⟨wh,vn1,M,rfl,hm2,HN.out,hlen,hb2⟩
    . have HE:=bq_ hs he hS.par.par;have hlt:=cv_ he;cases hi:seqF s (by_ s k) (s.size+1) .none t1.go with
      |no t2=>
       have hR:=hS.fail he hi;go_wp2_with fail;refine HE.mono ?_;clear HE;rintro e w2 ⟨rfl,hq2,ht2⟩;have hm2:ParM w2 bp s t1.go vn1 (L++M):=hS.par.touched hq2 ht2;have hb2:Below bp w w2:=hS.blw.trans (ao_ ht2 hS.par.lt);clear hq2 ht2;have HC:=HI t1.go vn1 (L++M) w2 z_ (by rw[List.length_append];simp only[go_a];omega) hm2;rw[hi]at HC;have HRR:Hid (R= .no t2):=hR;clear hi hS hR;go_wp2_with fail;refine HC.mono ?_;clear HC;rintro e w3 ⟨⟨v3,rfl⟩,⟨vn3,L3,hm3⟩,hb3⟩;have hno:add_ R w bp s w3:=⟨⟨t2,vn3,L3,HRR.out,hm3⟩,hb2.trans hb3⟩;clear HRR;go_wp2_with fail;go_roundw
       case rel=>exact⟨_,_,rfl,rfl,.inr ⟨rfl,hno⟩⟩
       case measure=>
        have:=HAT.out;simp only[sw_];omega
      |ok q t2=>
       obtain⟨g1,g2,g3⟩:=ma_ hk z_ hi;simp only[go_a]at g1 g3;have HI1:Hid (seqF s (by_ s k) (s.size+1) .none t1.go= .ok q t2):=hi;have HS:Hid (ia_ R k w bp s L t wr wh t1 vn1 M p):=hS;go_wp2_with fail;refine HE.mono ?_;clear HE;rintro e w2 ⟨rfl,hq2,ht2⟩;have hm2:ParM w2 bp s t1.go vn1 (L++M):=hS.par.touched hq2 ht2;have hb2:Below bp w w2:=hS.blw.trans (ao_ ht2 hS.par.lt);clear hq2 ht2;have HC:=HI t1.go vn1 (L++M) w2 z_ (by rw[List.length_append];simp only[go_a];omega) hm2;rw[hi]at HC;clear hi hS;go_wp2_with fail;refine HC.mono ?_;clear HC;rintro e w3 ⟨i,vn3,M',rfl,hm3,hN3,hlen3,hb3⟩;have hb33:Below bp w w3:=hb2.trans hb3;obtain⟨d1,hd1,hz1⟩:=(HS.out.nod.app M').node;obtain⟨d2,hd2,hz2⟩:=hN3.node;have hsz:=HS.out.sz;have hlen4:=hlen3;simp only[go_a]at hlen4;have HC:=pw_ bp s t2 vn3 (L++M++M') 3 wh i d1 d2 w3 hm3 (by simp only[List.length_append];omega) hd1 hd2 (by rw[hz1];omega) (by rw[hz2];omega);simp only[show((3:Nat):Int)=3 from rfl]at HC;have HZ1:Hid (d1.size=p.size):=hz1;have HZ2:Hid (d2.size=q.size):=hz2;have HN3:Hid (be_ (L++M++M') i q):=hN3;clear hd1 hd2 hz1 hz2 hb3 hN3 hm2 hm3;go_wp2_with fail;refine HC.mono ?_;clear HC;intro e w4 hp4;obtain⟨j4,vn4,M4,rfl,hS4⟩:=HS.out.next hk he HI1.out hb33 HN3.out hlen3 HZ1.out HZ2.out hp4;have hat4:=hS4.par.par.atOf;clear hp4;go_wp2_with fail;go_roundw
       case rel=>exact⟨_,_,rfl,rfl,.inl ⟨rfl,_,_,_,_,_,rfl,hS4⟩⟩
       case measure=>
        have:=HAT.out;simp only[sw_];omega
  . obtain⟨⟨t1,vn1,L1,hR,hm1⟩,hb1⟩:=hS;subst hR;go_wp2_with fail;go_ret2;exact⟨⟨_,rfl⟩,⟨_,_,hm1⟩,hb1⟩
theorem y6_:∀k,k<=6->re_ k
 |0,_=>y2_
 |k+1,hk=>y3_ k o_ (ade_ k o_ (adc_ k o_ (y4_ k o_ (y6_ k o_))))
theorem vk_:PatC 6:=ade_ 6 o_ (adc_ 6 o_ (y4_ 6 o_ (y6_ 6 o_)))
theorem k1_ (bp:Nat)(s:ByteArray)(w:World)(hs:s.size<=40)(h:ParM w bp s ⟨0,false,0⟩ (.slice none 0 0) []){p:Pat}{t:Sp}(hp:co_ s= .ok p t)(ht:t.a=s.size):
 Calls prog 105 #[.pointer (some ⟨bp,0,none⟩)] w
  fun e w'=>∃(i:Nat) (vn':Value) (M:List Nd),e= .returned (.tuple #[.int .i64 (i:Int),.bool true])/\ParM w' bp s t vn' M/\be_ M i p/\M.length<=1000/\Below bp w w':=by
 have HC:=vk_ bp s ⟨0,false,0⟩ (.slice none 0 0) [] w 0 o_ hs i_ s_ h;rw[show patF s (by_ s 6) ⟨0,false,0⟩= .ok p t from hp]at HC;have htt:(t.a:Int)=(s.size:Int):=o_;have htb:((t.a:Int)==(s.size:Int))=true:=s_;clear hp h;go_enter func105,ntmps105;go_wp2_with fail;refine HC.mono ?_;clear HC;rintro e w1 ⟨i,vn1,M,rfl,hm1,hN,hlen,hb1⟩;rw[List.nil_append]at hm1 hN;obtain⟨x0,x1,_,_,_,_,_,_⟩:=hm1.par.cells;have HM:Hid (ParM w1 bp s t vn1 M):=hm1;have HN:Hid (be_ M i p):=hN;have HT:=hi__ ht;clear hm1 hN ht htt;go_wp2_with fail;go_quiet (fail);go_wp2_with fail;go_ret2;exact⟨i,vn1,M,rfl,HM.out.below (below_drewN (Below.refl w1.heap.size w1) nq),HN.out,o_,hb1.trans ((below_drewN (Below.refl w1.heap.size w1) nq).mono (Nat.le_of_lt HM.out.lt))⟩
theorem y7_ (bp:Nat)(s:ByteArray)(w:World)(hs:s.size<=40)(h:ParM w bp s ⟨0,false,0⟩ (.slice none 0 0) []){t:Sp}(hp:co_ s= .no t\/∃p,co_ s= .ok p t/\t.a≠s.size):
 Calls prog 105 #[.pointer (some ⟨bp,0,none⟩)] w
  fun e w'=>∃(v:Int) (vn':Value) (M:List Nd),e= .returned (.tuple #[.int .i64 v,.bool false])/\ParM w' bp s t vn' M/\Below bp w w':=by
 have HC:=vk_ bp s ⟨0,false,0⟩ (.slice none 0 0) [] w 0 o_ hs i_ s_ h;clear h;rcases hp with hp|⟨p,hp,hne⟩
 . rw[show patF s (by_ s 6) ⟨0,false,0⟩= .no t from hp]at HC;clear hp;go_enter func105,ntmps105;go_wp2_with fail;refine HC.mono ?_;clear HC;rintro e w1 ⟨⟨v,rfl⟩,⟨vn1,L1,hm1⟩,hb1⟩;go_wp2_with fail;go_quiet (fail);go_wp2_with fail;go_ret2;exact⟨v,vn1,L1,rfl,hm1.below (below_drewN (Below.refl w1.heap.size w1) nq),hb1.trans ((below_drewN (Below.refl w1.heap.size w1) nq).mono (Nat.le_of_lt hm1.lt))⟩
 . rw[show patF s (by_ s 6) ⟨0,false,0⟩= .ok p t from hp]at HC;have htb:((t.a:Int)==(s.size:Int))=false:=s_;clear hp;go_enter func105,ntmps105;go_wp2_with fail;refine HC.mono ?_;clear HC;rintro e w1 ⟨i,vn1,M,rfl,hm1,hN,hlen,hb1⟩;rw[List.nil_append]at hm1;obtain⟨x0,x1,_,_,_,_,_,_⟩:=hm1.par.cells;have HM:Hid (ParM w1 bp s t vn1 M):=hm1;clear hm1 hN hne;go_wp2_with fail;go_quiet (fail);go_wp2_with fail;go_ret2;exact⟨i,vn1,M,rfl,HM.out.below (below_drewN (Below.refl w1.heap.size w1) nq),hb1.trans ((below_drewN (Below.refl w1.heap.size w1) nq).mono (Nat.le_of_lt HM.out.lt))⟩
noncomputable def patL (p:Pat)(x:List Nat):Bool:= @decide (p.lang x) (Classical.propDecidable _)
theorem sx_ (p:Pat)(x:List Nat):patL p x=true↔p.lang x:=by unfold patL;simp
def y8_ (p:Pat)(w:World)(e:Ending)(w':World):Prop:=
 Below w.heap.size w w'/\∃(m:Mach) (ps:List Nat) (gw ga ca gn cn:Nat),PRel Mach.good m.succ ps (8*ps.length)/\(∀x,m.lang x=patL p x)/\e= .returned (.pointer (some ⟨gw,0,none⟩))/\ez_ w' gw ga ca gn cn (m.tab ps)
def rf_:Array Value:= #[.slice none 0 0,.int .i64 0,.int .i64 0,.int .i64 0,.int .i64 0,.int .i64 0,.int .i64 0,.int .i64 0,.int .i64 0]
theorem ab0_ {w:World}{b t:Nat}(h:w.heap[b]? =some (.cells rf_ t (0,0))):w.rowIs b t 9 (fun i=>if i=0 then .slice none 0 0 else .int .i64 (((fun _=>0:Nat->Nat) (i - 1):Nat):Int)):=by
 refine⟨_,h,rfl,fun i hi=> ?_⟩;rcases (show i=0\/i=1\/i=2\/i=3\/i=4\/i=5\/i=6\/i=7\/i=8 by omega)with rfl|rfl|rfl|rfl|rfl|rfl|rfl|rfl|rfl<;>rfl
theorem sy_ (L:List Nd)(gn cap i:Nat)(p:Pat)(w:World)(hN:be_ L i p)(hA:g8_ w gn L)(hg:gn<w.heap.size)(hp:p.size<=10):
 Calls prog 106 #[.slice (some ⟨gn,0,none⟩) L.length cap,.int .i64 (i:Int)] w (y8_ p w):=by
 obtain⟨W,hW⟩:=ew__ ((w.alloc (.cells rf_ 184)).alloc (.cells (ap_ (fun _=>false)) 128));have BW:Below w.heap.size w W:=by rw[hW];exact ba__.alloc i_ _
 have hWs:W.heap.size=w.heap.size+1+1:=by rw[hW];simp
 have b0:W.heap[w.heap.size]? =some (.cells rf_ 184 (0,0)):=by rw[hW];exact ah_ (ag_ rfl)
 have b1:W.heap[w.heap.size+1]? =some (.cells (ap_ (fun _=>false)) 128 (0,0)):=by rw[hW];exact ag_ i_
 have M0:cg_ W w.heap.size (.slice none 0 0) 0 (fun _=>0) (fun _=>0):=⟨ab0_ b0,on__,fun i hi=>o_,fun c _=>o_⟩;have HC:=n5_ w.heap.size (.slice none 0 0) 0 (fun _=>0) (fun _=>0) (fun _=>false) W o_ M0;obtain⟨c0,c1,c2,c3,c4,c5,c6,c7⟩:=bi_ (f:=fun _=>false) (a8_ b1);simp only[show ap_ (fun _=>false)= #[.bool false,.bool false,.bool false,.bool false,.bool false,.bool false,.bool false,.bool false]from rfl,show((2^0:Nat):Int)=1 from rfl,Bool.false_eq_true,if_false]at hW HC;unfold rf_ at hW;clear M0 b0 b1;go_enter func106,ntmps106;go_upto_region 3 with fail;rw[<-hW];clear hW;go_wp2_with fail;refine HC.mono ?_;clear HC;rintro e w1 ⟨rfl,vb1,hm1,ht1,ho1⟩;have hz1:=ht1.size;have HM1:Hid (cg_ w1 w.heap.size vb1 1 (fun i=>if i=0 then 0 else 0) (fun _=>0)):=hm1;have hB1:Below w.heap.size w w1:=ht1.below BW o_ (fun k hk=>by
  rcases hk with hk|hk
  . omega
  . simp[Value.ownBlock]at hk)
 clear hm1 ht1 ho1 c0 c1 c2 c3 c4 c5 c6 c7;obtain⟨W1,hW1,BW1,-,d0⟩:=nw__ w1 #[.bool false,.int .i64 1,.int .i64 1] 187;have hWs1:W1.heap.size=w1.heap.size+1:=by rw[hW1];simp
 have hB2:Below w.heap.size w W1:=hB1.trans (BW1.mono o_);have hin:er_ W1 gn w.heap.size L vb1 1 (fun i=>if i=0 then 0 else 0) (fun _=>0):=⟨hA.block (hB2.block _ hg),hg,HM1.out.below BW1,fun c q _=>i_,lr__⟩;have HC:=adq_ p L gn cap i w.heap.size vb1 1 _ _ W1 hN hin o_;go_upto_region 5 with fail;rw[<-hW1];clear hW1;go_wp2_with fail;refine HC.mono ?_;clear HC;rintro e w2 ⟨em,F,La,vb2,beh2,rdr2,rfl,hl2,hs2⟩;have f0:=cc_ hin.mach hl2.touch d0 o_ d_;have hz2:=hl2.touch.size;obtain⟨W2,hW2,BW2,-,g1⟩:=nw__ w2 #[.bool em,.int .i64 (F:Int),.int .i64 (La:Int)] 187;have hWs2:W2.heap.size=w2.heap.size+1:=by rw[hW2];simp
 have g0:=(BW2.block _ (ac_ f0)).trans f0;have hL2:=hl2.grow BW2;have hF:=hs2.F_lt o_;have hLa:=hs2.L_lt o_;obtain⟨gb,cap2,rfl⟩:=hL2.mach.slice o_;have HC:=hp_ w.heap.size gb (1+p.size) cap2 beh2 rdr2 false em 1 1 F La W2 o_ hL2.mach o_ o_ hF hLa;obtain⟨L3,HL3⟩:=hx__ (if em then La|||1 else La);rw[HL3.out]at HC;have hL3:L3<2048:=by
  rw[<-HL3.out];split
  . exact Nat.or_lt_two_pow (n:=11) hLa o_
  . exact hLa
 simp only[Bool.false_and,Bool.false_eq_true,if_false,show((1:Nat):Int)=1 from rfl]at HC;have HLG:Hid (∀x,Mach.lang ⟨1+p.size,bw_ beh2 1 F,rdr2,L3⟩ x=patL p x):=by
  intro x;rw[Bool.eq_iff_iff,sx_,<-HL3.out];exact Mach.lang_ok hs2 (by rw[hl2.behs 0 o_];rfl) x
 obtain⟨s0,s1,s2,_,_,_⟩:=ak_ g0;obtain⟨u0,u1,u2,_,_,_⟩:=ak_ g1;have hB3:Below w.heap.size w W2:=by
  refine ab_.below hL2.touch hB2 o_ (fun k hk=> ?_);rcases hk with hk|hk
  . omega
  . have:=(hin.mach.own.lt k hk).1;omega
 clear f0 hs2 hl2 hin d0;go_upto_region 6 with fail;rw[<-hW2];clear hW2;go_wp2_with fail;refine HC.mono ?_;clear HC;rintro e w3 ⟨rfl,hm3,ht3⟩;have hz3:=ht3.size;have hgb:=(hL2.mach.own.lt gb rfl).1;have hB4:Below w.heap.size w w3:=ht3.below hB3 o_ (fun k hk=>by have e':k=gb:=hk;omega);clear s0 s1 s2 u0 u1 u2 g0 g1 ht3 hL2;obtain⟨W3,hW3,BW3,-,k0⟩:=nw__ w3 #[.bool false,.int .i64 1,.int .i64 (L3:Int)] 187;obtain⟨_,_,s2,_,_,_⟩:=ak_ k0;have hB5:Below w.heap.size w W3:=hB4.trans (BW3.mono o_);have hs3:=ac_ k0;have HC:=y0_ w.heap.size gb (1+p.size) cap2 (bw_ beh2 1 F) rdr2 L3 W3 o_ o_ hL3 (hm3.below BW3);go_upto_region 7 with fail;rw[<-hW3];clear hW3 hm3;go_wp2_with fail;refine HC.mono ?_;clear HC;rintro e w4 ⟨hB6,ps,gw,ga,ca,gn',cn,hR,rfl,hWd⟩;go_wp2_with fail;go_ret;exact⟨hB5.trans (hB6.mono o_),_,ps,gw,ga,ca,gn',cn,hR,HLG.out,rfl,hWd⟩
def gg_ (s:ByteArray)(b:Int):Option (Int×Nat):=
 if 40<s.size then some (1,0)else match co_ s with
 | .no t=>some (2,t.a)
 | .ok p t=>if t.a≠s.size then some (2,t.a)else if t.bk=true then some (3,t.sp)else if 10<p.size then some (4,0)else if b<1\/40<b then some (8,0)else none
theorem di_.wrap3 {L:List Nat->Bool}{budget bound:Nat}{w w0 w1:World}{e:Ending}(h:di_ L budget bound w0 e w1)(h0:Below w.heap.size w w0)(hs:w.heap.size<=w0.heap.size):
 ∃a0 n0 c0 a1 n1 c1 er,e= .returned (.tuple #[.agg #[.slice a0 n0 c0,.slice a1 n1 c1],.int .i64 er])/\Below w.heap.size w w1/\Below w0.heap.size w0 w1/\
  ∀b,w.heap.size<=b->b<w0.heap.size->∀w2,Below w1.heap.size ((w1.setCell ⟨b,0,none⟩ (.slice a0 n0 c0)).setCell ⟨b,1,none⟩ (.slice a1 n1 c1)) w2->di_ L budget bound w (.returned (.tuple #[.agg #[.slice a0 n0 c0,.slice a1 n1 c1],.int .i64 er])) w2:=by
 obtain⟨hb,hc⟩:=h;have hB:=h0.trans (hb.mono hs);have hsz:∀(b:Nat) (u v:Value),((w1.setCell ⟨b,0,none⟩ u).setCell ⟨b,1,none⟩ v).heap.size=w1.heap.size:=by intro b u v;simp
 rcases hc with ⟨R,V,hR,hn,rfl,hT,hF,hFr⟩|⟨rfl,hlt,hR⟩
 . exact⟨_,_,_,_,_,_,_,rfl,hB,hb,fun b h1 h2 w2 h3=>⟨(az_ hB h1 _ _).trans (h3.mono (by have:=hb.size;omega)),.inl ⟨R,V,hR,hn,rfl,(hT.res hF h2 _ _).below (by rw[hsz];exact h3),hF.mono hs,((hFr.set _ _ _).set _ _ _).below (by rw[hsz];exact h3)⟩⟩⟩
 . exact⟨_,_,_,_,_,_,_,rfl,hB,hb,fun b h1 h2 w2 h3=>⟨(az_ hB h1 _ _).trans (h3.mono (by have:=hb.size;omega)),.inr ⟨rfl,hlt,hR⟩⟩⟩
def nt_ (L:List Nat->Bool)(budget bound:Nat)(w:World)(e:Ending)(w':World):Prop:=
 ∃v er,e= .returned (.tuple #[v,.int .i64 er,.int .i64 0])/\di_ L budget bound w (.returned (.tuple #[v,.int .i64 er])) w'
theorem sz_ {s:ByteArray}{b:Int}(h:gg_ s b=none):∃p t,co_ s= .ok p t/\t.a=s.size/\t.bk=false/\p.size<=10/\s.size<=40/\1<=b/\b<=40:=by
 unfold gg_ at h;split at h
 . simp at h
 . rename_i h0;cases hp:co_ s with
   |no t=>rw[hp]at h;simp at h
   |ok p t=>
    rw[hp]at h;simp only at h;split at h
    . simp at h
    . rename_i h1;split at h
      . simp at h
      . rename_i h2;split at h
        . simp at h
        . rename_i h3;split at h
          . simp at h
          . rename_i h4;exact⟨p,t,rfl,o_,by simpa using h2,o_,o_,o_,o_⟩
theorem hw_ {w:World}{s:ByteArray}{bp:Nat}(h:w.heap[bp]? =some (.cells #[.string s,.int .i64 0,.slice none 0 0,.bool false,.int .i64 0] 125 (0,0))):ParM w bp s ⟨0,false,0⟩ (.slice none 0 0) []:=
 ⟨h,on__⟩
theorem uf_ (s:ByteArray)(b:Nat)(w:World){p:Pat}{t:Sp}(hp:co_ s= .ok p t)(hta:t.a=s.size)(hbk:t.bk=false)(hsz:p.size<=10)(hs:s.size<=40)(hb1:1<=b)(hb2:b<=40):
 Calls prog 68 #[.string s,.int .i64 (b:Int)] w fun e w'=>∃n,nt_ (patL p) b n w e w':=by
 obtain⟨W,hW,BW,b0,b1⟩:=n2__ w #[.slice none 0 0,.slice none 0 0] 41 #[.string s,.int .i64 0,.slice none 0 0,.bool false,.int .i64 0] 125;have hWs:W.heap.size=w.heap.size+1+1:=by rw[hW];simp
 have HC:=k1_ (w.heap.size+1) s W hs (hw_ b1) hp hta;have hs2:¬(40:Int)<(s.size:Int):=o_;clear hp b1;go_enter func68,ntmps68;go_upto_region 4 with fail;rw[<-hW];clear hW;go_wp2_with fail;refine HC.mono ?_;clear HC;rintro e w1 ⟨i,vn1,M,rfl,hm1,hN,hMl,hB1⟩;obtain⟨d,hd,hdz⟩:=hN.node;obtain⟨gn,cap,rfl,hc⟩:=hm1.nd hd;have x1:=hc 1 o_;simp[nagg]at x1;obtain⟨z,HZ⟩:=hx__ (d.size);rw[HZ.out]at x1;have hz10:¬(10:Int)<(z:Int):=by rw[<-HZ.out,hdz];omega
 obtain⟨_,_,y2,y3,_,_,_,_⟩:=hm1.par.cells;rw[hbk]at y3;have hil:i<M.length:=hN.lt;have hg2:gn<w1.heap.size:=(hm1.own.lt gn rfl).2;have hNA:g8_ w1 gn M:=fun i d hi j hj=>by
  obtain⟨g',cap',he,hc'⟩:=hm1.nd hi;simp only[Value.slice.injEq,Option.some.injEq,Addr.mk.injEq]at he;obtain⟨⟨rfl,_⟩,_,rfl⟩:=he;exact hc' j hj
 have HC:=sy_ M gn cap i p w1 hN hNA hg2 hsz;have B1:Below w.heap.size w w1:=BW.trans (hB1.mono o_);have a0:=(hB1.block _ o_).trans b0;have hs1:=hm1.lt;have HTA:=hi__ hta;clear hc hN hNA hm1 hB1 hd hdz b0 hta HTA;go_wp2_with fail;refine HC.mono ?_;clear HC;rintro e w2 ⟨hB2,m,ps,gw,ga,ca,gn',cn,hR,hlang,rfl,hWd⟩;have hz2:=hB2.size;have hbd:=Mach.bound hR;have HC:=qz_ gw ga ca gn' cn _ (patL p) b w2 hWd (Mach.numbered hR) (by show ps.length<=100000000;omega) (fun x hx=>(Mach.tab_accepts hR x hx).trans (hlang x)) hb1 hb2;have B2:Below w.heap.size w w2:=B1.trans (hB2.mono o_);have a1:=(hB2.block _ o_).trans a0;clear hR hWd hB2 hlang;go_wp2_with fail;refine HC.mono ?_;intro e w3 hp3;obtain⟨a0',n0,c0,a1',n1,c1,er,rfl,hB,hB3,hfin⟩:=hp3.wrap3 B2 o_;have a3:=(hB3.block _ o_).trans a1;have hz3:=hB3.size;have HF:Hid _:=hfin w.heap.size o_ o_;obtain⟨q0,q1,p0,p1⟩:=aa_ a3;have na:¬w.heap.size=w3.heap.size:=o_;have ma:w.heap.size<w3.heap.size:=o_;clear HC hp3 hfin hB3 x1 y2 y3;go_wp2_with fail;obtain⟨r1,r2⟩:=jo_ (u:= .slice a0' n0 c0) (v:= .slice a1' n1 c1) a3 (.cells #[.slice a0' n0 c0,.slice a1' n1 c1] 41);refine bodyPost_ret (v:= .tuple #[.agg #[.slice a0' n0 c0,.slice a1' n1 c1],.int .i64 er,.int .i64 0]) (by simp[results,results68,go_sem,r1,r2]) rfl ?_;exact⟨_,_,er,rfl,HF.out _ (br__.alloc i_ _)⟩
end Go.Proofs.YtpngikmcjkjdaaaGreatDoor
