import Derived.Test.YtpngikmcjkjdaaaGreatDoorC29
import Derived.Test.YtpngikmcjkjdaaaGreatDoorC30
import Derived.Test.YtpngikmcjkjdaaaGreatDoorC31
set_option linter.unusedVariables false
set_option linter.unusedSimpArgs false
set_option maxRecDepth 20000
set_option maxHeartbeats 80000000
namespace Go.Proofs.YtpngikmcjkjdaaaGreatDoor
open Go.RowKit Tryz List Nat
variable {len:Nat} {ao:Option Addr} {W:World}
open Go.RowKit Go.ChangeShapes Go.WideShapes Go.Deep
section
variable {H:Type} {enc:TypeId×Value->H} {P:Program} {w:World} {base:Nat} {spare:Nat->Bool} {held:Bool}
theorem al2_ {t:TypeId}{f0 f1 f2 f3 f4 f5 f6:Field}{fuel:Nat}{cs:List Value}{x:DataW H×List MemPlace}(ht:P.underlying t=some (.struct #[f0,f1,f2,f3,f4,f5,f6]))(h:DataW.trod enc P w base spare held fuel t cs=some x):
 ∃y0 y1 y2 y3 y4 y5 y6 n,x.1= .agg [y0.1,y1.1,y2.1,y3.1,y4.1,y5.1,y6.1]/\cs.length=P.cellsOf t/\DataW.trod enc P w base spare held n f0.type ((cs.drop f0.offset).take (P.cellsOf f0.type))=some y0/\
  DataW.trod enc P w base spare held n f1.type ((cs.drop f1.offset).take (P.cellsOf f1.type))=some y1/\DataW.trod enc P w base spare held n f2.type ((cs.drop f2.offset).take (P.cellsOf f2.type))=some y2/\
  DataW.trod enc P w base spare held n f3.type ((cs.drop f3.offset).take (P.cellsOf f3.type))=some y3/\DataW.trod enc P w base spare held n f4.type ((cs.drop f4.offset).take (P.cellsOf f4.type))=some y4/\
  DataW.trod enc P w base spare held n f5.type ((cs.drop f5.offset).take (P.cellsOf f5.type))=some y5/\DataW.trod enc P w base spare held n f6.type ((cs.drop f6.offset).take (P.cellsOf f6.type))=some y6:=by
 obtain⟨d,n,_,rfl,b,c,a⟩:=DataW.trod_struct ht h;match d,c with
 | [y0,y1,y2,y3,y4,y5,y6],_=>exact⟨y0,y1,y2,y3,y4,y5,y6,n,i_,b,by simpa using a 0 f0 rfl,by simpa using a 1 f1 rfl,by simpa using a 2 f2 rfl,by simpa using a 3 f3 rfl,by simpa using a 4 f4 rfl,by simpa using a 5 f5 rfl,by simpa using a 6 f6 rfl⟩
theorem al3_ {P:Program}{e:TypeId}:∀(l:List (DataW H)) (d:DataW H),d∈l->∀n∈d.weights P e,n∈DataW.weightsAll P e l:=by
 intro l;induction l with
 |nil=>intro d a;simp at a
 |cons x l ih=>
  intro d a n b;simp only[DataW.weightsAll,mp_];simp only[mc_]at a;rcases a with rfl|a
  . exact .inl b
  . exact .inr (ih d a n b)
end
theorem n2_ (b o n:Nat):(⟨b,o,none⟩:Addr).add n=⟨b,o+n,none⟩:=by unfold Addr.add;split<;>simp_all
theorem z8_ {a:Addr}{v:Value}(h:W.cell? a=some v):a.spot=none:=World.cell?_spot h
theorem qg_:prog.cellsOf 33=7:=k_
theorem ta_:prog.cellsOf 3=1:=k_
theorem al4_:prog.cellsOf 9=1:=k_
theorem al5_:prog.cellsOf 24=1:=k_
theorem al6_:prog.bytesOf 33=80:=k_
theorem al7_:prog.bytesOf 3=8:=k_
structure mf_ where
 (kd fa fb fc fd:Int)
 (st:ByteArray)
 (lo:Option Addr)
 (ll lc:Nat)
 (z:Nat->Int)
structure mf_.At (w:World)(b o:Nat)(r:mf_):Prop where
 c0:w.cell? ⟨b,o,none⟩=some (.int .i64 r.kd)
 c1:w.cell? ⟨b,o+1,none⟩=some (.int .i64 r.fa)
 c2:w.cell? ⟨b,o+2,none⟩=some (.int .i64 r.fb)
 c3:w.cell? ⟨b,o+3,none⟩=some (.int .i64 r.fc)
 c4:w.cell? ⟨b,o+4,none⟩=some (.int .i64 r.fd)
 c5:w.cell? ⟨b,o+5,none⟩=some (.string r.st)
 c6:w.cell? ⟨b,o+6,none⟩=some (.slice r.lo r.ll r.lc)
 ra: -9223372036854775808<=r.fa/\r.fa<=9223372036854775807
 rb: -9223372036854775808<=r.fb/\r.fb<=9223372036854775807
 rc: -9223372036854775808<=r.fc/\r.fc<=9223372036854775807
 str:r.st.size<=maxLen
 fh:kb_ w r.lo r.ll r.z
theorem al8_ {H:Type}{enc:TypeId×Value->H}{cap:Nat}{d:DataW H}{p:List MemPlace}{ts:List TypeId}{ds:List (DataW H)}
 (h:DataW.Trod enc prog W 0 (fun _=>true) true 22 (.slice ao len cap) d p) (hr:(DataW.weightsEach prog ts ds).all (·<=reachBytes)=true) (ht:ts[0]? =some 22) (hd:ds[0]? =some d):
 ∃r:Nat->mf_,len<=4398046511104/\∀i,i<len->∃b o,ao=some ⟨b,o,none⟩/\(r i).At W b (o+i*7):=by
 obtain⟨aw,hf⟩:=h;rcases open_slice underlying22 hf with ⟨g,_⟩|⟨a,l,c,m,n,D,Pl,g,_,hl,hm,aa,B,hall⟩
 . simp[Value.cells]at g;obtain⟨rfl,rfl,rfl⟩:=g;exact⟨fun _=>⟨0,0,0,0,0,⟨#[]⟩,none,0,0,fun _=>0⟩,o_,fun i q=>absurd q o_⟩
 . simp[Value.cells]at g;obtain⟨rfl,rfl,rfl⟩:=g;simp only[Prod.mk.injEq]at B;obtain⟨rfl,rfl⟩:=B;have V:=sized_slice hr ht hd underlying22;rw[al6_]at V;simp only[length_map,length_range]at V;have aA:=reachBytes_lt;simp only[if_true]at aa;subst aa;have ak:∀i,∃r:mf_,i<len->∃b o,a=⟨b,o,none⟩/\r.At W b (o+i*7):=by
    intro i;by_cases q:i<len
    . obtain⟨cs,g,an⟩:=hall i o_;obtain⟨_,Y,X⟩:=World.cells?_some g;rw[qg_]at X Y;obtain⟨y0,y1,y2,y3,y4,y5,y6,n2,hD,_,t0,t1,t2,t3,t4,t5,t6⟩:=al2_ underlying33 an;simp only[ta_,al4_,al5_]at t0 t1 t2 t3 t4 t5 t6;match cs,Y with
      | [v0,v1,v2,v3,v4,v5,v6],_=>
       simp only[List.drop,List.take]at t0 t1 t2 t3 t4 t5 t6;obtain⟨k0,N,_,_⟩:=DataW.trod_int underlying3 t0;obtain⟨k1,O,_,w1⟩:=DataW.trod_int underlying3 t1;obtain⟨k2,P,_,w2⟩:=DataW.trod_int underlying3 t2;obtain⟨k3,Q,_,w3⟩:=DataW.trod_int underlying3 t3;obtain⟨k4,R,_,w4⟩:=DataW.trod_int underlying3 t4;obtain⟨s5,S,_,w5⟩:=DataW.trod_string underlying9 t5;simp only[List.cons.injEq,and_true]at N O P Q R S;subst N;subst O;subst P;subst Q;subst R;subst S;obtain⟨v,ao,ad⟩:=a;have am:ad=none:=by
        obtain⟨G,I,_⟩:=hall 0 o_;obtain⟨_,J,A⟩:=World.cells?_some I;rw[qg_]at J A;have w:=A 0 o_;rw[ge_ (show 0<G.length by omega),Nat.zero_mul]at w;exact z8_ (a:=⟨v,ao,ad⟩) (by simpa [Addr.add] using w)
       subst am;have ag:∀j,((⟨v,ao,none⟩:Addr).add (i*prog.cellsOf 33)).add j=⟨v,ao+i*7+j,none⟩:=fun j=>by rw[qg_,n2_,n2_]
       have e:∀j,j<7->W.cell? ⟨v,ao+i*7+j,none⟩=[Value.int .i64 k0,.int .i64 k1,.int .i64 k2,.int .i64 k3,.int .i64 k4,.string s5,v6][j]? :=fun j hj=>by rw[<-ag j,qg_];exact X j hj
       obtain⟨E,C,K,z,rfl,hL⟩:∃E C K z,v6= .slice E C K/\kb_ W E C z:=by
        rcases open_slice underlying24 t6 with ⟨y,_⟩|⟨F,s,c6,L,n6,M,P6,y,_,ax,az,ac,ar,U⟩
        . simp only[List.cons.injEq,and_true]at y;exact⟨none,0,0,fun _=>0,y,o_,fun t ht=>absurd ht o_⟩
        . simp only[List.cons.injEq,and_true]at y;simp only[if_true]at ac;subst ac;have au:y6.1= .slice ((List.range s).map M) ((List.range (L - s)).map fun j=>M (s+j)):=by rw[ar]
          have aq:(s+(L - s))*prog.bytesOf 3∈DataW.weightsEach prog ts ds:=by
           refine DataW.weights_mem_each ht hd _ ?_;simp only[DataW.weights,underlying22,mc_,mp_];right;left;refine al3_ _ (D i) (mem_map.2 ⟨i,by simpa using q,rfl⟩) _ ?_;have af:D i= .agg [y0.1,y1.1,y2.1,y3.1,y4.1,y5.1,y6.1]:=hD;rw[af,au];simp[DataW.weights,DataW.weightsEach,underlying33,underlying24]
          have aj:=of_decide_eq_true (all_eq_true.1 hr _ aq);rw[al7_]at aj;refine⟨some F,s,L,fun t=>match W.cell? (F.add t)with|some (.int .i64 x)=>x|_=>0,y,o_,fun t ht=> ?_⟩;obtain⟨av,Z,ap⟩:=U t o_;rw[ta_,Nat.mul_one]at Z;obtain⟨_,ay,ah⟩:=World.cells?_some Z;obtain⟨x,B,_,_⟩:=DataW.trod_int underlying3 ap;subst B;have T:=ah 0 o_;obtain⟨k,u,ae⟩:=F;have al:ae=none:=by
           obtain⟨G,I,_⟩:=U 0 o_;obtain⟨_,J,A⟩:=World.cells?_some I;rw[ta_]at J A;have w:=A 0 o_;rw[ge_ (show 0<G.length by omega),Nat.zero_mul]at w;exact z8_ (a:=⟨k,u,ae⟩) (by simpa [Addr.add] using w)
          subst al;refine⟨k,u,rfl, ?_⟩;have ea:((⟨k,u,none⟩:Addr).add t)=⟨k,u+t,none⟩:=n2_ _ _ _;have eb:((⟨k,u,none⟩:Addr).add t).add 0=⟨k,u+t,none⟩:=by rw[n2_,n2_,Nat.add_zero]
          rw[eb]at T;rw[ea,T];rfl
       refine⟨⟨k0,k1,k2,k3,k4,s5,E,C,K,z⟩,fun _=>⟨v,ao,rfl,by simpa using e 0 o_,by simpa using e 1 o_,by simpa using e 2 o_,by simpa using e 3 o_,by simpa using e 4 o_,by simpa using e 5 o_,by simpa using e 6 o_,bounds_i64 w1,bounds_i64 w2,bounds_i64 w3,w5,hL⟩⟩
    . exact⟨⟨0,0,0,0,0,⟨#[]⟩,none,0,0,fun _=>0⟩,fun h=>absurd h q⟩
   obtain⟨f,ai⟩:=Classical.skolem.1 ak;refine⟨f,o_,fun i q=> ?_⟩;obtain⟨b,o,rfl,h⟩:=ai i q;exact⟨b,o,rfl,h⟩
theorem al9_ {w:World}{r:Nat->mf_}(hlen:len<=4398046511104)(h:∀i,i<len->∃b o,ao=some ⟨b,o,none⟩/\(r i).At w b (o+i*7)):
 nz_ w ao len (fun i=>(r i).kd) (fun i=>(r i).fa) (fun i=>(r i).fb) (fun i=>(r i).fc) (fun i=>(r i).fd) (fun i=>(r i).st) (fun i=>(r i).lo) (fun i=>(r i).ll) (fun i=>(r i).lc) (fun i=>(r i).z) where
 ln:=hlen
 cT i hi:=by
  obtain⟨b,o,e,a⟩:=h i hi;exact⟨b,o,e,a.c0,a.c1,a.c2,a.c3,a.c4,a.c5,a.c6⟩
 ra i hi:=by obtain⟨b,o,e,a⟩:=h i hi;exact a.ra
 rb i hi:=by obtain⟨b,o,e,a⟩:=h i hi;exact a.rb
 rc i hi:=by obtain⟨b,o,e,a⟩:=h i hi;exact a.rc
 str i hi:=by obtain⟨b,o,e,a⟩:=h i hi;exact a.str
 fh i hi:=by obtain⟨b,o,e,a⟩:=h i hi;exact a.fh
theorem ama_ (W0:Fw)(w:World)(bw:Nat)(vts:Value)(hs:List Hd)(hw:bj_ W0 w bw vts hs)(hn:hs.length<=4398046511104)(a b c d:Int)(s:ByteArray)(lo:Option Addr)(ll lc:Nat)(hss:s.size<=maxLen):
 Calls prog 18 #[.pointer (some ⟨bw,0,none⟩),.agg #[.int .i64 8,.int .i64 a,.int .i64 b,.int .i64 c,.int .i64 d,.string s,.slice lo ll lc]] w
  (fun e w'=>hp_ W0 bw hs.length e w'/\a5_ bw vts w w'):=by
 obtain⟨X,Z,W,-,-⟩:=ν w #[.int .i64 8,.int .i64 a,.int .i64 b,.int .i64 c,.int .i64 d,.string s,.slice lo ll lc] 33;have aB:X.heap.size=w.heap.size+1:=by rw[Z];simp
 have Y:=aw_ Z;obtain⟨x0,x1,x2,_,_,x5,_⟩:=bo_ Y;have af:=hw.below W;go_enter func18,ntmps18;go_upto_region 1 with fail;rw[<-Z];clear Z;cases hje:jm_ s a with
 |none=>
  obtain⟨p,t,hp,ae,ab,ac,ad,aC,aD⟩:=ahj_ hje;obtain⟨C,rfl⟩:∃n:Nat,a=(n:Int):=⟨a.toNat,o_⟩;clear hje;have ag:Hid (∀w1,Calls prog 30 #[.string s,.int .i64 (C:Int)] w1 fun e w'=>∃n,r9_ (g4_ p) C n w1 e w'):=fun w1=>ahq_ s C w1 hp ae ab ac ad o_ o_
  have F:Hid (∀w1,Calls prog 31 #[.string s,.int .i64 (C:Int)] w1 (zb_ (g4_ p) C w1)):=fun w1=>akm_ s C w1 hp ae ab ac ad o_ o_
  obtain⟨L,HL⟩:=δ (g4_ p);rw[HL.out]at ag F;clear hp ae ab ac ad HL;have E:=ag.out X;go_wp2_with fail;refine E.mono ?_;clear E x0 x1 x2 x5;rintro e w6 ⟨n,v,D,rfl,y,⟨R,u,hR,aA,N,an,ak,al⟩|⟨N,aE,am⟩⟩
  . obtain⟨rfl,rfl⟩:v=_/\D=_:=by simpa using N
    clear N;have ap:=y.size;go_upto_region 6 with fail;obtain⟨I,m,x,ar,q⟩:=ν w6 #[.slice (some ⟨u.ba,u.oa,none⟩) R.n u.ca,.slice (some ⟨u.bn,u.on,none⟩) R.n u.cn] 41;rw[<-m];clear m;have j:=η y x;obtain⟨P,S,T,_,_,V,_⟩:=bo_ ((j.block _ o_).trans Y);have k:=F.out I;have HR:Hid _:=hR;have aj:Hid _:=an;have ah:=α ak;have ai:Hid _:=al;clear hR an ak al;go_wp2_with fail;refine k.mono ?_;clear k;rintro e O ⟨g,⟨U,Q,A,aa,rfl,hU⟩|⟨rfl,Q,A,aa⟩⟩
    . have aq:=g.size;go_upto_region 7 with fail;obtain⟨J,o,i,au,r⟩:=ν O #[.slice (some ⟨U.ba,U.oa,none⟩) Q.n U.ca,.slice (some ⟨U.bn,U.on,none⟩) Q.n U.cn] 41;rw[<-o];clear o;have f:=η g i;have h:=η j f;obtain⟨f0,f1,_,_⟩:=β ((f.block _ o_).trans q);obtain⟨K,M,_,_⟩:=β r;have BD:=η x f;have l:=n0_ W0 X J bw vts hs af h hn u U R Q L HR.out A (aj.out.below BD) (ai.out.below BD) ah.out (hU.below i) o_;clear P S T V f BD g i x q r A HR aj ah ai hU;go_wp2_with fail;refine l.mono ?_;clear l;rintro e B ⟨⟨rfl,az,ay,ao,ax⟩,hK⟩;have G:Hid _:=ao;have H:Hid (a5_ bw vts w B):=a5_.from W hK
      clear hK;clear ao f0 f1 K M;go_wp2_with fail;go_ret;exact⟨⟨rfl,az,ay,G.out,ax⟩,H.out⟩
    . exfalso;have:=(qc_ HR.out A).n;omega
  . obtain⟨rfl,rfl⟩:v=_/\D=_:=by simpa using N
    clear N;have ap:=y.size;go_upto_region 6 with fail;obtain⟨I,m,x,ar,q⟩:=ν w6 #[.slice none 0 0,.slice none 0 0] 41;rw[<-m];clear m;have j:=η y x;obtain⟨P,S,T,_,_,V,_⟩:=bo_ ((j.block _ o_).trans Y);have k:=F.out I;have av:Hid _:=am;clear am;go_wp2_with fail;refine k.mono ?_;clear k;rintro e O ⟨g,⟨U,Q,A,aa,rfl,hU⟩|⟨rfl,Q,A,aa⟩⟩
    . exfalso;have:=av.out Q A;omega
    . have aq:=g.size;go_upto_region 7 with fail;obtain⟨J,o,i,au,r⟩:=ν O #[.slice none 0 0,.slice none 0 0] 41;rw[<-o];clear o;have f:=η g i;have h:=η j f;obtain⟨f0,f1,_,_⟩:=β ((f.block _ o_).trans q);obtain⟨K,M,_,_⟩:=β r;have l:=kf_ bw 5 J d_;clear P S T V f g i q r;go_wp2_with fail;refine l.mono ?_;clear l;rintro e B ⟨rfl,z⟩;have G:Hid (bj_ W0 B bw vts hs):=af.below (h.trans (z.mono o_));have H:Hid (a5_ bw vts w B):=a5_.from W (a5_.cS (h.trans (z.mono o_)))
      clear z h f0 f1 K M;go_wp2_with fail;go_ret;exact⟨⟨rfl,_,_,G.out,o_⟩,H.out⟩
 |some v=>
  obtain⟨D,pl⟩:=v;have E:=ahr_ s a X hss hje;have F:Hid (∀w1,Calls prog 31 #[.string s,.int .i64 a] w1 (g5_ D pl w1)):=fun w1=>akl_ s a w1 hss hje
  have aw:D≠0:=by
   rcases yf_ hje with ⟨_,rfl,_⟩|⟨_,_,rfl⟩|⟨_,_,_,_,_,⟨_,rfl,_⟩|⟨_,_,rfl,_⟩|⟨_,_,_,rfl,_⟩⟩<;>decide
  clear hje;go_wp2_with fail;refine E.mono ?_;clear E x0 x1 x2 x5;rintro e w6 ⟨rfl,y⟩;have ap:=y.size;go_upto_region 6 with fail;obtain⟨I,m,x,ar,q⟩:=ν w6 #[.slice none 0 0,.slice none 0 0] 41;rw[<-m];clear m;have j:=η y x;obtain⟨P,S,T,_,_,V,_⟩:=bo_ ((j.block _ o_).trans Y);have k:=F.out I;go_wp2_with fail;refine k.mono ?_;clear k;rintro e O ⟨rfl,g⟩;have aq:=g.size;go_upto_region 7 with fail;obtain⟨J,o,i,au,r⟩:=ν O #[.slice none 0 0,.slice none 0 0] 41;rw[<-o];clear o;have f:=η g i;have h:=η j f;obtain⟨f0,f1,_,_⟩:=β ((f.block _ o_).trans q);obtain⟨K,M,_,_⟩:=β r;have l:=kf_ bw D J aw;clear P S T V f g i q r;go_wp2_with fail;refine l.mono ?_;clear l;rintro e B ⟨rfl,z⟩;have G:Hid (bj_ W0 B bw vts hs):=af.below (h.trans (z.mono o_));have H:Hid (a5_ bw vts w B):=a5_.from W (a5_.cS (h.trans (z.mono o_)))
  clear z h f0 f1 K M;go_wp2_with fail;go_ret;exact⟨⟨rfl,_,_,G.out,o_⟩,H.out⟩
theorem amb_ (W0:Fw)(w:World)(bw:Nat)(vts:Value)(hs:List Hd)(h:bj_ W0 w bw vts hs)(a b c d:Int)(s:ByteArray)(lo:Option Addr)(ll lc:Nat)(hn:hs.length<=4398046511104)(hss:s.size<=maxLen):
 Calls prog 12 #[.pointer (some ⟨bw,0,none⟩),.agg #[.int .i64 8,.int .i64 a,.int .i64 b,.int .i64 c,.int .i64 d,.string s,.slice lo ll lc]] w (hp_ W0 bw hs.length):=by
 obtain⟨W,j,k,-,m⟩:=ν w #[.int .i64 8,.int .i64 a,.int .i64 b,.int .i64 c,.int .i64 d,.string s,.slice lo ll lc] 33;have g:=h.below k;obtain⟨o,p,q,r,t,u,v⟩:=bo_ m;have f:=ama_ W0 W bw vts hs g hn a b c d s lo ll lc hss;clear h g;go_enter func12,ntmps12;go_upto_region 1 with fail;rw[<-j];clear j;go_wp2_with fail;refine f.mono ?_;clear f;rintro e n ⟨⟨rfl,i⟩,_⟩;have l:Hid _:=i;clear i;go_wp2_with fail;go_ret;exact⟨rfl,l.out⟩
theorem amc_ (W0:Fw)(w:World)(bw:Nat)(vts:Value)(hs:List Hd)(hw:bj_ W0 w bw vts hs)(hn:hs.length<=4398046511104)(a b c d:Int)(s:ByteArray)(lo:Option Addr)(ll lc:Nat)(hss:s.size<=maxLen):
 Calls prog 18 #[.pointer (some ⟨bw,0,none⟩),.agg #[.int .i64 9,.int .i64 a,.int .i64 b,.int .i64 c,.int .i64 d,.string s,.slice lo ll lc]] w
  (fun e w'=>hp_ W0 bw hs.length e w'/\a5_ bw vts w w'):=by
 obtain⟨O,S,N,-,-⟩:=ν w #[.int .i64 9,.int .i64 a,.int .i64 b,.int .i64 c,.int .i64 d,.string s,.slice lo ll lc] 33;have ax:O.heap.size=w.heap.size+1:=by rw[S];simp
 have P:=aw_ S;obtain⟨x0,x1,x2,_,_,x5,_⟩:=bo_ P;have ac:=hw.below N;go_enter func18,ntmps18;go_upto_region 1 with fail;rw[<-S];clear S;by_cases B:hz_ s a b=0
 . have k:=B;unfold hz_ at k;cases htt:(decide (s.size<=12)&&as_ s s.size)
   . rw[htt]at k;simp at k
   rw[htt]at k;simp only[Bool.true_eq_false,if_false]at k;have ha:0<=a/\a<=2:=by
    refine cc_ (fun hn'=> ?_);rw[if_pos o_]at k;omega
   rw[if_neg o_]at k;have hb:1<=b/\b<=40:=by
    refine cc_ (fun hn'=> ?_);rw[if_pos o_]at k;omega
   have ab:s.size<=12:=by simp at htt;exact htt.1
   have ht:dh_ s:=(jg_ s).1 (by simp at htt;exact htt.2);obtain⟨T,rfl⟩:∃n:Nat,a=(n:Int):=⟨a.toNat,o_⟩;obtain⟨Z,rfl⟩:∃n:Nat,b=(n:Int):=⟨b.toNat,o_⟩;clear k B htt;have A:=aja_ s T Z O ab o_ ht o_ o_;go_wp2_with fail;refine A.mono ?_;clear A x0 x1 x2 x5;rintro e V ⟨n,v,⟨R,t,hR,aw,rfl,aj,ag,ah⟩|⟨rfl,ay,ai⟩⟩
   . have al:=v.size;go_upto_region 3 with fail;obtain⟨E,o,u,an,q⟩:=ν V #[.slice (some ⟨t.ba,t.oa,none⟩) R.n t.ca,.slice (some ⟨t.bn,t.on,none⟩) R.n t.cn] 41;rw[<-o];clear o;have l:=η v u;obtain⟨J,K,L,_,_,M,_⟩:=bo_ ((l.block _ o_).trans P);have i:=z3_ s T Z E ab o_ ht o_ o_;have Y:Hid _:=hR;have af:Hid _:=aj;have ad:=α ag;have ae:Hid _:=ah;clear hR aj ag ah;go_wp2_with fail;refine i.mono ?_;clear i;rintro e I ⟨g,⟨U,Q,y,aa,rfl,hU⟩|⟨rfl,Q,y,aa⟩⟩
     . have am:=g.size;go_upto_region 4 with fail;obtain⟨F,p,j,ao,r⟩:=ν I #[.slice (some ⟨U.ba,U.oa,none⟩) Q.n U.ca,.slice (some ⟨U.bn,U.on,none⟩) Q.n U.cn] 41;rw[<-p];clear p;have f:=η g j;have h:=η l f;obtain⟨f0,f1,_,_⟩:=β ((f.block _ o_).trans q);obtain⟨G,H,_,_⟩:=β r;have W:=η u f;have m:=n0_ W0 O F bw vts hs ac h hn t U R Q (Ear.lang ⟨a7_ s,s.size,T⟩) Y.out y (af.out.below W) (ae.out.below W) ad.out (hU.below j) o_;clear J K L M f W g j u q r y Y af ad ae hU;go_wp2_with fail;refine m.mono ?_;clear m;rintro e z ⟨⟨rfl,av,au,ak,ar⟩,hK⟩;have C:Hid _:=ak;have D:Hid (a5_ bw vts w z):=a5_.from N hK
       clear hK;clear ak f0 f1 G H;go_wp2_with fail;go_ret;exact⟨⟨rfl,av,au,C.out,ar⟩,D.out⟩
     . exfalso;have:=(qc_ Y.out y).n;omega
   . have al:=v.size;go_upto_region 3 with fail;obtain⟨E,o,u,an,q⟩:=ν V #[.slice none 0 0,.slice none 0 0] 41;rw[<-o];clear o;have l:=η v u;obtain⟨J,K,L,_,_,M,_⟩:=bo_ ((l.block _ o_).trans P);have i:=z3_ s T Z E ab o_ ht o_ o_;have ap:Hid _:=ai;clear ai;go_wp2_with fail;refine i.mono ?_;clear i;rintro e I ⟨g,⟨U,Q,y,aa,rfl,hU⟩|⟨rfl,Q,y,aa⟩⟩
     . exfalso;have:=ap.out Q y;omega
     . have am:=g.size;go_upto_region 4 with fail;obtain⟨F,p,j,ao,r⟩:=ν I #[.slice none 0 0,.slice none 0 0] 41;rw[<-p];clear p;have f:=η g j;have h:=η l f;obtain⟨f0,f1,_,_⟩:=β ((f.block _ o_).trans q);obtain⟨G,H,_,_⟩:=β r;have m:=kf_ bw 5 F d_;clear J K L M f g j q r;go_wp2_with fail;refine m.mono ?_;clear m;rintro e z ⟨rfl,x⟩;have C:Hid (bj_ W0 z bw vts hs):=ac.below (h.trans (x.mono o_));have D:Hid (a5_ bw vts w z):=a5_.from N (a5_.cS (h.trans (x.mono o_)))
       clear x h f0 f1 G H;go_wp2_with fail;go_ret;exact⟨⟨rfl,_,_,C.out,o_⟩,D.out⟩
 . have A:=ajb_ s a b O hss B;obtain⟨er,X⟩:=δ (hz_ s a b);have aq:er≠0:=by rw[<-X.out];exact B
   rw[X.out]at A;go_wp2_with fail;refine A.mono ?_;clear A x0 x1 x2 x5;rintro e V ⟨rfl,v⟩;have al:=v.size;go_upto_region 3 with fail;obtain⟨E,o,u,an,q⟩:=ν V #[.slice none 0 0,.slice none 0 0] 41;rw[<-o];clear o;have l:=η v u;obtain⟨J,K,L,_,_,M,_⟩:=bo_ ((l.block _ o_).trans P);have i:=alp_ s a b E hss B;rw[X.out]at i;clear B;go_wp2_with fail;refine i.mono ?_;clear i;rintro e I ⟨rfl,g⟩;have am:=g.size;go_upto_region 4 with fail;obtain⟨F,p,j,ao,r⟩:=ν I #[.slice none 0 0,.slice none 0 0] 41;rw[<-p];clear p;have f:=η g j;have h:=η l f;obtain⟨f0,f1,_,_⟩:=β ((f.block _ o_).trans q);obtain⟨G,H,_,_⟩:=β r;have m:=kf_ bw er F aq;clear J K L M f g j q r;go_wp2_with fail;refine m.mono ?_;clear m;rintro e z ⟨rfl,x⟩;have C:Hid (bj_ W0 z bw vts hs):=ac.below (h.trans (x.mono o_));have D:Hid (a5_ bw vts w z):=a5_.from N (a5_.cS (h.trans (x.mono o_)))
   clear x h f0 f1 G H;go_wp2_with fail;go_ret;exact⟨⟨rfl,_,_,C.out,o_⟩,D.out⟩
theorem amd_ (W0:Fw)(w:World)(bw:Nat)(vts:Value)(hs:List Hd)(h:bj_ W0 w bw vts hs)(a b c d:Int)(s:ByteArray)(lo:Option Addr)(ll lc:Nat)(hn:hs.length<=4398046511104)(hss:s.size<=maxLen):
 Calls prog 12 #[.pointer (some ⟨bw,0,none⟩),.agg #[.int .i64 9,.int .i64 a,.int .i64 b,.int .i64 c,.int .i64 d,.string s,.slice lo ll lc]] w (hp_ W0 bw hs.length):=by
 obtain⟨W,j,k,-,m⟩:=ν w #[.int .i64 9,.int .i64 a,.int .i64 b,.int .i64 c,.int .i64 d,.string s,.slice lo ll lc] 33;have g:=h.below k;obtain⟨o,p,q,r,t,u,v⟩:=bo_ m;have f:=amc_ W0 W bw vts hs g hn a b c d s lo ll lc hss;clear h g;go_enter func12,ntmps12;go_upto_region 1 with fail;rw[<-j];clear j;go_wp2_with fail;refine f.mono ?_;clear f;rintro e n ⟨⟨rfl,i⟩,_⟩;have l:Hid _:=i;clear i;go_wp2_with fail;go_ret;exact⟨rfl,l.out⟩
theorem ame_ (W0:Fw)(w:World)(bw:Nat)(vts:Value)(hs:List Hd)(hw:bj_ W0 w bw vts hs)(hn:hs.length<=4398046511104)(a b c d:Int)(s:ByteArray)(lo:Option Addr)(ll lc:Nat)(t:TL)(A:Nat->Bool)(X:Nat->Nat->Int)(h:fh_ w t A X)(hne:0<hs.length)(hb:I64 b):
 Calls prog 21 #[.pointer (some ⟨bw,0,none⟩),.agg #[.int .i64 7,.int .i64 a,.int .i64 b,.int .i64 c,.int .i64 d,.string s,.slice lo ll lc],.agg #[.slice (some ⟨t.ba,0,none⟩) t.na t.ca,.slice (some ⟨t.bn,0,none⟩) t.nn t.cn]] w
  (fun e w'=>hp_ W0 bw hs.length e w'/\a5_ bw vts w w'):=by
 have Y:=h.na;have g2:=h.ca;have g4:=h.nn;have g5:=h.cn;obtain⟨W,hW,BW,b0,b1⟩:=bl_ w #[.int .i64 7,.int .i64 a,.int .i64 b,.int .i64 c,.int .i64 d,.string s,.slice lo ll lc] 33 #[.slice (some ⟨t.ba,0,none⟩) t.na t.ca,.slice (some ⟨t.bn,0,none⟩) t.nn t.cn] 41;have bG:w.heap.size+1<W.heap.size:=by rw[hW];simp
 have hR:=(h.below BW).raw;have g:=lv_ _ _ _ _ _ _ _ _ _ A X W hR o_ o_ (fun i hi=>by have:=h.rl i o_;have:=h.rc i o_;omega);have bu:∀i,i<t.nn->t.rl i<=9223372036854775807:=fun i hi=>by have:=h.rl i o_;have:=h.rc i o_;omega
 go_enter func21,ntmps21;go_wp2_with fail;rw[<-hW];clear hW;refine Calls.mono g ?_;clear g;rintro e w1 ⟨Z,ga,aS,gn,aU,rb,rc,rfl,hC⟩;have bJ:=Z.size;have a3:=hR.below Z;have c0:=(Z.block _ o_).trans b0;have c1:=(Z.block _ o_).trans b1;rw[iv_,iv_];have hM:=hC.raw aS aU o_ o_ bu;clear b0 b1 hC;generalize (if t.na=0 then none else some (⟨ga,0,none⟩:Addr))=ma at hM ⊢;generalize (if t.nn=0 then none else some (⟨gn,0,none⟩:Addr))=mn at hM ⊢;generalize (if t.na=0 then 0 else aS)=mca at hM ⊢;generalize (if t.nn=0 then 0 else aU)=mcn at hM ⊢;go_upto_region 2 with fail;obtain⟨u,bb,aa,bK,c2⟩:=ν w1 #[.slice ma t.na mca,.slice mn t.nn mcn] 41;have d0:=(aa.block _ o_).trans c0;have d1:=(aa.block _ o_).trans c1;have a4:=a3.below aa;have a2:=hM.below aa;have aC:Bl w u:=(BW.trans (Z.mono o_)).trans (aa.mono o_);rw[<-bb];clear bb c0 c1 Z aa hR a3 hM BW h;have aq:=hw.below aC;obtain⟨x0,_,x2,x3,x4,_,_⟩:=bo_ d0;obtain⟨y0,y1,_,_⟩:=β d1;obtain⟨T,V,_,_⟩:=β c2;obtain⟨al,J,rfl,be⟩:=Β aq.own;obtain⟨D,rfl,bf⟩:=be hne;obtain⟨O,aQ⟩:=δ (f2_ b hs.length);have bi:O<hs.length:=by rw[<-aQ.out];exact jo_ _ _ o_
 have HP:=fun w=>jp_ b hs.length w o_ o_ hb.1 hb.2
 rw[tn_,aQ.out]at HP;have v0:=(bf O o_).trans (lf_ hs O bi);have hd:=aq.dJ _ (getElem_mem bi);obtain⟨f,aK⟩:∃x,Hid (hs[O]=x):=⟨hs[O],by unfold Hid;rfl⟩;rw[aK.out]at v0 hd;obtain⟨v1,_,_,_⟩:=ev_ aq.cg;obtain⟨u0,u1,_,_⟩:=jn_ hd.cg;have bI:(O:Int)<(hs.length:Int):=o_;have hD:fh_ u f.t f.A f.X:=hd.tl;clear be bf hd aK;have aD:Hid _:=aq;have aN:Hid _:=a4;have aO:Hid _:=a2;have aP:Hid _:=hD;have av:Hid _:=d0;have bq:Hid _:=d1;have aE:Hid _:=c2;have aF:Hid _:=aC;clear aq a4 a2 hD d0 d1 c2 aC;go_upto_region 20 with fail;go_cut [26] (fun p26 wc=>p26= .pointer (some ⟨u.heap.size,0,none⟩)/\wc=(u.alloc (.cells #[.slice (some ⟨f.t.ba,0,none⟩) f.t.na f.t.ca,.slice (some ⟨f.t.bn,0,none⟩) f.t.nn f.t.cn] 41)).drew)
 case first=>
  refine wp_region_noPanic ?_;refine wp_region_held_drew (S:=(fun w'=>w'.cell? ⟨bw,0,none⟩=some (.slice (some ⟨D,0,none⟩) hs.length J)/\w'.cell? ⟨w.heap.size,2,none⟩=some (.int .i64 b)/\w'.cell? ⟨D,O,none⟩=some (.pointer (some ⟨f.bh,0,none⟩))/\w'.cell? ⟨f.bh,0,none⟩=some (.slice (some ⟨f.t.ba,0,none⟩) f.t.na f.t.ca)/\w'.cell? ⟨f.bh,1,none⟩=some (.slice (some ⟨f.t.bn,0,none⟩) f.t.nn f.t.cn))) k_ ?_ (fun hHeld0=> ?_)
  . (try dsimp only);go_keep
  refine Ξ (i:=0) ?_;refine Ξ (i:=1) ?_;refine Ξ (i:=2) ?_;refine Ξ (i:=3) ?_;refine Ξ (i:=4) ?_;refine Ξ (i:=5) ?_;refine Ξ (i:=6) ?_;refine Ξ (i:=7) ?_;refine Ξ (i:=8) ?_;refine Ξ (i:=9) ?_;refine Ξ (i:=10) ?_;refine wpAnyH_ready (rs:=[11,17]) k_ i_ ?_;refine AllReadyH.cons g_ (fun K hK=> ?_) ?_
  . go_simp;refine(HP _).mono ?_;rintro e w' ⟨rfl,rfl⟩;try dsimp only
    refine hk_ hK (fun hHeld1=> ?_);clear hK K hHeld0;refine Ξ (i:=12) ?_;refine Ξ (i:=13) ?_;refine Ξ (i:=14) ?_;refine Ξ (i:=15) ?_;refine Ξ (i:=16) ?_;refine wr_ (i:=17) (fun K hK=> ?_);go_simp;refine hk_ hK (fun hHeld2=> ?_);clear hK K hHeld1;refine wr_ (i:=18) (fun K hK=> ?_);go_simp;refine hk_ hK (fun hHeld3=> ?_);clear hK K hHeld2;refine wpAnyH_done k_ ?_ _;refine NoPanic.normal ?_;go_wp2_with fail;go_meet
    exact⟨rfl,rfl⟩
  refine AllReadyH.cons g_ (fun K hK=> ?_) ?_
  . go_simp;refine hk_ hK (fun hHeld4=> ?_);clear hK K hHeld0;refine wr_ (i:=11) (fun K hK=> ?_);go_simp;refine(HP _).mono ?_;rintro e w' ⟨rfl,rfl⟩;try dsimp only
    refine hk_ hK (fun hHeld5=> ?_);clear hK K hHeld4;refine Ξ (i:=12) ?_;refine Ξ (i:=13) ?_;refine Ξ (i:=14) ?_;refine Ξ (i:=15) ?_;refine Ξ (i:=16) ?_;refine wr_ (i:=18) (fun K hK=> ?_);go_simp;refine hk_ hK (fun hHeld6=> ?_);clear hK K hHeld5;refine wpAnyH_done k_ ?_ _;refine NoPanic.normal ?_;go_wp2_with fail;go_meet
    exact⟨rfl,rfl⟩
  exact AllReadyH.nil
 case rest=>
  obtain⟨rfl,aB⟩:=hcut;have bc:Bl u wc:=by rw[aB];exact ξ.drew
  have sc:u.heap.size<wc.heap.size:=by rw[aB];simp
  have q0:wc.heap[u.heap.size]? =some (.cells #[.slice (some ⟨f.t.ba,0,none⟩) f.t.na f.t.ca,.slice (some ⟨f.t.bn,0,none⟩) f.t.nn f.t.cn] 41 (0,0)):=by rw[aB];exact ο rfl
  clear aB x0 x2 x3 x4 y0 y1 T V v0 v1 u0 u1 HP;have p:=aP.out.below bc;have bC:=p.na;have bD:=p.ca;have bE:=p.nn;have bF:=p.cn;have g:=lv_ _ _ _ _ _ _ _ _ _ f.A f.X wc p.raw o_ o_ (fun i hi=>by have:=p.rl i o_;have:=p.rc i o_;omega);have bv:∀i,i<f.t.nn->f.t.rl i<=9223372036854775807:=fun i hi=>by have:=p.rl i o_;have:=p.rc i o_;omega
  obtain⟨k0,k1,_,_⟩:=β q0;go_wp2_with fail;refine Calls.mono g ?_;clear g;rintro e w4 ⟨ak,bs,aT,bt,aV,ar,au,rfl,aY⟩;have bL:=ak.size;rw[iv_,iv_];have ac:=aY.raw aT aV o_ o_ bv;have aH:=p.raw.below ak;clear aY k0 k1;generalize (if f.t.na=0 then none else some (⟨bs,0,none⟩:Addr))=oa at ac ⊢;generalize (if f.t.nn=0 then none else some (⟨bt,0,none⟩:Addr))=on at ac ⊢;generalize (if f.t.na=0 then 0 else aT)=oca at ac ⊢;generalize (if f.t.nn=0 then 0 else aV)=ocn at ac ⊢;go_upto_region 22 with fail;obtain⟨W5,bd,ah,bM,aJ⟩:=ν w4 #[.slice oa f.t.na oca,.slice on f.t.nn ocn] 41;rw[<-bd];clear bd;have z:Bl u W5:=(bc.trans (ak.mono o_)).trans (ah.mono o_);have bo:=η ak ah;have aA:=aN.out.below z;have ay:=aH.below ah;have ad:=ac.below ah;have ab:=aO.out.below z;obtain⟨_,_,_,x3,x4,_,_⟩:=bo_ ((z.block _ o_).trans av.out);obtain⟨y0,y1,_,_⟩:=β ((z.block _ o_).trans bq.out);obtain⟨k0,k1,_,_⟩:=β ((bo.block _ o_).trans q0);have az:cg_ ⟨ma,mn,t.na,mca,t.nn,mcn,fun i=>if t.rl i=0 then none else some ⟨rb i,0,none⟩,t.rl,fun i=>if t.rl i=0 then 0 else rc i⟩ ⟨oa,on,f.t.na,oca,f.t.nn,ocn,fun i=>if f.t.rl i=0 then none else some ⟨ar i,0,none⟩,f.t.rl,fun i=>if f.t.rl i=0 then 0 else au i⟩ X f.X c d=cg_ t.lay f.t.lay X f.X c d:=by
   unfold cg_;rw[g6_ (r:=⟨ma,mn,t.na,mca,t.nn,mcn,fun i=>if t.rl i=0 then none else some ⟨rb i,0,none⟩,t.rl,fun i=>if t.rl i=0 then 0 else rc i⟩) (r':=t.lay) (X:=X) rfl rfl rfl,g6_ (r:=⟨oa,on,f.t.na,oca,f.t.nn,ocn,fun i=>if f.t.rl i=0 then none else some ⟨ar i,0,none⟩,f.t.rl,fun i=>if f.t.rl i=0 then 0 else au i⟩) (r':=f.t.lay) (X:=f.X) rfl rfl rfl]
  clear ac aH ak bc ah q0 aN aO aP p;by_cases ag:cg_ t.lay f.t.lay X f.X c d=0
  . have q:=ag;unfold cg_ at q;cases hok1:Ο t.lay X
    . rw[hok1]at q;simp at q
    cases hok2:Ο f.t.lay f.X
    . rw[hok1,hok2]at q;simp at q
    rw[hok1,hok2]at q;simp only[Bool.true_eq_false,if_false]at q;have ae:0<=c/\c<=3:=by
     refine cc_ (fun hn'=> ?_);rw[if_pos o_]at q;omega
    rw[if_neg o_]at q;have af:1<=d/\d<=40:=by
     refine cc_ (fun hn'=> ?_);rw[if_pos o_]at q;omega
    have ao:=(g6_ (r:=⟨ma,mn,t.na,mca,t.nn,mcn,fun i=>if t.rl i=0 then none else some ⟨rb i,0,none⟩,t.rl,fun i=>if t.rl i=0 then 0 else rc i⟩) (r':=t.lay) (X:=X) rfl rfl rfl).trans hok1;have ap:=(g6_ (r:=⟨oa,on,f.t.na,oca,f.t.nn,ocn,fun i=>if f.t.rl i=0 then none else some ⟨ar i,0,none⟩,f.t.rl,fun i=>if f.t.rl i=0 then 0 else au i⟩) (r':=f.t.lay) (X:=f.X) rfl rfl rfl).trans hok2;clear q ag az;obtain⟨V1,aW,a7⟩:=ex_ aA hok1;obtain⟨V2,aX,a8⟩:=ex_ ay hok2;have g:=aoi_ V1 V2 _ _ c d W5 (fd_ hok1) (fd_ hok2) a7 a8 ae.1 ae.2 af.1 af.2;rw[<-aW,<-aX]at g;simp only[aj_.val,TL.lay]at g;have aw:=fd_ (A:=A) ao;have ax:=fd_ (A:=f.A) ap;clear aW a7 aX a8 aA ay;go_wp2_with fail;refine g.mono ?_;clear g;rintro e w6 ⟨L,⟨R,C,hR,aH,rfl,a6,a0,a1⟩|⟨rfl,bH,a5⟩⟩
    . have bj:=L.size;go_upto_region 23 with fail;obtain⟨W6,E,I,bl,G⟩:=ν w6 #[.slice (some ⟨C.ba,C.oa,none⟩) R.n C.ca,.slice (some ⟨C.bn,C.on,none⟩) R.n C.cn] 41;rw[<-E];clear E;have k:=η L I;have m:=η z k;obtain⟨V3,ai,am⟩:=ex_ (ab.below k) ao;obtain⟨V4,aj,an⟩:=ex_ (ad.below k) ap;have j:=yj_ yk_ V3 V4 _ _ c d W6 aw ax am an ae.1 ae.2 af.1 af.2;rw[<-ai,<-aj]at j;simp only[aj_.val]at j;obtain⟨T,V,_,_⟩:=β ((m.block _ o_).trans aE.out);obtain⟨z2,z3,_,_⟩:=β ((k.block _ o_).trans aJ);obtain⟨_,_,_,z4,z5,_,_⟩:=bo_ ((m.block _ o_).trans av.out);have HR:Hid _:=hR;have aR:Hid _:=a6;have aL:Hid _:=a0;have aM:Hid _:=a1;clear hok1 hok2 ao ap ai am aj an x3 x4 y0 y1 k0 k1 ab ad hR a6 a0 a1 aw ax;go_wp2_with fail;refine j.mono ?_;clear j;rintro e w7 ⟨o,⟨U,Q,N,aG,rfl,hU⟩|⟨rfl,Q,N,aG⟩⟩
      . have bk:=o.size;go_upto_region 24 with fail;obtain⟨W7,F,y,bm,H⟩:=ν w7 #[.slice (some ⟨U.ba,U.oa,none⟩) Q.n U.ca,.slice (some ⟨U.bn,U.on,none⟩) Q.n U.cn] 41;rw[<-F];clear F;have l:=η o y;have v:=η m l;have BD:=η I l;obtain⟨f0,f1,_,_⟩:=β ((l.block _ o_).trans G);obtain⟨g0,Y,_,_⟩:=β H;have aZ:C.cP u.heap.size R.n:=aL.out.mono (by have:=z.size;omega);have B:=n0_ W0 u W7 bw (.slice (some ⟨D,0,none⟩) hs.length J) hs aD.out v hn C U R Q (fun x=>fa_ c ((by_ t.lay A X).b6 x) ((by_ f.t.lay f.A f.X).b6 x)) HR.out N (aR.out.below BD) (aM.out.below BD) aZ (hU.below y) o_;clear T V z2 z3 z4 z5 l BD o y I G H N HR aR aL aM hU aZ;go_wp2_with fail;refine B.mono ?_;clear B;rintro e P ⟨⟨rfl,bB,bA,a9,bz⟩,hK⟩;have HF:Hid _:=a9;have HK:Hid (a5_ bw (.slice (some ⟨D,0,none⟩) hs.length J) w P):=a5_.from aF.out hK
        clear hK;clear a9 f0 f1 g0 Y;go_wp2_with fail;go_ret;exact⟨⟨rfl,bB,bA,HF.out,bz⟩,HK.out⟩
      . exfalso;have:=(qc_ HR.out N).n;omega
    . have bj:=L.size;go_upto_region 23 with fail;obtain⟨W6,E,I,bl,G⟩:=ν w6 #[.slice none 0 0,.slice none 0 0] 41;rw[<-E];clear E;have k:=η L I;have m:=η z k;obtain⟨V3,ai,am⟩:=ex_ (ab.below k) ao;obtain⟨V4,aj,an⟩:=ex_ (ad.below k) ap;have j:=yj_ yk_ V3 V4 _ _ c d W6 aw ax am an ae.1 ae.2 af.1 af.2;rw[<-ai,<-aj]at j;simp only[aj_.val]at j;obtain⟨T,V,_,_⟩:=β ((m.block _ o_).trans aE.out);obtain⟨z2,z3,_,_⟩:=β ((k.block _ o_).trans aJ);obtain⟨_,_,_,z4,z5,_,_⟩:=bo_ ((m.block _ o_).trans av.out);have br:Hid _:=a5;clear hok1 hok2 ao ap ai am aj an x3 x4 y0 y1 k0 k1 ab ad a5 aw ax;go_wp2_with fail;refine j.mono ?_;clear j;rintro e w7 ⟨o,⟨U,Q,N,aG,rfl,hU⟩|⟨rfl,Q,N,aG⟩⟩
      . exfalso;have:=br.out Q N;omega
      . have bk:=o.size;go_upto_region 24 with fail;obtain⟨W7,F,y,bm,H⟩:=ν w7 #[.slice none 0 0,.slice none 0 0] 41;rw[<-F];clear F;have l:=η o y;have v:=η m l;obtain⟨f0,f1,_,_⟩:=β ((l.block _ o_).trans G);obtain⟨g0,Y,_,_⟩:=β H;have B:=kf_ bw 5 W7 d_;clear T V z2 z3 z4 z5 l o y G H;go_wp2_with fail;refine B.mono ?_;clear B;rintro e P ⟨rfl,M⟩;have HF:Hid (bj_ W0 P bw (.slice (some ⟨D,0,none⟩) hs.length J) hs):=aD.out.below (v.trans (M.mono o_));have HK:Hid (a5_ bw (.slice (some ⟨D,0,none⟩) hs.length J) w P):=a5_.from aF.out (a5_.cS (v.trans (M.mono o_)))
        clear M v f0 f1 g0 Y;go_wp2_with fail;go_ret;exact⟨⟨rfl,_,_,HF.out,o_⟩,HK.out⟩
  . have g:=abg_ t.lay f.t.lay A f.A X f.X c d W5 aA ay ag;simp only[TL.lay]at g;have bg:cg_ ⟨ma,mn,t.na,mca,t.nn,mcn,fun i=>if t.rl i=0 then none else some ⟨rb i,0,none⟩,t.rl,fun i=>if t.rl i=0 then 0 else rc i⟩ ⟨oa,on,f.t.na,oca,f.t.nn,ocn,fun i=>if f.t.rl i=0 then none else some ⟨ar i,0,none⟩,f.t.rl,fun i=>if f.t.rl i=0 then 0 else au i⟩ X f.X c d≠0:=by rw[az];exact ag
    have bp:Hid _:=az;obtain⟨er,HE⟩:=δ (cg_ t.lay f.t.lay X f.X c d);have aI:=HE.out;simp only[TL.lay]at aI;rw[aI]at g;have bx:er≠0:=by rw[<-HE.out];exact ag
    clear ag aA ay aI az;go_wp2_with fail;refine g.mono ?_;clear g;rintro e w6 ⟨rfl,L⟩;have bj:=L.size;go_upto_region 23 with fail;obtain⟨W6,E,I,bl,G⟩:=ν w6 #[.slice none 0 0,.slice none 0 0] 41;rw[<-E];clear E;have k:=η L I;have m:=η z k;have j:=ah3_ ⟨ma,mn,t.na,mca,t.nn,mcn,fun i=>if t.rl i=0 then none else some ⟨rb i,0,none⟩,t.rl,fun i=>if t.rl i=0 then 0 else rc i⟩ ⟨oa,on,f.t.na,oca,f.t.nn,ocn,fun i=>if f.t.rl i=0 then none else some ⟨ar i,0,none⟩,f.t.rl,fun i=>if f.t.rl i=0 then 0 else au i⟩ A f.A X f.X c d W6 (ab.below k) (ad.below k) bg;rw[bp.out,HE.out]at j;simp only at j;obtain⟨T,V,_,_⟩:=β ((m.block _ o_).trans aE.out);obtain⟨z2,z3,_,_⟩:=β ((k.block _ o_).trans aJ);obtain⟨_,_,_,z4,z5,_,_⟩:=bo_ ((m.block _ o_).trans av.out);clear bg x3 x4 y0 y1 k0 k1 ab ad;go_wp2_with fail;refine j.mono ?_;clear j;rintro e w7 ⟨rfl,o⟩;have bk:=o.size;go_upto_region 24 with fail;obtain⟨W7,F,y,bm,H⟩:=ν w7 #[.slice none 0 0,.slice none 0 0] 41;rw[<-F];clear F;have l:=η o y;have v:=η m l;obtain⟨f0,f1,_,_⟩:=β ((l.block _ o_).trans G);obtain⟨g0,Y,_,_⟩:=β H;have B:=kf_ bw er W7 bx;clear T V z2 z3 z4 z5 l o y G H;go_wp2_with fail;refine B.mono ?_;clear B;rintro e P ⟨rfl,M⟩;have HF:Hid (bj_ W0 P bw (.slice (some ⟨D,0,none⟩) hs.length J) hs):=aD.out.below (v.trans (M.mono o_));have HK:Hid (a5_ bw (.slice (some ⟨D,0,none⟩) hs.length J) w P):=a5_.from aF.out (a5_.cS (v.trans (M.mono o_)))
    clear M v f0 f1 g0 Y;go_wp2_with fail;go_ret;exact⟨⟨rfl,_,_,HF.out,o_⟩,HK.out⟩
end Go.Proofs.YtpngikmcjkjdaaaGreatDoor
