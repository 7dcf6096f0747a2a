import Derived.Deep.Slices
import Derived.OpenShut
import Derived.SizedLaws
import Derived.Test.YtpngikmcjkjdaaaGreatDoorA39
import Derived.Test.YtpngikmcjkjdaaaGreatDoorA40
import Derived.Test.YtpngikmcjkjdaaaGreatDoorA41
set_option linter.unusedVariables false
set_option linter.unusedSimpArgs false
set_option maxRecDepth 20000
set_option maxHeartbeats 80000000
namespace Go.Proofs.YtpngikmcjkjdaaaGreatDoor
open Go.RowKit Tryz List Nat
variable {len:Nat} {ao:Option Addr} {W:World}
open Go.RowKit Go.ChangeShapes Go.WideShapes Go.Deep
section
variable {H:Type} {enc:TypeId×Value->H} {P:Program} {w:World} {base:Nat} {spare:Nat->Bool} {held:Bool}
theorem ak5_ {t:TypeId}{f0 f1 f2 f3 f4 f5 f6:Field}{fuel:Nat}{cs:List Value}{x:DataW H×List MemPlace}(ht:P.underlying t=some (.struct #[f0,f1,f2,f3,f4,f5,f6]))(h:DataW.trod enc P w base spare held fuel t cs=some x):
 ∃y0 y1 y2 y3 y4 y5 y6 n,x.1= .agg [y0.1,y1.1,y2.1,y3.1,y4.1,y5.1,y6.1]/\cs.length=P.cellsOf t/\DataW.trod enc P w base spare held n f0.type ((cs.drop f0.offset).take (P.cellsOf f0.type))=some y0/\
  DataW.trod enc P w base spare held n f1.type ((cs.drop f1.offset).take (P.cellsOf f1.type))=some y1/\DataW.trod enc P w base spare held n f2.type ((cs.drop f2.offset).take (P.cellsOf f2.type))=some y2/\
  DataW.trod enc P w base spare held n f3.type ((cs.drop f3.offset).take (P.cellsOf f3.type))=some y3/\DataW.trod enc P w base spare held n f4.type ((cs.drop f4.offset).take (P.cellsOf f4.type))=some y4/\
  DataW.trod enc P w base spare held n f5.type ((cs.drop f5.offset).take (P.cellsOf f5.type))=some y5/\DataW.trod enc P w base spare held n f6.type ((cs.drop f6.offset).take (P.cellsOf f6.type))=some y6:=by
 obtain⟨d,n,_,rfl,b,c,a⟩:=DataW.trod_struct ht h;match d,c with
 | [y0,y1,y2,y3,y4,y5,y6],_=>exact⟨y0,y1,y2,y3,y4,y5,y6,n,i_,b,by simpa using a 0 f0 rfl,by simpa using a 1 f1 rfl,by simpa using a 2 f2 rfl,by simpa using a 3 f3 rfl,by simpa using a 4 f4 rfl,by simpa using a 5 f5 rfl,by simpa using a 6 f6 rfl⟩
theorem ak6_ {P:Program}{e:TypeId}:∀(l:List (DataW H)) (d:DataW H),d∈l->∀n∈d.weights P e,n∈DataW.weightsAll P e l:=by
 intro l;induction l with
 |nil=>intro d a;simp at a
 |cons x l ih=>
  intro d a n b;simp only[DataW.weightsAll,mp_];simp only[mc_]at a;rcases a with rfl|a
  . exact .inl b
  . exact .inr (ih d a n b)
end
theorem n0_ (b o n:Nat):(⟨b,o,none⟩:Addr).add n=⟨b,o+n,none⟩:=by unfold Addr.add;split<;>simp_all
theorem z5_ {a:Addr}{v:Value}(h:W.cell? a=some v):a.spot=none:=World.cell?_spot h
theorem qb_:prog.cellsOf 33=7:=k_
theorem s6_:prog.cellsOf 3=1:=k_
theorem ak7_:prog.cellsOf 9=1:=k_
theorem ak8_:prog.cellsOf 24=1:=k_
theorem ak9_:prog.bytesOf 33=80:=k_
theorem ala_:prog.bytesOf 3=8:=k_
structure me_ where
 (kd fa fb fc fd:Int)
 (st:ByteArray)
 (lo:Option Addr)
 (ll lc:Nat)
 (z:Nat->Int)
structure me_.At (w:World)(b o:Nat)(r:me_):Prop where
 c0:w.cell? ⟨b,o,none⟩=some (.int .i64 r.kd)
 c1:w.cell? ⟨b,o+1,none⟩=some (.int .i64 r.fa)
 c2:w.cell? ⟨b,o+2,none⟩=some (.int .i64 r.fb)
 c3:w.cell? ⟨b,o+3,none⟩=some (.int .i64 r.fc)
 c4:w.cell? ⟨b,o+4,none⟩=some (.int .i64 r.fd)
 c5:w.cell? ⟨b,o+5,none⟩=some (.string r.st)
 c6:w.cell? ⟨b,o+6,none⟩=some (.slice r.lo r.ll r.lc)
 ra: -9223372036854775808<=r.fa/\r.fa<=9223372036854775807
 rb: -9223372036854775808<=r.fb/\r.fb<=9223372036854775807
 rc: -9223372036854775808<=r.fc/\r.fc<=9223372036854775807
 str:r.st.size<=maxLen
 lst:kb_ w r.lo r.ll r.z
theorem alb_ {H:Type}{enc:TypeId×Value->H}{cap:Nat}{d:DataW H}{p:List MemPlace}{ts:List TypeId}{ds:List (DataW H)}
 (h:DataW.Trod enc prog W 0 (fun _=>true) true 22 (.slice ao len cap) d p) (hr:(DataW.weightsEach prog ts ds).all (·<=reachBytes)=true) (ht:ts[0]? =some 22) (hd:ds[0]? =some d):
 ∃r:Nat->me_,len<=4398046511104/\∀i,i<len->∃b o,ao=some ⟨b,o,none⟩/\(r i).At W b (o+i*7):=by
 obtain⟨aw,hf⟩:=h;rcases open_slice underlying22 hf with ⟨g,_⟩|⟨a,l,c,m,n,D,Pl,g,_,hl,hm,aa,B,hall⟩
 . simp[Value.cells]at g;obtain⟨rfl,rfl,rfl⟩:=g;exact⟨fun _=>⟨0,0,0,0,0,⟨#[]⟩,none,0,0,fun _=>0⟩,o_,fun i q=>absurd q o_⟩
 . simp[Value.cells]at g;obtain⟨rfl,rfl,rfl⟩:=g;simp only[Prod.mk.injEq]at B;obtain⟨rfl,rfl⟩:=B;have V:=sized_slice hr ht hd underlying22;rw[ak9_]at V;simp only[length_map,length_range]at V;have aA:=reachBytes_lt;simp only[if_true]at aa;subst aa;have ak:∀i,∃r:me_,i<len->∃b o,a=⟨b,o,none⟩/\r.At W b (o+i*7):=by
    intro i;by_cases q:i<len
    . obtain⟨cs,g,an⟩:=hall i o_;obtain⟨_,Y,X⟩:=World.cells?_some g;rw[qb_]at X Y;obtain⟨y0,y1,y2,y3,y4,y5,y6,n2,hD,_,t0,t1,t2,t3,t4,t5,t6⟩:=ak5_ underlying33 an;simp only[s6_,ak7_,ak8_]at t0 t1 t2 t3 t4 t5 t6;match cs,Y with
      | [v0,v1,v2,v3,v4,v5,v6],_=>
       simp only[List.drop,List.take]at t0 t1 t2 t3 t4 t5 t6;obtain⟨k0,N,_,_⟩:=DataW.trod_int underlying3 t0;obtain⟨k1,O,_,w1⟩:=DataW.trod_int underlying3 t1;obtain⟨k2,P,_,w2⟩:=DataW.trod_int underlying3 t2;obtain⟨k3,Q,_,w3⟩:=DataW.trod_int underlying3 t3;obtain⟨k4,R,_,w4⟩:=DataW.trod_int underlying3 t4;obtain⟨s5,S,_,w5⟩:=DataW.trod_string underlying9 t5;simp only[List.cons.injEq,and_true]at N O P Q R S;subst N;subst O;subst P;subst Q;subst R;subst S;obtain⟨v,ao,ad⟩:=a;have am:ad=none:=by
        obtain⟨G,I,_⟩:=hall 0 o_;obtain⟨_,J,A⟩:=World.cells?_some I;rw[qb_]at J A;have w:=A 0 o_;rw[ge_ (show 0<G.length by omega),Nat.zero_mul]at w;exact z5_ (a:=⟨v,ao,ad⟩) (by simpa [Addr.add] using w)
       subst am;have ag:∀j,((⟨v,ao,none⟩:Addr).add (i*prog.cellsOf 33)).add j=⟨v,ao+i*7+j,none⟩:=fun j=>by rw[qb_,n0_,n0_]
       have e:∀j,j<7->W.cell? ⟨v,ao+i*7+j,none⟩=[Value.int .i64 k0,.int .i64 k1,.int .i64 k2,.int .i64 k3,.int .i64 k4,.string s5,v6][j]? :=fun j hj=>by rw[<-ag j,qb_];exact X j hj
       obtain⟨E,C,K,z,rfl,hL⟩:∃E C K z,v6= .slice E C K/\kb_ W E C z:=by
        rcases open_slice underlying24 t6 with ⟨y,_⟩|⟨F,s,c6,L,n6,M,P6,y,_,ax,az,ac,ar,U⟩
        . simp only[List.cons.injEq,and_true]at y;exact⟨none,0,0,fun _=>0,y,o_,fun t ht=>absurd ht o_⟩
        . simp only[List.cons.injEq,and_true]at y;simp only[if_true]at ac;subst ac;have au:y6.1= .slice ((List.range s).map M) ((List.range (L - s)).map fun j=>M (s+j)):=by rw[ar]
          have aq:(s+(L - s))*prog.bytesOf 3∈DataW.weightsEach prog ts ds:=by
           refine DataW.weights_mem_each ht hd _ ?_;simp only[DataW.weights,underlying22,mc_,mp_];right;left;refine ak6_ _ (D i) (mem_map.2 ⟨i,by simpa using q,rfl⟩) _ ?_;have af:D i= .agg [y0.1,y1.1,y2.1,y3.1,y4.1,y5.1,y6.1]:=hD;rw[af,au];simp[DataW.weights,DataW.weightsEach,underlying33,underlying24]
          have aj:=of_decide_eq_true (all_eq_true.1 hr _ aq);rw[ala_]at aj;refine⟨some F,s,L,fun t=>match W.cell? (F.add t)with|some (.int .i64 x)=>x|_=>0,y,o_,fun t ht=> ?_⟩;obtain⟨av,Z,ap⟩:=U t o_;rw[s6_,Nat.mul_one]at Z;obtain⟨_,ay,ah⟩:=World.cells?_some Z;obtain⟨x,B,_,_⟩:=DataW.trod_int underlying3 ap;subst B;have T:=ah 0 o_;obtain⟨k,u,ae⟩:=F;have al:ae=none:=by
           obtain⟨G,I,_⟩:=U 0 o_;obtain⟨_,J,A⟩:=World.cells?_some I;rw[s6_]at J A;have w:=A 0 o_;rw[ge_ (show 0<G.length by omega),Nat.zero_mul]at w;exact z5_ (a:=⟨k,u,ae⟩) (by simpa [Addr.add] using w)
          subst al;refine⟨k,u,rfl, ?_⟩;have ea:((⟨k,u,none⟩:Addr).add t)=⟨k,u+t,none⟩:=n0_ _ _ _;have eb:((⟨k,u,none⟩:Addr).add t).add 0=⟨k,u+t,none⟩:=by rw[n0_,n0_,Nat.add_zero]
          rw[eb]at T;rw[ea,T];rfl
       refine⟨⟨k0,k1,k2,k3,k4,s5,E,C,K,z⟩,fun _=>⟨v,ao,rfl,by simpa using e 0 o_,by simpa using e 1 o_,by simpa using e 2 o_,by simpa using e 3 o_,by simpa using e 4 o_,by simpa using e 5 o_,by simpa using e 6 o_,bounds_i64 w1,bounds_i64 w2,bounds_i64 w3,w5,hL⟩⟩
    . exact⟨⟨0,0,0,0,0,⟨#[]⟩,none,0,0,fun _=>0⟩,fun h=>absurd h q⟩
   obtain⟨f,ai⟩:=Classical.skolem.1 ak;refine⟨f,o_,fun i q=> ?_⟩;obtain⟨b,o,rfl,h⟩:=ai i q;exact⟨b,o,rfl,h⟩
theorem alc_ {w:World}{r:Nat->me_}(hlen:len<=4398046511104)(h:∀i,i<len->∃b o,ao=some ⟨b,o,none⟩/\(r i).At w b (o+i*7)):
 nv_ w ao len (fun i=>(r i).kd) (fun i=>(r i).fa) (fun i=>(r i).fb) (fun i=>(r i).fc) (fun i=>(r i).fd) (fun i=>(r i).st) (fun i=>(r i).lo) (fun i=>(r i).ll) (fun i=>(r i).lc) (fun i=>(r i).z) where
 ln:=hlen
 cel i hi:=by
  obtain⟨b,o,e,a⟩:=h i hi;exact⟨b,o,e,a.c0,a.c1,a.c2,a.c3,a.c4,a.c5,a.c6⟩
 ra i hi:=by obtain⟨b,o,e,a⟩:=h i hi;exact a.ra
 rb i hi:=by obtain⟨b,o,e,a⟩:=h i hi;exact a.rb
 rc i hi:=by obtain⟨b,o,e,a⟩:=h i hi;exact a.rc
 str i hi:=by obtain⟨b,o,e,a⟩:=h i hi;exact a.str
 lst i hi:=by obtain⟨b,o,e,a⟩:=h i hi;exact a.lst
theorem ald_ (W0:Fw)(w:World)(bw:Nat)(vts:Value)(hs:List Hd)(hw:bj_ W0 w bw vts hs)(hn:hs.length<=4398046511104)(a b c d:Int)(s:ByteArray)(lo:Option Addr)(ll lc:Nat)(hss:s.size<=maxLen):
 Calls prog 18 #[.pointer (some ⟨bw,0,none⟩),.agg #[.int .i64 8,.int .i64 a,.int .i64 b,.int .i64 c,.int .i64 d,.string s,.slice lo ll lc]] w
  (fun e w'=>hl_ W0 bw hs.length e w'/\a5_ bw vts w w'):=by
 obtain⟨X,Z,W,-,-⟩:=ν w #[.int .i64 8,.int .i64 a,.int .i64 b,.int .i64 c,.int .i64 d,.string s,.slice lo ll lc] 33;have aB:X.heap.size=w.heap.size+1:=by rw[Z];simp
 have Y:=aw_ Z;obtain⟨x0,x1,x2,_,_,x5,_⟩:=bo_ Y;have af:=hw.below W;go_enter func18,ntmps18;go_upto_region 1 with fail;rw[<-Z];clear Z;cases hje:ji_ s a with
 |none=>
  obtain⟨p,t,hp,ae,ab,ac,ad,aC,aD⟩:=afr_ hje;obtain⟨C,rfl⟩:∃n:Nat,a=(n:Int):=⟨a.toNat,o_⟩;clear hje;have ag:Hid (∀w1,Calls prog 30 #[.string s,.int .i64 (C:Int)] w1 fun e w'=>∃n,rw_ (g2_ p) C n w1 e w'):=fun w1=>agt_ s C w1 hp ae ab ac ad o_ o_
  have F:Hid (∀w1,Calls prog 31 #[.string s,.int .i64 (C:Int)] w1 (y8_ (g2_ p) C w1)):=fun w1=>ajp_ s C w1 hp ae ab ac ad o_ o_
  obtain⟨L,HL⟩:=δ (g2_ p);rw[HL.out]at ag F;clear hp ae ab ac ad HL;have E:=ag.out X;go_wp2_with fail;refine E.mono ?_;clear E x0 x1 x2 x5;rintro e w6 ⟨n,v,D,rfl,y,⟨R,u,hR,aA,N,an,ak,al⟩|⟨N,aE,am⟩⟩
  . obtain⟨rfl,rfl⟩:v=_/\D=_:=by simpa using N
    clear N;have ap:=y.size;go_upto_region 6 with fail;obtain⟨I,m,x,ar,q⟩:=ν w6 #[.slice (some ⟨u.ba,u.oa,none⟩) R.n u.ca,.slice (some ⟨u.bn,u.on,none⟩) R.n u.cn] 41;rw[<-m];clear m;have j:=η y x;obtain⟨P,S,T,_,_,V,_⟩:=bo_ ((j.block _ o_).trans Y);have k:=F.out I;have HR:Hid _:=hR;have aj:Hid _:=an;have ah:=α ak;have ai:Hid _:=al;clear hR an ak al;go_wp2_with fail;refine k.mono ?_;clear k;rintro e O ⟨g,⟨U,Q,A,aa,rfl,hU⟩|⟨rfl,Q,A,aa⟩⟩
    . have aq:=g.size;go_upto_region 7 with fail;obtain⟨J,o,i,au,r⟩:=ν O #[.slice (some ⟨U.ba,U.oa,none⟩) Q.n U.ca,.slice (some ⟨U.bn,U.on,none⟩) Q.n U.cn] 41;rw[<-o];clear o;have f:=η g i;have h:=η j f;obtain⟨f0,f1,_,_⟩:=β ((f.block _ o_).trans q);obtain⟨K,M,_,_⟩:=β r;have BD:=η x f;have l:=nw_ W0 X J bw vts hs af h hn u U R Q L HR.out A (aj.out.below BD) (ai.out.below BD) ah.out (hU.below i) o_;clear P S T V f BD g i x q r A HR aj ah ai hU;go_wp2_with fail;refine l.mono ?_;clear l;rintro e B ⟨⟨rfl,az,ay,ao,ax⟩,hK⟩;have G:Hid _:=ao;have H:Hid (a5_ bw vts w B):=a5_.from W hK
      clear hK;clear ao f0 f1 K M;go_wp2_with fail;go_ret;exact⟨⟨rfl,az,ay,G.out,ax⟩,H.out⟩
    . exfalso;have:=(p9_ HR.out A).n;omega
  . obtain⟨rfl,rfl⟩:v=_/\D=_:=by simpa using N
    clear N;have ap:=y.size;go_upto_region 6 with fail;obtain⟨I,m,x,ar,q⟩:=ν w6 #[.slice none 0 0,.slice none 0 0] 41;rw[<-m];clear m;have j:=η y x;obtain⟨P,S,T,_,_,V,_⟩:=bo_ ((j.block _ o_).trans Y);have k:=F.out I;have av:Hid _:=am;clear am;go_wp2_with fail;refine k.mono ?_;clear k;rintro e O ⟨g,⟨U,Q,A,aa,rfl,hU⟩|⟨rfl,Q,A,aa⟩⟩
    . exfalso;have:=av.out Q A;omega
    . have aq:=g.size;go_upto_region 7 with fail;obtain⟨J,o,i,au,r⟩:=ν O #[.slice none 0 0,.slice none 0 0] 41;rw[<-o];clear o;have f:=η g i;have h:=η j f;obtain⟨f0,f1,_,_⟩:=β ((f.block _ o_).trans q);obtain⟨K,M,_,_⟩:=β r;have l:=kc_ bw 5 J d_;clear P S T V f g i q r;go_wp2_with fail;refine l.mono ?_;clear l;rintro e B ⟨rfl,z⟩;have G:Hid (bj_ W0 B bw vts hs):=af.below (h.trans (z.mono o_));have H:Hid (a5_ bw vts w B):=a5_.from W (a5_.of_below (h.trans (z.mono o_)))
      clear z h f0 f1 K M;go_wp2_with fail;go_ret;exact⟨⟨rfl,_,_,G.out,o_⟩,H.out⟩
 |some v=>
  obtain⟨D,pl⟩:=v;have E:=agu_ s a X hss hje;have F:Hid (∀w1,Calls prog 31 #[.string s,.int .i64 a] w1 (g5_ D pl w1)):=fun w1=>ajo_ s a w1 hss hje
  have aw:D≠0:=by
   rcases yc_ hje with ⟨_,rfl,_⟩|⟨_,_,rfl⟩|⟨_,_,_,_,_,⟨_,rfl,_⟩|⟨_,_,rfl,_⟩|⟨_,_,_,rfl,_⟩⟩<;>decide
  clear hje;go_wp2_with fail;refine E.mono ?_;clear E x0 x1 x2 x5;rintro e w6 ⟨rfl,y⟩;have ap:=y.size;go_upto_region 6 with fail;obtain⟨I,m,x,ar,q⟩:=ν w6 #[.slice none 0 0,.slice none 0 0] 41;rw[<-m];clear m;have j:=η y x;obtain⟨P,S,T,_,_,V,_⟩:=bo_ ((j.block _ o_).trans Y);have k:=F.out I;go_wp2_with fail;refine k.mono ?_;clear k;rintro e O ⟨rfl,g⟩;have aq:=g.size;go_upto_region 7 with fail;obtain⟨J,o,i,au,r⟩:=ν O #[.slice none 0 0,.slice none 0 0] 41;rw[<-o];clear o;have f:=η g i;have h:=η j f;obtain⟨f0,f1,_,_⟩:=β ((f.block _ o_).trans q);obtain⟨K,M,_,_⟩:=β r;have l:=kc_ bw D J aw;clear P S T V f g i q r;go_wp2_with fail;refine l.mono ?_;clear l;rintro e B ⟨rfl,z⟩;have G:Hid (bj_ W0 B bw vts hs):=af.below (h.trans (z.mono o_));have H:Hid (a5_ bw vts w B):=a5_.from W (a5_.of_below (h.trans (z.mono o_)))
  clear z h f0 f1 K M;go_wp2_with fail;go_ret;exact⟨⟨rfl,_,_,G.out,o_⟩,H.out⟩
theorem ale_ (W0:Fw)(w:World)(bw:Nat)(vts:Value)(hs:List Hd)(h:bj_ W0 w bw vts hs)(a b c d:Int)(s:ByteArray)(lo:Option Addr)(ll lc:Nat)(hn:hs.length<=4398046511104)(hss:s.size<=maxLen):
 Calls prog 12 #[.pointer (some ⟨bw,0,none⟩),.agg #[.int .i64 8,.int .i64 a,.int .i64 b,.int .i64 c,.int .i64 d,.string s,.slice lo ll lc]] w (hl_ W0 bw hs.length):=by
 obtain⟨W,j,k,-,m⟩:=ν w #[.int .i64 8,.int .i64 a,.int .i64 b,.int .i64 c,.int .i64 d,.string s,.slice lo ll lc] 33;have g:=h.below k;obtain⟨o,p,q,r,t,u,v⟩:=bo_ m;have f:=ald_ W0 W bw vts hs g hn a b c d s lo ll lc hss;clear h g;go_enter func12,ntmps12;go_upto_region 1 with fail;rw[<-j];clear j;go_wp2_with fail;refine f.mono ?_;clear f;rintro e n ⟨⟨rfl,i⟩,_⟩;have l:Hid _:=i;clear i;go_wp2_with fail;go_ret;exact⟨rfl,l.out⟩
theorem alf_ (W0:Fw)(w:World)(bw:Nat)(vts:Value)(hs:List Hd)(hw:bj_ W0 w bw vts hs)(hn:hs.length<=4398046511104)(a b c d:Int)(s:ByteArray)(lo:Option Addr)(ll lc:Nat)(hss:s.size<=maxLen):
 Calls prog 18 #[.pointer (some ⟨bw,0,none⟩),.agg #[.int .i64 9,.int .i64 a,.int .i64 b,.int .i64 c,.int .i64 d,.string s,.slice lo ll lc]] w
  (fun e w'=>hl_ W0 bw hs.length e w'/\a5_ bw vts w w'):=by
 obtain⟨O,S,N,-,-⟩:=ν w #[.int .i64 9,.int .i64 a,.int .i64 b,.int .i64 c,.int .i64 d,.string s,.slice lo ll lc] 33;have ax:O.heap.size=w.heap.size+1:=by rw[S];simp
 have P:=aw_ S;obtain⟨x0,x1,x2,_,_,x5,_⟩:=bo_ P;have ac:=hw.below N;go_enter func18,ntmps18;go_upto_region 1 with fail;rw[<-S];clear S;by_cases B:hz_ s a b=0
 . have k:=B;unfold hz_ at k;cases htt:(decide (s.size<=12)&&as_ s s.size)
   . rw[htt]at k;simp at k
   rw[htt]at k;simp only[Bool.true_eq_false,if_false]at k;have ha:0<=a/\a<=2:=by
    refine cc_ (fun hn'=> ?_);rw[if_pos o_]at k;omega
   rw[if_neg o_]at k;have hb:1<=b/\b<=40:=by
    refine cc_ (fun hn'=> ?_);rw[if_pos o_]at k;omega
   have ab:s.size<=12:=by simp at htt;exact htt.1
   have ht:dh_ s:=(jk_ s).1 (by simp at htt;exact htt.2);obtain⟨T,rfl⟩:∃n:Nat,a=(n:Int):=⟨a.toNat,o_⟩;obtain⟨Z,rfl⟩:∃n:Nat,b=(n:Int):=⟨b.toNat,o_⟩;clear k B htt;have A:=aid_ s T Z O ab o_ ht o_ o_;go_wp2_with fail;refine A.mono ?_;clear A x0 x1 x2 x5;rintro e V ⟨n,v,⟨R,t,hR,aw,rfl,aj,ag,ah⟩|⟨rfl,ay,ai⟩⟩
   . have al:=v.size;go_upto_region 3 with fail;obtain⟨E,o,u,an,q⟩:=ν V #[.slice (some ⟨t.ba,t.oa,none⟩) R.n t.ca,.slice (some ⟨t.bn,t.on,none⟩) R.n t.cn] 41;rw[<-o];clear o;have l:=η v u;obtain⟨J,K,L,_,_,M,_⟩:=bo_ ((l.block _ o_).trans P);have i:=y9_ s T Z E ab o_ ht o_ o_;have Y:Hid _:=hR;have af:Hid _:=aj;have ad:=α ag;have ae:Hid _:=ah;clear hR aj ag ah;go_wp2_with fail;refine i.mono ?_;clear i;rintro e I ⟨g,⟨U,Q,y,aa,rfl,hU⟩|⟨rfl,Q,y,aa⟩⟩
     . have am:=g.size;go_upto_region 4 with fail;obtain⟨F,p,j,ao,r⟩:=ν I #[.slice (some ⟨U.ba,U.oa,none⟩) Q.n U.ca,.slice (some ⟨U.bn,U.on,none⟩) Q.n U.cn] 41;rw[<-p];clear p;have f:=η g j;have h:=η l f;obtain⟨f0,f1,_,_⟩:=β ((f.block _ o_).trans q);obtain⟨G,H,_,_⟩:=β r;have W:=η u f;have m:=nw_ W0 O F bw vts hs ac h hn t U R Q (Ear.lang ⟨a7_ s,s.size,T⟩) Y.out y (af.out.below W) (ae.out.below W) ad.out (hU.below j) o_;clear J K L M f W g j u q r y Y af ad ae hU;go_wp2_with fail;refine m.mono ?_;clear m;rintro e z ⟨⟨rfl,av,au,ak,ar⟩,hK⟩;have C:Hid _:=ak;have D:Hid (a5_ bw vts w z):=a5_.from N hK
       clear hK;clear ak f0 f1 G H;go_wp2_with fail;go_ret;exact⟨⟨rfl,av,au,C.out,ar⟩,D.out⟩
     . exfalso;have:=(p9_ Y.out y).n;omega
   . have al:=v.size;go_upto_region 3 with fail;obtain⟨E,o,u,an,q⟩:=ν V #[.slice none 0 0,.slice none 0 0] 41;rw[<-o];clear o;have l:=η v u;obtain⟨J,K,L,_,_,M,_⟩:=bo_ ((l.block _ o_).trans P);have i:=y9_ s T Z E ab o_ ht o_ o_;have ap:Hid _:=ai;clear ai;go_wp2_with fail;refine i.mono ?_;clear i;rintro e I ⟨g,⟨U,Q,y,aa,rfl,hU⟩|⟨rfl,Q,y,aa⟩⟩
     . exfalso;have:=ap.out Q y;omega
     . have am:=g.size;go_upto_region 4 with fail;obtain⟨F,p,j,ao,r⟩:=ν I #[.slice none 0 0,.slice none 0 0] 41;rw[<-p];clear p;have f:=η g j;have h:=η l f;obtain⟨f0,f1,_,_⟩:=β ((f.block _ o_).trans q);obtain⟨G,H,_,_⟩:=β r;have m:=kc_ bw 5 F d_;clear J K L M f g j q r;go_wp2_with fail;refine m.mono ?_;clear m;rintro e z ⟨rfl,x⟩;have C:Hid (bj_ W0 z bw vts hs):=ac.below (h.trans (x.mono o_));have D:Hid (a5_ bw vts w z):=a5_.from N (a5_.of_below (h.trans (x.mono o_)))
       clear x h f0 f1 G H;go_wp2_with fail;go_ret;exact⟨⟨rfl,_,_,C.out,o_⟩,D.out⟩
 . have A:=aie_ s a b O hss B;obtain⟨er,X⟩:=δ (hz_ s a b);have aq:er≠0:=by rw[<-X.out];exact B
   rw[X.out]at A;go_wp2_with fail;refine A.mono ?_;clear A x0 x1 x2 x5;rintro e V ⟨rfl,v⟩;have al:=v.size;go_upto_region 3 with fail;obtain⟨E,o,u,an,q⟩:=ν V #[.slice none 0 0,.slice none 0 0] 41;rw[<-o];clear o;have l:=η v u;obtain⟨J,K,L,_,_,M,_⟩:=bo_ ((l.block _ o_).trans P);have i:=aj1_ s a b E hss B;rw[X.out]at i;clear B;go_wp2_with fail;refine i.mono ?_;clear i;rintro e I ⟨rfl,g⟩;have am:=g.size;go_upto_region 4 with fail;obtain⟨F,p,j,ao,r⟩:=ν I #[.slice none 0 0,.slice none 0 0] 41;rw[<-p];clear p;have f:=η g j;have h:=η l f;obtain⟨f0,f1,_,_⟩:=β ((f.block _ o_).trans q);obtain⟨G,H,_,_⟩:=β r;have m:=kc_ bw er F aq;clear J K L M f g j q r;go_wp2_with fail;refine m.mono ?_;clear m;rintro e z ⟨rfl,x⟩;have C:Hid (bj_ W0 z bw vts hs):=ac.below (h.trans (x.mono o_));have D:Hid (a5_ bw vts w z):=a5_.from N (a5_.of_below (h.trans (x.mono o_)))
   clear x h f0 f1 G H;go_wp2_with fail;go_ret;exact⟨⟨rfl,_,_,C.out,o_⟩,D.out⟩
theorem alg_ (W0:Fw)(w:World)(bw:Nat)(vts:Value)(hs:List Hd)(h:bj_ W0 w bw vts hs)(a b c d:Int)(s:ByteArray)(lo:Option Addr)(ll lc:Nat)(hn:hs.length<=4398046511104)(hss:s.size<=maxLen):
 Calls prog 12 #[.pointer (some ⟨bw,0,none⟩),.agg #[.int .i64 9,.int .i64 a,.int .i64 b,.int .i64 c,.int .i64 d,.string s,.slice lo ll lc]] w (hl_ W0 bw hs.length):=by
 obtain⟨W,j,k,-,m⟩:=ν w #[.int .i64 9,.int .i64 a,.int .i64 b,.int .i64 c,.int .i64 d,.string s,.slice lo ll lc] 33;have g:=h.below k;obtain⟨o,p,q,r,t,u,v⟩:=bo_ m;have f:=alf_ W0 W bw vts hs g hn a b c d s lo ll lc hss;clear h g;go_enter func12,ntmps12;go_upto_region 1 with fail;rw[<-j];clear j;go_wp2_with fail;refine f.mono ?_;clear f;rintro e n ⟨⟨rfl,i⟩,_⟩;have l:Hid _:=i;clear i;go_wp2_with fail;go_ret;exact⟨rfl,l.out⟩
end Go.Proofs.YtpngikmcjkjdaaaGreatDoor
