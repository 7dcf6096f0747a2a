import Derived.Test.YtpngikmcjkjdaaaGreatDoorCW
import Derived.Test.YtpngikmcjkjdaaaGreatDoorC19
set_option linter.unusedVariables false
set_option linter.unusedSimpArgs false
set_option maxRecDepth 20000
set_option maxHeartbeats 80000000
namespace Go.Proofs.YtpngikmcjkjdaaaGreatDoor
open Go.RowKit Tryz List Nat
variable {ps qs:List Nat} {x x':List Value} {b base base' c cap e e' g i k m b8 n n' p q q' s s' t:Nat} {f r r':Nat->Nat} {v v':Value} {w:World}
theorem ad_.dO {ry:Value}{t:Nat->ByteArray}{c:Nat->Cu}(h:ad_ w b ry t n (Ι c))(hk:k<4)(s:ByteArray):
 ad_ ((w.setCell ⟨b,1+5*k+3,none⟩ (.bool true)).setCell ⟨b,1+5*k+4,none⟩ (.string s)) b ry t n (Ι (bk_ c k {c k with bg:=true,la:=s}))/\
 ε (fun j=>j=b) w ((w.setCell ⟨b,1+5*k+3,none⟩ (.bool true)).setCell ⟨b,1+5*k+4,none⟩ (.string s)):=by
 have d:ε (fun j=>j=b) w ((w.setCell ⟨b,1+5*k+3,none⟩ (.bool true)).setCell ⟨b,1+5*k+4,none⟩ (.string s)):=((ε.refl (fun j=>j=b) w).set ⟨b,1+5*k+3,none⟩ (.bool true) (.inl rfl)).set ⟨b,1+5*k+4,none⟩ (.string s) (.inl rfl);refine⟨⟨((World.rowIs.set h.1 (1+5*k+3) (.bool true)).set (1+5*k+4) (.string s)).congr (fun j hj=> ?_),ni_ h.2 h.1 d⟩,d⟩;unfold Ι bk_;by_cases a:j=0
 . simp only[a,show¬(0:Nat)=1+5*k+4 by omega,show¬(0:Nat)=1+5*k+3 by omega,if_false,if_true]
 . by_cases q:(j - 1)/5=k
   . simp only[a,q,if_false,if_true];rcases (show(j - 1)%5=0\/(j - 1)%5=1\/(j - 1)%5=2\/(j - 1)%5=3\/(j - 1)%5=4 by omega)with f|f|f|f|f
     . simp only[f,show¬j=1+5*k+4 by omega,show¬j=1+5*k+3 by omega,if_false,if_true]
     . simp only[f,show¬j=1+5*k+4 by omega,show¬j=1+5*k+3 by omega,if_false,if_true,show¬(1:Nat)=0 by omega]
     . simp only[f,show¬j=1+5*k+4 by omega,show¬j=1+5*k+3 by omega,if_false,if_true,show¬(2:Nat)=0 by omega,show¬(2:Nat)=1 by omega]
     . have e:j=1+5*k+3:=o_;simp only[f,if_pos e,show¬j=1+5*k+4 by omega,if_false,if_true,show¬(3:Nat)=0 by omega,show¬(3:Nat)=1 by omega,show¬(3:Nat)=2 by omega]
     . have e:j=1+5*k+4:=o_;simp only[f,if_pos e,if_false,show¬(4:Nat)=0 by omega,show¬(4:Nat)=1 by omega,show¬(4:Nat)=2 by omega,show¬(4:Nat)=3 by omega]
   . simp only[a,q,if_false,show¬j=1+5*k+4 by omega,show¬j=1+5*k+3 by omega]
theorem aie_ {xs:List Value}(h:w.ownsRow base e 1 (.slice (some ⟨g,0,none⟩) n cap) n xs)(hm:m<=n):w.ownsRow base e 1 (.slice (some ⟨g,0,none⟩) m cap) m (xs.take m):=by
 obtain⟨b,c⟩:=h;refine⟨by rw[length_take,b];omega, ?_⟩;rcases c with ⟨e,_⟩|⟨o,l,a,e,d,i,p,f,k,j⟩
 . simp at e
 . injection e with e1 e2 e3;injection e1 with e1;injection e1 with e1 _ _;subst e1;subst e3;refine .inr ⟨g,cap,a,rfl,d,i,o_,f,k, ?_⟩;rw[<-j,take_take,Nat.mul_one,Nat.mul_one,Nat.min_eq_left hm]
theorem aif_ (l:List ByteArray)(m:Nat):(Ζ l).take m=Ζ (l.take m):=by unfold Ζ;rw[map_take]
theorem aig_ {t:Nat->ByteArray}(h:i<n):(hw_ t n)[i]? =some (.string (t i)):=by unfold hw_;simp[h]
theorem ym_ {b1 b2:Nat}(h:w.ownsRow b1 e s v n x)(hb:b2<=b1):w.ownsRow b2 e s v n x:=by
 refine⟨h.1, ?_⟩;rcases h.2 with h|⟨g,a,b,c,d,f⟩
 . exact .inl h
 . exact .inr ⟨g,a,b,c,Nat.le_trans hb d,f⟩
theorem aih_ {f:Nat->Value}(ho:w.ownsRow base 9 1 v m x)(h:w.rowIs b 77 n f)(hg:v.ownBlock=some g):g≠b:=by
 rintro rfl;obtain⟨c,d,_⟩:=h;rcases ho.2 with ⟨rfl,_⟩|⟨j,e,i,rfl,_,a,_⟩
 . simp[Value.ownBlock]at hg
 . simp only[Value.ownBlock,Δ]at hg;subst hg;rw[d]at a;injection a with a;injection a with _ a;exact absurd a d_
theorem aii_ (w:World)(b n m limit:Nat)(ry:Value)(t:Nat->ByteArray)(c:Nat->Cu)(V:ρ)(M:γ)(h:ad_ w b ry t n (Ι c))(hn:n<=60)(hm:m<4)(hop:(c m).op=true)(hl1:1<=limit)(hl:limit<=50)(htu:∀i,i<n->ci_ (t i)=true)
 (hA:(c m).vA= .slice (some ⟨V.ba,V.oa,none⟩) M.n V.ca) (hN:(c m).vN= .slice (some ⟨V.bn,V.on,none⟩) M.n V.cn) (hM:M.Ok) (hT:π w V M):
 Calls prog 53 #[.pointer (some ⟨b,0,none⟩),.int .i64 (m:Int),.int .i64 (limit:Int)] w fun e w'=>∃v,e= .returned (.tuple #[v,.bool (gp_ (c m) M t n limit),.int .i64 0])/\w'.ownsRow w.heap.size 9 1 v (de_ (c m) M t n limit).length (Ζ (de_ (c m) M t n limit))/\ad_ w' b ry t n (Ι (dp_ c m (de_ (c m) M t n limit)))/\ε (fun j=>j=b) w w':=by
 obtain⟨i0,aF,aK,aL,aM⟩:=info_parts mq_;have HO:=rw_ w b n ry t c m h;rw[n6_ c hm,hop]at HO;obtain⟨c0,c1,c2,c3,c4⟩:=h.cu hm;obtain⟨or,cr,aZ,aI⟩:=Β h.2;subst aZ;rw[hA]at c1;rw[hN]at c2;rw[hop]at c0;have HX:=α h;obtain⟨d,HD⟩:∃d,Hid (c m=d):=⟨_,by unfold Hid;rfl⟩;rw[HD.out]at c3 c4 ⊢;have q1:¬(limit:Int)<1:=o_;have q2:¬(50:Int)<(limit:Int):=o_;have aP:=α htu;have HT:=α hT;obtain⟨W,hW,S,aW,b0⟩:=ν w #[.bool true,.slice (some ⟨V.ba,V.oa,none⟩) M.n V.ca,.slice (some ⟨V.bn,V.on,none⟩) M.n V.cn,.bool d.bg,.string d.la] 74;have U:Hid (∀wj,Bl W wj->(wj.cell? ⟨w.heap.size,1,none⟩=some (.slice (some ⟨V.ba,V.oa,none⟩) M.n V.ca)/\wj.cell? ⟨w.heap.size,2,none⟩=some (.slice (some ⟨V.bn,V.on,none⟩) M.n V.cn)/\wj.cell? ⟨w.heap.size,3,none⟩=some (.bool d.bg)/\wj.cell? ⟨w.heap.size,4,none⟩=some (.string d.la))/\wj.cell? ⟨b,0,none⟩=some (.slice or n cr)):=fun wj A=>by
  have:=(A.block _ aW).trans b0;exact⟨by simp[World.cell?,this],(HX.out.below (S.trans (A.mono o_))).row⟩
 have aA:Hid (∀wj i,Bl W wj->i<n->∃g,or=some ⟨g,0,none⟩/\wj.cell? ⟨g,i,none⟩=some (.string (t i))):=fun wj i A hi=>by
  have hy:=HX.out.below (S.trans (A.mono o_));obtain⟨g,F,e2⟩:=aI o_;obtain⟨o2,a2,e3,e4⟩:=Β hy.2;injection e3 with e3 _ _;subst e3;obtain⟨g2,G,e6⟩:=e4 o_;rw[F]at G;injection G with G;injection G with G _ _;subst G;exact⟨g,F,(e6 i o_).trans (aig_ hi)⟩
 clear hop htu hA hN hT h aI b0;obtain⟨K,E⟩:∃x,Hid (x=m):=⟨_,rfl⟩;obtain⟨R,aO⟩:∃x,Hid (x=4+5*m):=⟨_,rfl⟩;obtain⟨p4,az⟩:∃x,Hid (x=5+5*m):=⟨_,rfl⟩;rcases (show m=0\/m=1\/m=2\/m=3 by omega)with rfl|rfl|rfl|rfl
 all_goals
  go_enter func53,ntmps53;go_upto_region 7 with (go_at_call 93;refine HO.mono ?_;rintro e w1 ⟨rfl,a1⟩;obtain rfl:w=w1:=a1.symm);rw[<-hW];clear hW c0 c1 c2 c3 c4;go_wp2_with fail;go_loopw [11,12] (fun v i' wr=>∃i:Nat,i<=n/\i'= .int .i64 (i:Int)/\Bl W wr/\wr.ownsRow W.heap.size 9 1 v (Ω d M t i).length (Ζ (Ω d M t i))) (fun _ i' _=>n - (intOf i').toNat)
  case atStart=>exact⟨0,o_,rfl,μ,a8_⟩
  case round=>
   obtain⟨i,hi,rfl,A,P⟩:=hrel;obtain⟨oa,L,hv,ac⟩:=Β P;subst hv;have ay:=tv_ d M t i;obtain⟨⟨k1,k2,k3,k4⟩,k5⟩:=U.out wr A;have Y:=A.size;have T:=α A;have B:=α P;by_cases aw:i<n
   . obtain⟨g,rfl,cI⟩:=aA.out wr i A aw;have af:Hid (∀wj,Bl W wj->wj.cell? ⟨g,i,none⟩=some (.string (t i))):=fun wj hj=>by
      obtain⟨g',F,e2⟩:=aA.out wj i hj aw;injection F with F;injection F with F _ _;subst F;exact e2
     have q3:(i:Int)<(n:Int):=o_;have ah:=aP.out i aw;have aJ:dh_ (t i)/\(t i).size<=12:=by simp[ci_]at ah;exact⟨(jg_ _).1 ah.2,ah.1⟩
     have N:=aax_ V M (t i) wr.drew hM ((HT.out.below (S.trans (A.mono o_))).below (μ.drew)) aJ.1 o_;have D:Hid (∀a,Bl wr a->Bl W a):=fun a h2=>T.out.trans (h2.mono Y)
     clear A P ac ah aJ;cases hab:M.b6 (ar_ (t i))with
     |false=>
      rw[hab]at N;have am:Hid (Ω d M t (i+1)=Ω d M t i):=n7_ (by simp[ej_,hab]);clear hab;go_upto_region 11 with fail;go_region_held3 (fun w'=>(w'.cell? ⟨w.heap.size,1,none⟩=some (.slice (some ⟨V.ba,V.oa,none⟩) M.n V.ca)/\w'.cell? ⟨w.heap.size,2,none⟩=some (.slice (some ⟨V.bn,V.on,none⟩) M.n V.cn))/\w'.cell? ⟨b,0,none⟩=some (.slice (some ⟨g,0,none⟩) n cr)/\w'.cell? ⟨g,i,none⟩=some (.string (t i))) (go_keep)
       ((go_at_call 76;refine N.mono ?_;rintro e a ⟨rfl,l⟩;have f:Bl wr a:=⟨l.os,l.tape,l.output,l.size,l.block⟩;have C:=α f;obtain⟨⟨j1,j2,Q,j4⟩,j5⟩:=U.out a (D.out a f);have j6:=af.out a (D.out a f);clear f l))
      all_goals go_upto_region 12 with fail
      all_goals go_region
      all_goals go_wp2_with fail
      all_goals
       refine⟨⟨i+1,o_,by go_num,(T.out.trans (C.out.mono Y)).drew, ?_⟩,by simp[intOf];omega⟩;rw[am.out];exact ao_ (ao_ B.out C.out) (μ.drew)
     |true=>
      rw[hab]at N;cases hbg:d.bg with
      |false=>
       have ap:Hid (Ω d M t (i+1)=Ω d M t i++ [t i]):=mr_ (by simp[ej_,hab,hbg]);clear hab;have al:∀a,Bl wr a->(a.drew.alloc (.cells #[.string (t i)] 9)).ownsRow W.heap.size 9 1 (.slice oa (Ω d M t i).length L) (Ω d M t i).length (Ζ (Ω d M t i))/\wr.heap.size<=a.heap.size:=fun a f=>⟨(ao_ (ao_ B.out f) (μ.drew)).alloc _,f.size⟩
       have ao:Hid (∀y,(Value.slice oa (Ω d M t i).length L).ownBlock=some y->W.heap.size<=y):=fun y e=>(B.out.lt y e).1
       go_upto_region 11 with fail;go_region_held3 (fun w'=>(w'.cell? ⟨w.heap.size,1,none⟩=some (.slice (some ⟨V.ba,V.oa,none⟩) M.n V.ca)/\w'.cell? ⟨w.heap.size,2,none⟩=some (.slice (some ⟨V.bn,V.on,none⟩) M.n V.cn))/\w'.cell? ⟨b,0,none⟩=some (.slice (some ⟨g,0,none⟩) n cr)/\w'.cell? ⟨g,i,none⟩=some (.string (t i))) (go_keep)
        ((go_at_call 76;refine N.mono ?_;rintro e a ⟨rfl,l⟩;have f:Bl wr a:=⟨l.os,l.tape,l.output,l.size,l.block⟩;have C:=α f;obtain⟨⟨j1,j2,Q,j4⟩,j5⟩:=U.out a (D.out a f);have j6:=af.out a (D.out a f);obtain⟨ax,a0⟩:=al a f;rw[hbg]at Q;clear f l))
       all_goals go_upto_region 12 with fail
       all_goals go_region
       all_goals go_wp2_with (at_builtin;refine Υ underlying56 aF aK aL aM ax ?_;intro g' aR w3 ab aa au;have an:=α ab;have ak:=α aa;clear ab aa au)
       all_goals
        have ho:=an.out;rw[it_]at ho;refine⟨⟨i+1,o_,by go_num,((T.out.trans (C.out.mono Y)).drew.alloc (by show W.heap.size<=a.heap.size;omega) _).grown ak.out s_ (fun y e=>ao.out y e), ?_⟩,by simp[intOf];omega⟩;rw[ap.out,Μ,ls_];exact ho
      |true=>
       cases hle:less d.la (t i)with
       |true=>
        have q4:(Op.bytesLess (t i).toList d.la.toList||(t i).toList==d.la.toList)=false:=by rw[qk_,hle];rfl
        have ap:Hid (Ω d M t (i+1)=Ω d M t i++ [t i]):=mr_ (by simp[ej_,hab,hbg,hle]);clear hab hle;have al:∀a,Bl wr a->(a.drew.alloc (.cells #[.string (t i)] 9)).ownsRow W.heap.size 9 1 (.slice oa (Ω d M t i).length L) (Ω d M t i).length (Ζ (Ω d M t i))/\wr.heap.size<=a.heap.size:=fun a f=>⟨(ao_ (ao_ B.out f) (μ.drew)).alloc _,f.size⟩
        have ao:Hid (∀y,(Value.slice oa (Ω d M t i).length L).ownBlock=some y->W.heap.size<=y):=fun y e=>(B.out.lt y e).1
        go_upto_region 11 with fail;go_region_held3 (fun w'=>(w'.cell? ⟨w.heap.size,1,none⟩=some (.slice (some ⟨V.ba,V.oa,none⟩) M.n V.ca)/\w'.cell? ⟨w.heap.size,2,none⟩=some (.slice (some ⟨V.bn,V.on,none⟩) M.n V.cn))/\w'.cell? ⟨b,0,none⟩=some (.slice (some ⟨g,0,none⟩) n cr)/\w'.cell? ⟨g,i,none⟩=some (.string (t i))) (go_keep)
         ((go_at_call 76;refine N.mono ?_;rintro e a ⟨rfl,l⟩;have f:Bl wr a:=⟨l.os,l.tape,l.output,l.size,l.block⟩;have C:=α f;obtain⟨⟨j1,j2,Q,j4⟩,j5⟩:=U.out a (D.out a f);have j6:=af.out a (D.out a f);obtain⟨ax,a0⟩:=al a f;rw[hbg]at Q;clear f l))
        all_goals go_upto_region 12 with fail
        all_goals go_region
        all_goals go_wp2_with (at_builtin;refine Υ underlying56 aF aK aL aM ax ?_;intro g' aR w3 ab aa au;have an:=α ab;have ak:=α aa;clear ab aa au)
        all_goals
         have ho:=an.out;rw[it_]at ho;refine⟨⟨i+1,o_,by go_num,((T.out.trans (C.out.mono Y)).drew.alloc (by show W.heap.size<=a.heap.size;omega) _).grown ak.out s_ (fun y e=>ao.out y e), ?_⟩,by simp[intOf];omega⟩;rw[ap.out,Μ,ls_];exact ho
       |false=>
        have q4:(Op.bytesLess (t i).toList d.la.toList||(t i).toList==d.la.toList)=true:=by rw[qk_,hle];rfl
        have am:Hid (Ω d M t (i+1)=Ω d M t i):=n7_ (by simp[ej_,hab,hbg,hle]);clear hab hle;go_upto_region 11 with fail;go_region_held3 (fun w'=>(w'.cell? ⟨w.heap.size,1,none⟩=some (.slice (some ⟨V.ba,V.oa,none⟩) M.n V.ca)/\w'.cell? ⟨w.heap.size,2,none⟩=some (.slice (some ⟨V.bn,V.on,none⟩) M.n V.cn))/\w'.cell? ⟨b,0,none⟩=some (.slice (some ⟨g,0,none⟩) n cr)/\w'.cell? ⟨g,i,none⟩=some (.string (t i))) (go_keep)
         ((go_at_call 76;refine N.mono ?_;rintro e a ⟨rfl,l⟩;have f:Bl wr a:=⟨l.os,l.tape,l.output,l.size,l.block⟩;have C:=α f;obtain⟨⟨j1,j2,Q,j4⟩,j5⟩:=U.out a (D.out a f);have j6:=af.out a (D.out a f);rw[hbg]at Q;clear f l))
        all_goals go_upto_region 12 with fail
        all_goals go_region
        all_goals go_wp2_with fail
        all_goals
         refine⟨⟨i+1,o_,by go_num,(T.out.trans (C.out.mono Y)).drew, ?_⟩,by simp[intOf];omega⟩;rw[am.out];exact ao_ (ao_ B.out C.out) (μ.drew)
   . have e:i=n:=o_;subst e;have q3:¬(i:Int)<(i:Int):=o_;have H:=HX.out.below (S.trans (A.mono o_));have O:=α H;have ag:Hid (ε (fun j=>j=b) w wr):=gq_ (S.trans (A.mono o_));obtain⟨z,ae⟩:=δ (Ω d M t i);have ad:Hid (de_ d M t i limit=z.take limit):=by unfold Hid de_;rw[ae.out]
     have X:Hid (gp_ d M t i limit=decide (z.length<=limit)):=by unfold Hid gp_;rw[ae.out]
     rw[ae.out]at P ac ay B ⊢;clear ae A;by_cases h0:z.length=0
     . have eL:z=[]:=length_eq_zero_iff.1 h0;subst eL;have ai:Hid (dp_ c K []=c):=rfl;rw[E.out]at ai;clear h0 P ac;rcases B.out.2 with ⟨I,_⟩|⟨g,aQ,aT,I,_,_,aX,Z,_⟩
       . injection I with ev1 ev2 ev3;subst ev1;subst ev3;go_wp2_with fail;go_ret3
         rw[ad.out,X.out,take_nil,ai.out];exact⟨_,rfl,a8_,O.out,ag.out⟩
       . injection I with ev1 ev2 ev3;subst ev1;subst ev3;unfold maxLen at Z;simp only[length_nil]at*;go_wp2_with fail;go_ret3
         rw[ad.out,X.out,take_nil,ai.out];exact⟨_,rfl,ym_ B.out o_,O.out,ag.out⟩
     . obtain⟨g,rfl,aD⟩:=ac o_;have Z:z.length<=L/\L<=maxLen:=by
        rcases B.out.2 with ⟨I,_⟩|⟨g',aQ,aT,I,_,_,aX,Z,_⟩
        . simp at I
        . injection I with ev1 ev2 ev3;exact⟨o_,o_⟩
       unfold maxLen at Z;have aY:g≠b:=aih_ B.out H.1 rfl;obtain⟨r,av⟩:∃r,min z.length limit=r+1:=⟨min z.length limit - 1,o_⟩;have aG:r<z.length:=o_;obtain⟨s,hs⟩:∃s,z[r]? =some s:=⟨z[r],ge_ aG⟩;have cl:wr.cell? ⟨g,r,none⟩=some (.string s):=(aD r o_).trans (strs_got? hs);have ar:(z.take limit).length=r+1:=by rw[length_take];omega
       have aH:(z.take limit).getLast? =some s:=by
        rw[getLast?_eq_getElem?,ar,Nat.add_sub_cancel,getElem?_take_of_lt o_];exact hs
       have HE:Hid (dp_ c K (z.take limit)=bk_ c K {c K with bg:=true,la:=s}):=by unfold Hid dp_;rw[aH]
       rw[E.out]at HE;have aC:=α ar;have aB:Hid (wr.ownsRow w.heap.size 9 1 (.slice (some ⟨g,0,none⟩) (r+1) L) (r+1) (Ζ (z.take limit))):=by
        have:=ym_ (aie_ B.out (m:=r+1) o_) (b2:=w.heap.size) o_;rw[aif_]at this;have G:z.take (r+1)=z.take limit:=by
         by_cases aE:z.length<=limit
         . rw[tk_ o_,tk_ aE]
         . rw[show r+1=limit by omega]
        rw[G]at this;exact this
       obtain⟨d0,d1,d2,d3,d4⟩:=H.cu (k:=K) (by have:=E.out;omega);rw[E.out]at d0 d1 d2 d3 d4;have f3:=World.rowIs.frozen H.1 R;have f4:=World.rowIs.frozen H.1 p4;have aS:=(ir_ (w:=wr) (p:=⟨b,R,none⟩) (q:=⟨g,r,none⟩) (u:= .bool true) aY).trans cl;obtain⟨y4,aU⟩:∃y,(wr.setCell ⟨b,R,none⟩ (.bool true)).cell? ⟨b,p4,none⟩=some y:=⟨_,(World.rowIs.set H.1 R (.bool true)).cell (i:=p4) (by have:=az.out;omega)⟩;have aV:(wr.setCell ⟨b,R,none⟩ (.bool true)).frozen? ⟨b,p4,none⟩=false:=(World.rowIs.set H.1 R (.bool true)).frozen p4;simp only[aO.out,az.out,Nat.reduceMul,Nat.reduceAdd]at f3 f4 aS aU aV;have a4:IntKind.i64.wrap (r:Int)=(r:Int):=by rw[IntKind.wrap_i64];omega
       obtain⟨J,aN⟩:=δ (z.length);rw[aN.out]at av aG Z ay h0 X ⊢;have a3:J<=60:=o_;clear P ac aD hs aH ar H ay;by_cases aE:limit<J
       . have q5:(limit:Int)<(J:Int):=o_;have aq:limit=r+1:=o_;subst aq;have aj:Hid (decide (J<=r+1)=false):=by unfold Hid;simp;omega
         have q6:((r:Int)+1==(J:Int))=false:=s_;clear av;go_wp2_with fail;go_region
         all_goals go_wp2_with fail
         all_goals go_ret3
         all_goals
          have o:=O.out.dO (k:=K) (by have:=E.out;omega) s;rw[E.out]at o;rw[ad.out,X.out,aC.out,HE.out];refine⟨_, ?_,ni_ aB.out O.out.1 ⟨o.2.os,o.2.tape,o.2.output,o.2.size,o.2.block⟩,o.1,gr_ ag.out ⟨o.2.os,o.2.tape,o.2.output,o.2.size,o.2.block⟩⟩;rw[aj.out];rfl
       . have q5:¬(limit:Int)<(J:Int):=o_;have aq:J=r+1:=o_;subst aq;have aj:Hid (decide (r+1<=limit)=true):=by unfold Hid;simp;omega
         clear av;go_wp2_with fail;go_region
         all_goals go_wp2_with fail
         all_goals go_ret3
         all_goals
          have o:=O.out.dO (k:=K) (by have:=E.out;omega) s;rw[E.out]at o;rw[ad.out,X.out,aC.out,HE.out];refine⟨_, ?_,ni_ aB.out O.out.1 ⟨o.2.os,o.2.tape,o.2.output,o.2.size,o.2.block⟩,o.1,gr_ ag.out ⟨o.2.os,o.2.tape,o.2.output,o.2.size,o.2.block⟩⟩;rw[aj.out];rfl
def dg (q i:Nat):Nat:=q/4^i%4
def enc (f:Nat->Nat):Nat->Nat
 |0=>0
 |k+1=>enc f k+f k*4^k
theorem sk_ (h:∀i,i<k->f i<4):enc f k<4^k:=by
 induction k with
 |zero=>simp[enc]
 |succ k ih=>
  have a:=ih (fun i hi=>h i o_);have b:f k*4^k<=3*4^k:=mul_le_mul_right _ (by have:=h k o_;omega)
  simp only[enc];omega
theorem aij_ (h:∀i,i<k->f i<4)(hi:i<k):dg (enc f k) i=f i:=by
 induction k with
 |zero=>omega
 |succ k ih=>
  have b:=sk_ (k:=k) (fun i hi=>h i o_);simp only[enc,dg];by_cases e:i=k
  . subst e;rw[add_mul_div_right _ _ (Nat.pow_pos o_),div_eq_of_lt b,Nat.zero_add,mod_eq_of_lt (h i o_)]
  . have a:=ih (fun i hi=>h i o_) o_;unfold dg at a;have c:4^k=4^(k - i - 1)*4*4^i:=by
     rw[<-Nat.pow_succ,<-Nat.pow_add];congr 1;omega
    rw[c,show f k*(4^(k - i - 1)*4*4^i)=(f k*4^(k - i - 1)*4)*4^i by simp[Nat.mul_assoc],add_mul_div_right _ _ (Nat.pow_pos o_),add_mul_mod_self_right];exact a
theorem aik_ (q i:Nat):dg q i<4:=mod_lt _ o_
theorem ail_ {g:Nat->Nat}(h:∀i,i<k->f i=g i):enc f k=enc g k:=by
 induction k with
 |zero=>rfl
 |succ k ih=>simp only[enc];rw[ih (fun i hi=>h i o_),h k o_]
theorem aim_ (h:q<4^k):enc (dg q) k=q:=by
 have a:∀k,enc (dg q) k=q%4^k:=by
  intro k;induction k with
  |zero=>simp[enc,mod_one]
  |succ k ih=>
   simp only[enc,ih,dg];rw[Nat.pow_succ,mod_mul,Nat.mul_comm (4^k)]
 rw[a,mod_eq_of_lt h]
def sw (b x:Nat):Nat:=if x=b then 0 else if x=0 then b else x
theorem yn_ (b x:Nat):sw b (sw b x)=x:=by
 unfold sw;by_cases c:x=b
 . subst c;by_cases a:x=0
   . simp[a]
   . simp[Ne.symm a]
 . by_cases a:x=0
   . subst a;simp[c]
   . simp[c,a]
theorem yo_ {x:Nat}(hb:b<n)(hx:x<n):sw b x<n:=by unfold sw;split<;>(try split)<;>omega
def fu_ (b8 i:Nat):Nat:=min i (b8+1)
def b4_ (t:Nat->Nat)(b8:Nat)(r:Nat->Nat)(c:Nat):Nat->Nat
 |0=>min (r 0+1) (b8+1)
 |i+1=>min (min (min (r (i+1)+1) (b4_ t b8 r c i+1)) (if t i=c then r i else r i+1)) (b8+1)
theorem sl_ (t:Nat->Nat)(b8:Nat)(r:Nat->Nat)(c i:Nat):b4_ t b8 r c i<=b8+1:=by
 cases i with
 |zero=>simp only[b4_];omega
 |succ i=>simp only[b4_];omega
theorem ain_ {t:Nat->Nat}(h:∀j,j<=i->r j=r' j):b4_ t b8 r c i=b4_ t b8 r' c i:=by
 induction i with
 |zero=>simp only[b4_,h 0 ι]
 |succ i ih=>simp only[b4_];rw[ih (fun j hj=>h j o_),h (i+1) ι,h i o_]
structure Ear where
 t:Nat->Nat
 m:Nat
 b8:Nat
namespace Ear
variable (E:Ear)
def b0:Nat:=enc (fu_ E.b8) (E.m+1)
def row (q i:Nat):Nat:=dg (sw E.b0 q) i
def num (r:Nat->Nat):Nat:=sw E.b0 (enc r (E.m+1))
def succ (q c:Nat):Nat:=E.num (b4_ E.t E.b8 (E.row q) c)
def good (q:Nat):Prop:=q<4^(E.m+1)
def tab (ps:List Nat):γ where
 n:=ps.length
 acc k:=decide (E.row (ps.getD k 0) E.m<=E.b8)
 b7:=pn E.succ ps
variable {E}
theorem yp_ (h:E.b8<=2):E.b0<4^(E.m+1):=sk_ (fun i _=>by unfold fu_;omega)
theorem aio_ (h:E.b8<=2)(hr:∀i,i<=E.m->r i<4):E.good (E.num r):=yo_ (yp_ h) (sk_ (fun i hi=>hr i o_))
theorem yq_ (hr:∀i,i<=E.m->r i<4)(hi:i<=E.m):E.row (E.num r) i=r i:=by
 unfold row num;rw[yn_,aij_ (fun i hi=>hr i o_) o_]
theorem yr_ (h:E.b8<=2)(hq:E.good q):E.num (E.row q)=q:=by
 unfold row num;rw[aim_ (yo_ (yp_ h) hq),yn_]
theorem aip_ (h:∀i,i<=E.m->r i=r' i):E.num r=E.num r':=by unfold num;rw[ail_ (fun i hi=>h i o_)]
theorem row_inj (h:E.b8<=2)(hq:E.good q)(hq':E.good q')(hr:∀i,i<=E.m->E.row q i=E.row q' i):q=q':=by
 rw[<-yr_ h hq,<-yr_ h hq',aip_ hr]
theorem row_zero (h:E.b8<=2)(hi:i<=E.m):E.row 0 i=fu_ E.b8 i:=by
 have:E.num (fu_ E.b8)=0:=by unfold num sw;rw[if_pos (show enc (fu_ E.b8) (E.m+1)=E.b0 from rfl)]
 rw[<-this];exact yq_ (fun i _=>by unfold fu_;omega) hi
theorem ys_ (h:E.b8<=2)(r:Nat->Nat)(c i:Nat):b4_ E.t E.b8 r c i<4:=by have:=sl_ E.t E.b8 r c i;omega
theorem succ_good (h:E.b8<=2)(q c:Nat):E.good (E.succ q c):=aio_ h (fun i _=>ys_ h _ c i)
theorem row_succ (h:E.b8<=2)(q c:Nat)(hi:i<=E.m):E.row (E.succ q c) i=b4_ E.t E.b8 (E.row q) c i:=yq_ (fun i _=>ys_ h _ c i) hi
theorem row_lt (q i:Nat):E.row q i<4:=aik_ _ _
theorem good_zero:E.good 0:=Nat.pow_pos o_
theorem bound (hm:E.m<=12)(h:Κ E.good E.succ ps p):ps.length<=67108864:=by
 have a:=i2_ (4^(E.m+1)) ps h.nd (fun x hx=>h.inr x hx);have b:4^(E.m+1)<=4^13:=Nat.pow_le_pow_right o_ o_;omega
theorem numbered (h:Κ E.good E.succ ps (8*ps.length)):d4_ (E.tab ps) where
 pos:=h.len
 nx i c hi hc:=by
  have:=(h.dt (8*i+c) (by have:i<ps.length:=hi;omega)).2;rw[show(8*i+c)/8=i by omega,show(8*i+c)%8=c by omega]at this;exact ix_ this
 step p hp:=h.num p hp
 row i hi:=h.row i (by have:i<ps.length:=hi;omega)
 all:=h.cm
def lang (E:Ear)(x:List Nat):Bool:=decide (E.row (x.foldl E.succ 0) E.m<=E.b8)
theorem qu_ (h:Κ E.good E.succ ps (8*ps.length))(k:Nat)(hk:k<ps.length)(x:List Nat)(hx:Γ x):
 (E.tab ps).read k x<ps.length/\ps.getD ((E.tab ps).read k x) 0=x.foldl E.succ (ps.getD k 0):=by
 induction x generalizing k with
 |nil=>exact⟨hk,rfl⟩
 |cons c x ih=>
  have g:c<8:=hx c i_;have f:Γ x:=fun d hd=>hx d (by simp[hd])
  have a:=(h.dt (8*k+c) o_).2;rw[show(8*k+c)/8=k by omega,show(8*k+c)%8=c by omega]at a;have e:(E.tab ps).b7 k c<ps.length:=ix_ a;have b:ps.getD ((E.tab ps).b7 k c) 0=E.succ (ps.getD k 0) c:=i3_ ps _ a;simp only[γ.read,foldl_cons];have:=ih _ e f;rw[b]at this;exact this
theorem tab_accepts (h:Κ E.good E.succ ps (8*ps.length))(x:List Nat)(hx:Γ x):(E.tab ps).b6 x=E.lang x:=by
 have:=qu_ h 0 h.len x hx;rw[h.hd]at this;simp only[γ.b6];show decide (E.row (ps.getD ((E.tab ps).read 0 x) 0) E.m<=E.b8)=_
 rw[this.2];rfl
end Ear
theorem aiq_ (a b:Nat)(w:World):
 Calls prog 165 #[.int .i64 a,.int .i64 b] w fun e w'=>e= .returned (.int .i64 ((min a b:Nat):Int))/\w'=w:=by
 by_cases h:a<b
 . rw[Nat.min_eq_left o_];have c:(a:Int)<(b:Int):=o_;go_enter func165,ntmps165;go_wp2
   go_ret;exact⟨rfl,rfl⟩
 . rw[Nat.min_eq_right o_];have c:¬(a:Int)<(b:Int):=o_;go_enter func165,ntmps165;go_wp2
   go_ret;exact⟨rfl,rfl⟩
def au_ (f:Nat->Nat):Array Value:= #[.int .i64 ((f 0:Nat):Int),.int .i64 ((f 1:Nat):Int),.int .i64 ((f 2:Nat):Int),.int .i64 ((f 3:Nat):Int),.int .i64 ((f 4:Nat):Int),.int .i64 ((f 5:Nat):Int),.int .i64 ((f 6:Nat):Int),.int .i64 ((f 7:Nat):Int),.int .i64 ((f 8:Nat):Int),.int .i64 ((f 9:Nat):Int),.int .i64 ((f 10:Nat):Int),.int .i64 ((f 11:Nat):Int),.int .i64 ((f 12:Nat):Int)]
theorem g7_ (h:w.heap[b]? =some (.cells (au_ f) t (0,0))):w.rowIs b t 13 (fun i=> .int .i64 ((f i:Nat):Int)):=by
 refine⟨_,h,rfl,fun i hi=> ?_⟩;rcases (show i=0\/i=1\/i=2\/i=3\/i=4\/i=5\/i=6\/i=7\/i=8\/i=9\/i=10\/i=11\/i=12 by omega)with rfl|rfl|rfl|rfl|rfl|rfl|rfl|rfl|rfl|rfl|rfl|rfl|rfl<;>rfl
theorem hy_ (h:w.rowIs b t 13 (fun i=> .int .i64 ((f i:Nat):Int))):
 w.cell? ⟨b,0,none⟩=some (.int .i64 ((f 0:Nat):Int))/\w.cell? ⟨b,1,none⟩=some (.int .i64 ((f 1:Nat):Int))/\w.cell? ⟨b,2,none⟩=some (.int .i64 ((f 2:Nat):Int))/\w.cell? ⟨b,3,none⟩=some (.int .i64 ((f 3:Nat):Int))/\w.cell? ⟨b,4,none⟩=some (.int .i64 ((f 4:Nat):Int))/\w.cell? ⟨b,5,none⟩=some (.int .i64 ((f 5:Nat):Int))/\w.cell? ⟨b,6,none⟩=some (.int .i64 ((f 6:Nat):Int))/\w.cell? ⟨b,7,none⟩=some (.int .i64 ((f 7:Nat):Int))/\w.cell? ⟨b,8,none⟩=some (.int .i64 ((f 8:Nat):Int))/\w.cell? ⟨b,9,none⟩=some (.int .i64 ((f 9:Nat):Int))/\w.cell? ⟨b,10,none⟩=some (.int .i64 ((f 10:Nat):Int))/\w.cell? ⟨b,11,none⟩=some (.int .i64 ((f 11:Nat):Int))/\w.cell? ⟨b,12,none⟩=some (.int .i64 ((f 12:Nat):Int)):=
 ⟨h.cell (i:=0) o_,h.cell (i:=1) o_,h.cell (i:=2) o_,h.cell (i:=3) o_,h.cell (i:=4) o_,h.cell (i:=5) o_,h.cell (i:=6) o_,h.cell (i:=7) o_,h.cell (i:=8) o_,h.cell (i:=9) o_,h.cell (i:=10) o_,h.cell (i:=11) o_,h.cell (i:=12) o_⟩
theorem p4_ {f:Nat->Value}(h:w.rowIs b t 13 f):
 w.frozen? ⟨b,0,none⟩=false/\w.frozen? ⟨b,1,none⟩=false/\w.frozen? ⟨b,2,none⟩=false/\w.frozen? ⟨b,3,none⟩=false/\w.frozen? ⟨b,4,none⟩=false/\w.frozen? ⟨b,5,none⟩=false/\w.frozen? ⟨b,6,none⟩=false/\w.frozen? ⟨b,7,none⟩=false/\w.frozen? ⟨b,8,none⟩=false/\w.frozen? ⟨b,9,none⟩=false/\w.frozen? ⟨b,10,none⟩=false/\w.frozen? ⟨b,11,none⟩=false/\w.frozen? ⟨b,12,none⟩=false:=
 ⟨h.frozen 0,h.frozen 1,h.frozen 2,h.frozen 3,h.frozen 4,h.frozen 5,h.frozen 6,h.frozen 7,h.frozen 8,h.frozen 9,h.frozen 10,h.frozen 11,h.frozen 12⟩
def if_ (w:World)(b:Nat)(f:Nat->Nat):World:=(((((((((((((w.setCell ⟨b,0,none⟩ (.int .i64 ((f 0:Nat):Int))).setCell ⟨b,1,none⟩ (.int .i64 ((f 1:Nat):Int))).setCell ⟨b,2,none⟩ (.int .i64 ((f 2:Nat):Int))).setCell ⟨b,3,none⟩ (.int .i64 ((f 3:Nat):Int))).setCell ⟨b,4,none⟩ (.int .i64 ((f 4:Nat):Int))).setCell ⟨b,5,none⟩ (.int .i64 ((f 5:Nat):Int))).setCell ⟨b,6,none⟩ (.int .i64 ((f 6:Nat):Int))).setCell ⟨b,7,none⟩ (.int .i64 ((f 7:Nat):Int))).setCell ⟨b,8,none⟩ (.int .i64 ((f 8:Nat):Int))).setCell ⟨b,9,none⟩ (.int .i64 ((f 9:Nat):Int))).setCell ⟨b,10,none⟩ (.int .i64 ((f 10:Nat):Int))).setCell ⟨b,11,none⟩ (.int .i64 ((f 11:Nat):Int))).setCell ⟨b,12,none⟩ (.int .i64 ((f 12:Nat):Int)))
theorem sm_ {g:Nat->Value}(f:Nat->Nat)(h:w.rowIs b t 13 g):(if_ w b f).rowIs b t 13 (fun i=> .int .i64 ((f i:Nat):Int)):=by
 unfold if_;refine((((((((((((((h.set 0 _).set 1 _).set 2 _).set 3 _).set 4 _).set 5 _).set 6 _).set 7 _).set 8 _).set 9 _).set 10 _).set 11 _).set 12 _)).congr (fun i hi=> ?_);rcases (show i=0\/i=1\/i=2\/i=3\/i=4\/i=5\/i=6\/i=7\/i=8\/i=9\/i=10\/i=11\/i=12 by omega)with rfl|rfl|rfl|rfl|rfl|rfl|rfl|rfl|rfl|rfl|rfl|rfl|rfl<;>simp
theorem sn_ {W:World}{B:Nat}(f:Nat->Nat)(h:Below B W w)(hb:B<=b):Below B W (if_ w b f):=by
 unfold if_;exact(((((((((((((h.setCell hb _).setCell hb _).setCell hb _).setCell hb _).setCell hb _).setCell hb _).setCell hb _).setCell hb _).setCell hb _).setCell hb _).setCell hb _).setCell hb _).setCell hb _)
theorem air_ (s:ByteArray)(b8:Nat)(w:World)(hs:s.size<=12)(hm:b8<=2):
 Calls prog 135 #[.agg #[.string s,.int .i64 b8]] w fun e w'=>e= .returned (.agg (au_ (fun i=>if i<=s.size then fu_ b8 i else 0)))/\Bl w w':=by
 obtain⟨W,h,I,N,O,P⟩:=fe_ w #[.string s,.int .i64 b8] 115 (au_ (fun _=>0)) 171 (au_ (fun _=>0)) 171
 have H:=g7_ P;unfold au_ at h;go_enter func135,ntmps135;go_wp2_with fail;simp only[Int.ofNat_zero]at h;rw[<-h];clear h;go_loopw [4] (fun i' wr=>∃i:Nat,i<=s.size+1/\i'= .int .i64 i/\Below (w.heap.size+1+1) W wr/\wr.rowIs (w.heap.size+1+1) 171 13 (fun j=> .int .i64 (((if j<i then fu_ b8 j else 0):Nat):Int))) (fun i' _=>s.size+1 - (intOf i').toNat)
 case atStart=>exact⟨0,o_,rfl,μ,H.congr (fun j _=>i_)⟩
 case round=>
  obtain⟨i,hi,rfl,a,b⟩:=hrel;clear H;obtain⟨x0,x1,_,_⟩:=β ((a.block _ o_).trans N);by_cases ab:i<=s.size
  . have d:=b.cell (i:=i) o_;have g:=b.frozen i;have n:=aiq_ i (b8+1) wr;rw[show((b8+1:Nat):Int)=(b8:Int)+1 by simp]at n;have L:=α b;have m:Hid _:=a;clear b a;go_wp2_with fail;refine n.mono ?_;rintro e w' ⟨rfl,Q⟩;obtain rfl:wr=w':=Q.symm;clear n;go_wp2_with fail;go_roundw
    case rel=>
     refine⟨i+1,o_,by go_num,m.out.setCell (p:=⟨w.heap.size+1+1,i,none⟩) ι _,(L.out.set i _).congr (fun j _=> ?_)⟩;by_cases e:j=i
     . subst e;simp[fu_]
     . by_cases c:j<i
       . simp only[e,c,if_false,if_true];rw[if_pos o_]
       . simp only[e,c,if_false];rw[if_neg o_]
    case measure=>exact c_
  . have aa:¬(i:Int)<=(s.size:Int):=o_;have F:wr.rowIs (w.heap.size+1+1) 171 13 (fun j=> .int .i64 (((if j<=s.size then fu_ b8 j else 0):Nat):Int)):=b.congr (fun j _=>by
     by_cases c:j<i
     . rw[if_pos c,if_pos o_]
     . rw[if_neg c,if_neg o_])
    clear b;obtain⟨f,D⟩:∃f:Nat->Nat,f=(fun j=>if j<=s.size then fu_ b8 j else 0):=⟨_,rfl⟩;have J:Hid (wr.rowIs (w.heap.size+1+1) 171 13 (fun j=> .int .i64 ((f j:Nat):Int))):=by rw[D];exact F
    have K:=α D;clear F D;obtain⟨d,g,t,u,x,y,z,A,B,C,o,q,r⟩:=hy_ J.out;have l:=(g7_ O).of_block (a.block _ o_);obtain⟨d0,d1,d2,d3,d4,d5,d6,d7,d8,d9,d10,d11,d12⟩:=hy_ l;obtain⟨S,T,Y,Z,e4,e5,e6,e7,e8,e9,U,V,X⟩:=p4_ l;have M:=α l;have m:Hid _:=a;clear l a;go_wp2_with fail;obtain⟨R,k⟩:=af_ (if_ wr (w.heap.size+1) f);have G:=sm_ f M.out;have E:Bl w (if_ wr (w.heap.size+1) f):=sn_ f (I.trans (m.out.mono o_)) o_;rw[<-k]at G E;unfold if_ at k;rw[<-k];clear k d g t u x y z A B C o q r;obtain⟨d,g,t,u,x,y,z,A,B,C,o,q,r⟩:=hy_ G;refine bodyPost_ret (v:= .agg (au_ f)) (by simp[results,results135,go_sem,au_,d,g,t,u,x,y,z,A,B,C,o,q,r]) rfl ?_;exact⟨by rw[K.out],E⟩
def a7_ (s:ByteArray)(i:Nat):Nat:=(s.data.toList.getD i 0).toNat - 97
theorem sp_ (a b:Int)(w:World):
 Calls prog 165 #[.int .i64 a,.int .i64 b] w fun e w'=>e= .returned (.int .i64 (min a b))/\w=w':=by
 by_cases h:a<b
 . rw[show min a b=a by omega];go_enter func165,ntmps165;go_wp2
   go_ret;exact⟨rfl,rfl⟩
 . rw[show min a b=b by omega];go_enter func165,ntmps165;go_wp2
   go_ret;exact⟨rfl,rfl⟩
theorem yt_ (b:Int)(w:World)(h1:97<=b)(h2:b<=104):
 Calls prog 121 #[.int .u8 b] w fun e w'=>e= .returned (.tuple #[.int .i64 (b - 97),.bool true])/\w=w':=
 (pm_ b w h1 h2).mono (fun e w' h=>⟨h.1,h.2.symm⟩)
theorem yu_ {s:ByteArray}(h:i<s.size):a7_ s i=s[i].toNat - 97:=by unfold a7_;rw[l0_ s i h]
theorem ais_ (s:ByteArray)(b8 c:Nat)(f:Nat->Nat)(w:World)(hs:s.size<=12)(hm:b8<=2)(ht:dh_ s)(hf:∀i,i<=12->f i<=3):
 Calls prog 136 #[.agg #[.string s,.int .i64 b8],.agg (au_ f),.int .i64 c] w fun e w'=>e= .returned (.agg (au_ (fun i=>if i<=s.size then b4_ (a7_ s) b8 f c i else 0)))/\Bl w w':=by
 obtain⟨W,a⟩:=af_ ((((w.alloc (.cells #[.string s,.int .i64 b8] 115)).alloc (.cells (au_ f) 171)).alloc (.cells (au_ (fun _=>0)) 171)).alloc (.cells (au_ (fun _=>0)) 171));have T:Bl w W:=by
  rw[a];exact((ξ.alloc i_ _).alloc s_ _).alloc s_ _
 have M:W.heap[w.heap.size]? =some (.cells #[.string s,.int .i64 b8] 115 (0,0)):=by rw[a];exact φ (φ (φ (ο i_)))
 have Z:W.heap[w.heap.size+1]? =some (.cells (au_ f) 171 (0,0)):=by rw[a];exact φ (φ (ο i_))
 have b2:W.heap[w.heap.size+1+1]? =some (.cells (au_ (fun _=>0)) 171 (0,0)):=by rw[a];exact φ (ο i_)
 have b3:W.heap[w.heap.size+1+1+1]? =some (.cells (au_ (fun _=>0)) 171 (0,0)):=by rw[a];exact ο i_
 have b:=g7_ Z;have u:=g7_ b3;rw[show au_ (fun _=>0)= #[.int .i64 0,.int .i64 0,.int .i64 0,.int .i64 0,.int .i64 0,.int .i64 0,.int .i64 0,.int .i64 0,.int .i64 0,.int .i64 0,.int .i64 0,.int .i64 0,.int .i64 0]from rfl]at a;obtain⟨R,S,_,_⟩:=β M;have k:=b.cell (i:=0) o_;have l:=u.cell (i:=0) o_;have n:=u.frozen 0;go_enter func136,ntmps136;go_upto_region 2 with fail;rw[<-a];clear a;have f0:=hf 0 o_;go_wp2_with (go_at_call 165;refine(sp_ _ _ _).mono ?_;rintro e w' ⟨rfl,rfl⟩);have L:(W.setCell ⟨w.heap.size+1+1+1,0,none⟩ (.int .i64 (min (f 0:Int) (b8:Int)+1))).rowIs (w.heap.size+1+1+1) 171 13 (fun j=> .int .i64 (((if j<=0 then b4_ (a7_ s) b8 f c j else 0):Nat):Int)):=by
  refine(u.set 0 _).congr (fun j _=> ?_);by_cases e:j=0
  . subst e;simp[b4_];omega
  . simp[e]
 have J:Below (w.heap.size+1+1+1) W (W.setCell ⟨w.heap.size+1+1+1,0,none⟩ (.int .i64 (min (f 0:Int) (b8:Int)+1))):=μ.setCell (p:=⟨w.heap.size+1+1+1,0,none⟩) ι _;clear u k l n R S;go_loopw [8,9,10,11,12,13,14] (fun i' _ _ _ _ _ _ wr=>∃i:Nat,i<=s.size/\i'= .int .i64 i/\Below (w.heap.size+1+1+1) W wr/\wr.rowIs (w.heap.size+1+1+1) 171 13 (fun j=> .int .i64 (((if j<=i then b4_ (a7_ s) b8 f c j else 0):Nat):Int)))
  (fun i' _ _ _ _ _ _ _=>s.size - (intOf i').toNat)
 case atStart=>exact⟨0,o_,rfl,J,L⟩
 case round=>
  obtain⟨i,hi,rfl,d,h⟩:=hrel;clear L J;obtain⟨R,S,_,_⟩:=β ((d.block _ o_).trans M);by_cases O:i<s.size
  . have t:=po_ ht i O;have af:=yu_ O;have I:=b.of_block (d.block _ o_);have k:=I.cell (i:=i) o_;have l:=I.cell (i:=i+1) o_;have d0:=h.cell (i:=i) o_;have d1:=h.cell (i:=i+1) o_;have d2:=h.frozen (i+1);have f0:=hf i o_;have f1:=hf (i+1) o_;have ab:=sl_ (a7_ s) b8 f c i;simp only[Nat.le_refl,if_true]at d0;rw[if_neg o_]at d1;have m:Hid (b4_ (a7_ s) b8 f c (i+1)=min (min (min (f (i+1)+1) (b4_ (a7_ s) b8 f c i+1)) (if a7_ s i=c then f i else f i+1)) (b8+1)):=rfl;obtain⟨hh,X⟩:=δ (b4_ (a7_ s) b8 f c i);have K:=α h;have q:Hid _:=d;rw[X.out]at d0 ab m;clear h d I;by_cases Q:a7_ s i=c
    . rw[if_pos Q]at m;have aa:(((s[i].toNat:Int)- 97) !=(c:Int))=false:=s_;go_wp2_with (first|(go_at_call 121;refine(yt_ _ _ t.1 t.2).mono ?_;rintro e w' ⟨rfl,rfl⟩)|(go_at_call 165;refine(sp_ _ _ _).mono ?_;rintro e w' ⟨rfl,rfl⟩));go_roundw
      case rel=>
       refine⟨i+1,o_,by go_num,q.out.setCell (p:=⟨w.heap.size+1+1+1,i+1,none⟩) ι _,(K.out.set (i+1) _).congr (fun j _=> ?_)⟩;by_cases e:j=i+1
       . subst e;simp only[if_true,Nat.le_refl];rw[m.out];congr 1
         omega
       . simp only[if_neg e];by_cases o:j<=i
         . rw[if_pos o,if_pos o_]
         . rw[if_neg o,if_neg o_]
      case measure=>exact c_
    . rw[if_neg Q]at m;have aa:(((s[i].toNat:Int)- 97) !=(c:Int))=true:=s_;go_wp2_with (first|(go_at_call 121;refine(yt_ _ _ t.1 t.2).mono ?_;rintro e w' ⟨rfl,rfl⟩)|(go_at_call 165;refine(sp_ _ _ _).mono ?_;rintro e w' ⟨rfl,rfl⟩));go_roundw
      case rel=>
       refine⟨i+1,o_,by go_num,q.out.setCell (p:=⟨w.heap.size+1+1+1,i+1,none⟩) ι _,(K.out.set (i+1) _).congr (fun j _=> ?_)⟩;by_cases e:j=i+1
       . subst e;simp only[if_true,Nat.le_refl];rw[m.out];congr 1
         omega
       . simp only[if_neg e];by_cases o:j<=i
         . rw[if_pos o,if_pos o_]
         . rw[if_neg o,if_neg o_]
      case measure=>exact c_
  . have he:i=s.size:=o_;subst he;obtain⟨g,H⟩:∃g:Nat->Nat,g=(fun j=>if j<=s.size then b4_ (a7_ s) b8 f c j else 0):=⟨_,rfl⟩;have U:Hid (wr.rowIs (w.heap.size+1+1+1) 171 13 (fun j=> .int .i64 ((g j:Nat):Int))):=by rw[H];exact h
    have V:=α H;clear h H b;obtain⟨k,l,n,A,B,C,D,E,F,G,x,y,z⟩:=hy_ U.out;have b:=(g7_ b2).of_block (d.block _ o_);obtain⟨d0,d1,d2,d3,d4,d5,d6,d7,d8,d9,d10,d11,d12⟩:=hy_ b;obtain⟨e0,e1,e2,e3,e4,e5,e6,e7,e8,e9,ac,ad,ae⟩:=p4_ b;have Y:=α b;have q:Hid _:=d;clear b d;go_wp2_with fail;obtain⟨W9,r⟩:=af_ (if_ wr (w.heap.size+1+1) g);have P:=sm_ g Y.out;have N:Bl w (if_ wr (w.heap.size+1+1) g):=sn_ g (T.trans (q.out.mono o_)) o_;rw[<-r]at P N;unfold if_ at r;rw[<-r];clear r k l n A B C D E F G x y z;obtain⟨k,l,n,A,B,C,D,E,F,G,x,y,z⟩:=hy_ P;refine bodyPost_ret (v:= .agg (au_ g)) (by simp[results,results136,go_sem,au_,k,l,n,A,B,C,D,E,F,G,x,y,z]) rfl ?_;exact⟨by rw[V.out],N⟩
theorem ait_ {P:Program}(w:World)(d:Nat)(t e:TypeId)(n:Nat)(ht:P.underlying t=some (.array n e))(he:P.underlying e=some (.int .i64))(hsz:∀w,(sizeOf e).run P w= .ok 1 w)(f g:Nat->Nat):
 (Op.equalIn (d+2) t (.agg ((List.range n).map fun i=>Value.int .i64 ((f i:Nat):Int)).toArray) (.agg ((List.range n).map fun i=>Value.int .i64 ((g i:Nat):Int)).toArray)).run P w= .ok ((List.range n).all fun i=>f i==g i) w:=by
 rw[Op.equalIn];simp only[Sem.run_bind,run_underlying ht,Result.andThen_ok,hsz,Std.Legacy.Range.forIn_eq_forIn_range',Std.Legacy.Range.size,Nat.sub_zero,Nat.add_sub_cancel,Nat.div_one];have b:∀i∈List.range' 0 n 1,i<n:=fun i a=>by simpa using (mem_range'_1.1 a).2
 conv=>rhs;rw[range_eq_range']
 generalize List.range' 0 n 1=l at b ⊢;induction l with
 |nil=>simp
 |cons i l ih=>
  have a:i<n:=b i i_;have k:(part e ((List.range n).map fun i=>Value.int .i64 ((f i:Nat):Int)).toArray (i*1)).run P w= .ok (.int .i64 ((f i:Nat):Int)) w:=by
   simp[part,isAgg,run_underlying he,a]
  have m:(part e ((List.range n).map fun i=>Value.int .i64 ((g i:Nat):Int)).toArray (i*1)).run P w= .ok (.int .i64 ((g i:Nat):Int)) w:=by
   simp[part,isAgg,run_underlying he,a]
  have c:(Op.equalIn (d+1) e (.int .i64 ((f i:Nat):Int)) (.int .i64 ((g i:Nat):Int))).run P w= .ok (f i==g i) w:=by
   rw[run_equalIn_int w d e .i64 .i64 _ _ he];congr 1
   rw[Bool.eq_iff_iff];simp only[beq_iff_eq];constructor<;>intro h<;>omega
  simp only[forIn_cons,Sem.run_bind,k,m,c,Result.andThen_ok,all_cons];cases hb:(f i==g i)
  . simp
  . simp only[Bool.not_true,ft_,if_false,Sem.run_pure,Result.andThen_ok,Bool.true_and];exact ih fun j hj=>b j (by simp[hj])
theorem aiu_ (f g:Nat->Nat)(w:World):Sem.run prog (Op.equalIn 10000 171 (.agg (au_ f)) (.agg (au_ g))) w= .ok ((List.range 13).all fun i=>f i==g i) w:=by
 obtain⟨k,a,e,d,j⟩:=info_parts e9_;have h:=ait_ (P:=prog) w 9998 171 3 13 underlying171 underlying3 (fun w=>by rw[run_sizeOf w a];simp[Program.cellsOf,a,d]) f g;have b:au_ f=((List.range 13).map fun i=>Value.int .i64 ((f i:Nat):Int)).toArray:=rfl;have c:au_ g=((List.range 13).map fun i=>Value.int .i64 ((g i:Nat):Int)).toArray:=rfl;rw[b,c,h]
theorem aiv_ (ao:Option Addr)(g n cap:Nat)(F:Nat->Nat->Nat)(f:Nat->Nat)(w:World)(hn:n<=100000000)(ho:0<n->ao=some ⟨g,0,none⟩)(hc:∀k i,k<n->i<13->w.cell? ⟨g,k*13+i,none⟩=some (.int .i64 ((F k i:Nat):Int))):
 Calls prog 137 #[.slice ao n cap,.agg (au_ f)] w fun e w'=>Bl w w'/\∃k,e= .returned (.int .i64 ((k:Nat):Int))/\k<=n/\(k<n->∀i,i<13->F k i=f i)/\∀j,j<k->∃i,i<13/\F j i≠f i:=by
 obtain⟨W,h,x,-,-⟩:=ν w (au_ f) 171;have T:W.heap.size=w.heap.size+1:=by rw[h];simp
 have P:=aw_ h;go_enter func137,ntmps137;go_wp2_with fail;rw[<-h];clear h;go_loopw [5,6,9] (fun _ _ k' wr=>∃k:Nat,k<=n/\k'= .int .i64 k/\Below (w.heap.size+1) W wr/\∀j,j<k->∃i,i<13/\F j i≠f i)
  (fun _ _ k' _=>n - (intOf k').toNat)
 case atStart=>exact⟨0,o_,rfl,μ,fun j hj=>absurd hj o_⟩
 case round=>
  obtain⟨k,V,rfl,l,v⟩:=hrel;have u:=η x l;have U:=l.size;by_cases N:k<n
  . obtain rfl:=ho o_;have R:g<w.heap.size:=Χ (hc k 0 N o_);have a:∀i,i<13->wr.cell? ⟨g,k*13+i,none⟩=some (.int .i64 ((F k i:Nat):Int)):=fun i d=>by rw[u.cell (p:=⟨g,k*13+i,none⟩) R];exact hc k i N d
    have r:=a 0 o_;have A:=a 1 o_;have E:=a 2 o_;have G:=a 3 o_;have H:=a 4 o_;have I:=a 5 o_;have J:=a 6 o_;have K:=a 7 o_;have L:=a 8 o_;have M:=a 9 o_;have B:=a 10 o_;have C:=a 11 o_;have D:=a 12 o_;simp only[Nat.add_zero]at r;clear a;go_upto_region 4 with fail;obtain⟨q,c,-,-,-⟩:=ν wr (au_ (F k)) 171;have s:Below (w.heap.size+1) W q:=by rw[c];exact l.alloc o_ _
    have O:=g7_ (w:=q) (b:=wr.heap.size) (t:=171) (f:=F k) (by rw[c];exact ο rfl);unfold au_ at c;rw[<-c];clear c r A E G H I J K L M B C D;obtain⟨r,A,E,G,H,I,J,K,L,M,B,C,D⟩:=hy_ O;obtain⟨d0,d1,d2,d3,d4,d5,d6,d7,d8,d9,d10,d11,d12⟩:=hy_ ((g7_ P).of_block (s.block _ o_));have m:=aiu_ (F k) f q;obtain⟨Q,o⟩:=δ ((List.range 13).all fun i=>F k i==f i);rw[o.out]at m;unfold au_ at m;have y:Hid _:=s;have z:Hid _:=v;clear O l u v s;cases Q
    . go_wp2_with fail;go_roundw
      case rel=>
       refine⟨k+1,o_,by go_num,y.out,fun j hj=> ?_⟩;by_cases e:j=k
       . subst e;have:=o.out;rw[all_eq_false]at this;obtain⟨i,d,S⟩:=this;exact⟨i,by simpa using d,by simpa using S⟩
       . exact z.out j o_
      case measure=>exact c_
    . go_wp2_with fail;go_ret;refine⟨x.trans (y.out.mono o_),k,rfl,o_,fun _ i d=> ?_,z.out⟩;have:=o.out;rw[all_eq_true]at this;simpa using this i (by simpa using d)
  . have m:k=n:=o_;subst m;go_wp2_with fail;go_ret;exact⟨u,k,rfl,ι,fun h'=>absurd h' o_,v⟩
def hv (E:Ear)(q i:Nat):Nat:=if i<=E.m then E.row q i else 0
def hcells (X:Nat->Nat->Nat):Nat->List Value
 |0=> []
 |k+1=>hcells X k++(List.range 13).map fun c=> .int .i64 ((X k c:Nat):Int)
theorem sq_ (X:Nat->Nat->Nat)(k:Nat):(hcells X k).length=k*13:=by
 induction k with
 |zero=>rfl
 |succ k ih=>simp only[hcells,Μ,ih,length_map,length_range];omega
theorem aiw_ (X:Nat->Nat->Nat)(k i c:Nat)(hi:i<k)(hc:c<13):(hcells X k)[i*13+c]? =some (.int .i64 ((X i c:Nat):Int)):=by
 induction k with
 |zero=>omega
 |succ k ih=>
  simp only[hcells];by_cases e:i=k
  . subst e;rw[getElem?_append_right (by rw[sq_];omega),sq_,show i*13+c - i*13=c by omega];simp[hc]
  . rw[gl_ (by rw[sq_];omega)];exact ih o_
theorem aix_ {X Y:Nat->Nat->Nat}(h:∀i c,i<k->c<13->X i c=Y i c):hcells X k=hcells Y k:=by
 induction k with
 |zero=>rfl
 |succ k ih=>
  simp only[hcells];rw[ih (fun i c hi a=>h i c o_ a)];congr 1
  apply map_congr_left;intro c a;rw[h k c o_ (by simpa using a)]
section
variable {w w2:World}
theorem ns_ (h:w.ownsRow base e s v n x)(h':w.ownsRow base' e' s' v' n' x')(hne:e≠e')(g:Nat)(hg:v.ownBlock=some g)(hg':v'.ownBlock=some g):False:=by
 rcases h.2 with ⟨rfl,_⟩|⟨a,f,j,rfl,_,c,_⟩
 . simp[Value.ownBlock]at hg
 . rcases h'.2 with ⟨rfl,_⟩|⟨d,i,k,rfl,_,b,_⟩
   . simp[Value.ownBlock]at hg'
   . simp only[Value.ownBlock,Δ]at hg hg';subst hg;subst hg';rw[c]at b;simp only[Δ,Obj.cells.injEq]at b;exact hne b.2.1
theorem p5_ {f:Nat->Value}(h:w.ownsRow base e s v n x)(hb:w.rowIs b t m f)(hne:e≠t)(g:Nat)(hg:v.ownBlock=some g):g≠b:=by
 obtain⟨c,hb,_,_⟩:=hb;rcases h.2 with ⟨rfl,_⟩|⟨a,i,j,rfl,_,d,_⟩
 . simp[Value.ownBlock]at hg
 . simp only[Value.ownBlock,Δ]at hg;subst hg;rintro rfl;rw[d]at hb;simp only[Δ,Obj.cells.injEq]at hb;exact hne hb.2.1
theorem yv_ (h:w.ownsRow base e s v n x)(h':w.ownsRow base' e' s' v' n' x')(hne:e≠e')(hg:w.grownBy w2 v'.ownBlock):w2.ownsRow base e s v n x:=by
 refine h.kept hg ?_;cases hv:v.ownBlock with
 |none=>exact .inl rfl
 |some k=>exact .inr (fun e=>ns_ h h' hne k hv e.symm)
end
structure jq_ (W:World)(gw:Nat)(w:World)(X:Nat->Nat->Nat)(n:Nat)(vs va vn:Value)(k:Nat)(xa xn:List Value):Prop where
 cz:Below gw W w
 cg:w.heap[gw]? =some (.cells #[va,vn] 169 (0,0))
 cB:w.ownsRow (gw+1) 4 1 va k xa
 cA:w.ownsRow (gw+1) 174 8 vn k xn
 cG:w.ownsRow (gw+1) 171 13 vs n (hcells X n)
structure eg_ (W:World)(gw H:Nat)(w:World)(X:Nat->Nat->Nat)(n:Nat)(vs va vn:Value)(k:Nat)(xa xn:List Value)(r:Nat->Nat):Prop where
 mem:jq_ W gw w X n vs va vn k xa xn
 rw:w.rowIs H 174 8 (fun c=> .int .i64 ((r c:Nat):Int))
 lo:gw+1<=H
 dn:∀g,vn.ownBlock=some g->g≠H
section
variable {W:World} {gw H:Nat} {w w1 w2:World} {X:Nat->Nat->Nat} {n:Nat} {vs va vn:Value} {k:Nat} {xa xn:List Value} {r:Nat->Nat}
theorem jq_.below (h:jq_ W gw w X n vs va vn k xa xn)(hb:Bl w w1):jq_ W gw w1 X n vs va vn k xa xn:=
 ⟨h.cz.trans (hb.mono (by have:=κ h.cg;omega)),(hb.block _ (κ h.cg)).trans h.cg,ao_ h.cB hb,ao_ h.cA hb,ao_ h.cG hb⟩
theorem eg_.below (h:eg_ W gw H w X n vs va vn k xa xn r)(hb:Bl w w1):eg_ W gw H w1 X n vs va vn k xa xn r:=
 ⟨h.mem.below hb,h.rw.of_block (hb.block _ h.rw.lt),h.lo,h.dn⟩
theorem jq_.round (h:jq_ W gw w X n vs va vn k xa xn):eg_ W gw w.heap.size (w.alloc (.cells #[.int .i64 0,.int .i64 0,.int .i64 0,.int .i64 0,.int .i64 0,.int .i64 0,.int .i64 0,.int .i64 0] 174)) X n vs va vn k xa xn (fun _=>0):=by
 refine⟨h.below ξ,⟨_,ο rfl,rfl,fun i hi=> ?_⟩,by have:=κ h.cg;omega,fun g hg=>by have:=(h.cA.lt g hg).2;omega⟩;rcases (show i=0\/i=1\/i=2\/i=3\/i=4\/i=5\/i=6\/i=7 by omega)with rfl|rfl|rfl|rfl|rfl|rfl|rfl|rfl<;>rfl
theorem eg_.put (h:eg_ W gw H w X n vs va vn k xa xn r)(c v:Nat):eg_ W gw H (w.setCell ⟨H,c,none⟩ (.int .i64 (v:Int))) X n vs va vn k xa xn (fun x=>if x=c then v else r x):=by
 have a:=h.mem;have b:=h.lo;refine⟨⟨a.cz.setCell (p:=⟨H,c,none⟩) s_ _,a3_ a.cg s_,bg_ a.cB _ _ (fun g hg=>p5_ a.cB h.rw d_ g hg),bg_ a.cA _ _ (fun g hg=>h.dn g hg),bg_ a.cG _ _ (fun g hg=>p5_ a.cG h.rw d_ g hg)⟩,(h.rw.set c _).congr (fun x _=> ?_),h.lo,h.dn⟩;by_cases e:x=c
 . simp[e]
 . simp[e]
theorem eg_.cY (h:eg_ W gw H w X n vs va vn k xa xn r)(e:∀x,x<8->r x=r' x):eg_ W gw H w X n vs va vn k xa xn r':=
 ⟨h.mem,h.rw.congr (fun x hx=>by rw[e x hx]),h.lo,h.dn⟩
theorem eg_.eT (h:eg_ W gw H w X n vs va vn k xa xn r){X':Nat->Nat->Nat}(e:∀i c,i<n->c<13->X i c=X' i c):eg_ W gw H w X' n vs va vn k xa xn r:=
 ⟨⟨h.mem.cz,h.mem.cg,h.mem.cB,h.mem.cA,by have:=h.mem.cG;rw[aix_ e]at this;exact this⟩,h.rw,h.lo,h.dn⟩
theorem eg_.grown (h:eg_ W gw H w X n vs va vn k xa xn r)(hown:w2.ownsRow (gw+1) 171 13 (.slice (some ⟨g,0,none⟩) (n+1) cap) (n+1) (hcells X n++(List.range 13).map fun c=> .int .i64 ((X n c:Nat):Int)))(hg:w.grownBy w2 vs.ownBlock):
 eg_ W gw H w2 X (n+1) (.slice (some ⟨g,0,none⟩) (n+1) cap) va vn k xa xn r:=by
 have a:=h.mem;have b:=κ a.cg;refine⟨⟨a.cz.grown hg o_ (fun x e=>by have:=(a.cG.lt x e).1;omega), ?_,yv_ a.cB a.cG d_ hg,yv_ a.cA a.cG d_ hg,hown⟩,hq_ h.rw hg (fun e=>p5_ a.cG h.rw d_ H e rfl),h.lo,h.dn⟩;rw[hg.block _ b (fun e=>by have:=(a.cG.lt _ e.symm).1;omega)];exact a.cg
theorem eg_.add (h:eg_ W gw H w X n vs va vn k xa xn r){va' vn':Value}{ya yn:List Value}(hb:w2.heap[gw]? =some (.cells #[va',vn'] 169 (0,0)))
 (h0:w2.ownsRow (gw+1) 4 1 va' (k+1) ya) (h1:w2.ownsRow (gw+1) 174 8 vn' (k+1) yn)
 (ht:ε (fun b=>b=gw\/va.ownBlock=some b\/vn.ownBlock=some b) w w2):jq_ W gw w2 X n vs va' vn' (k+1) ya yn:=by
 have a:=h.mem;have d:=κ a.cg;refine⟨ht.below a.cz o_ ?_,hb,h0,h1,ht.own a.cG ?_⟩
 . rintro x (rfl|e|e)
   . omega
   . have:=(a.cB.lt _ e).1;omega
   . have:=(a.cA.lt _ e).1;omega
 . rintro g c (rfl|e|e)
   . have:=(a.cG.lt _ c).1;omega
   . exact ns_ a.cG a.cB d_ g c e
   . exact ns_ a.cG a.cA d_ g c e
end
theorem aiy_:(prog.info? 171).map (fun i=>(i.zero,i.size,i.bytes))=some (some (.agg (au_ (fun _=>0))),13,104):=k_
theorem aiz_ (w:World)(f:Nat->Nat)(t:TypeId):∀(j:Nat) (u:Value),((List.range 13).map fun c=>Value.int .i64 ((f c:Nat):Int))[j]? =some u->(w.alloc (.cells (au_ f) t)).cell? ((⟨w.heap.size,0,none⟩:Addr).add j)=some u:=by
 intro j u a;have d:j<13:=by
  rcases Nat.lt_or_ge j 13 with h|h
  . exact h
  . rw[getElem?_eq_none (by simpa using h)]at a;simp at a
 have e:=(g7_ (w:=w.alloc (.cells (au_ f) t)) (b:=w.heap.size) (t:=t) (f:=f) (ο rfl)).cell d;have:(⟨w.heap.size,0,none⟩:Addr).add j=⟨w.heap.size,j,none⟩:=by
  simp[Addr.add];intro h;exact h.symm
 rw[this,e,<-a];simp[d]
theorem ai0_ {E:Ear}(hm:E.b8<=2):hv E q i<=3:=by unfold hv;have:=E.row_lt q i;split<;>omega
theorem ai1_ {E:Ear}(hm:E.b8<=2)(h12:E.m<=12)(hq:E.good q)(hq':E.good q')(h:∀i,i<13->hv E q i=hv E q' i):q=q':=by
 refine Ear.row_inj hm hq hq' (fun i hi=> ?_);have:=h i o_;unfold hv at this;rw[if_pos hi,if_pos hi]at this;exact this
theorem ai2_ {E:Ear}(hm:E.b8<=2)(h12:E.m<=12){r:Nat}(hR:Κ E.good E.succ qs r)(hq':E.good q')(hp:p<qs.length)(h:∀i,i<13->hv E (qs.getD p 0) i=hv E q' i):q'∈qs/\qs.idxOf q'=p:=by
 have e:=ai1_ hm h12 (hR.inr _ (fj_ qs p hp)) hq' h;have d:q'∈qs:=by rw[<-e];exact fj_ qs p hp
 refine⟨d, ?_⟩;have a:=ix_ d;have b:qs[p]'hp=q':=by rw[<-e,gd_,ge_ hp];rfl
 have c:qs[qs.idxOf q']'a=q':=by simp[getElem_idxOf]
 have f:=pairwise_iff_getElem.1 hR.nd;rcases Nat.lt_trichotomy (qs.idxOf q') p with h5|h5|h5
 . exact absurd (c.trans b.symm) (f _ _ a hp h5)
 . exact h5
 . exact absurd (b.trans c.symm) (f _ _ hp a h5)
theorem ai3_ {E:Ear}(h:∀j,j<qs.length->∃i,i<13/\hv E (qs.getD j 0) i≠hv E q' i):q'∉qs:=by
 intro a;obtain⟨i,c,b⟩:=h _ (ix_ a);rw[i3_ qs q' a]at b;exact b rfl
theorem ai4_ {s:ByteArray}(hm:b8<=2)(q c i:Nat):(if i<=s.size then b4_ (a7_ s) b8 (hv ⟨a7_ s,s.size,b8⟩ q) c i else 0)=hv ⟨a7_ s,s.size,b8⟩ (Ear.succ ⟨a7_ s,s.size,b8⟩ q c) i:=by
 unfold hv;by_cases h:i<=s.size
 . rw[if_pos h,if_pos h,Ear.row_succ hm q c h];exact ain_ (fun j hj=>by rw[if_pos (by show j<=s.size;omega)])
 . rw[if_neg h,if_neg h]
theorem ai5_ {s:ByteArray}(hm:b8<=2)(i:Nat):(if i<=s.size then fu_ b8 i else 0)=hv ⟨a7_ s,s.size,b8⟩ 0 i:=by
 unfold hv;by_cases h:i<=s.size
 . rw[if_pos h,if_pos h,Ear.row_zero hm h]
 . rw[if_neg h,if_neg h]
def hX (E:Ear)(qs:List Nat):Nat->Nat->Nat:=fun k c=>hv E (qs.getD k 0) c
theorem ai6_ {E:Ear}(hi:i<qs.length):hX E qs i c=hX E (qs++ [q]) i c:=by unfold hX;rw[b8_ _ _ _ hi]
theorem ai7_ {E:Ear}(hk:k<=ps.length):aa_ (E.tab (ps++ [q])).acc k=aa_ (E.tab ps).acc k:=by
 induction k with
 |zero=>rfl
 |succ k ih=>
  simp only[aa_];rw[ih o_];simp only[Ear.tab];rw[b8_ _ _ _ o_]
theorem yw_ (s:ByteArray)(b8:Nat)(w:World)(hs:s.size<=12)(hm:b8<=2)(ht:dh_ s):
 Calls prog 99 #[.agg #[.string s,.int .i64 b8]] w
  fun e w'=>Bl w w'/\∃ps gw ga ca gn cn,Κ (Ear.good ⟨a7_ s,s.size,b8⟩) (Ear.succ ⟨a7_ s,s.size,b8⟩) ps (8*ps.length)/\e= .returned (.pointer (some ⟨gw,0,none⟩))/\gj_ w' gw ga ca gn cn (Ear.tab ⟨a7_ s,s.size,b8⟩ ps):=by
 obtain⟨iH,bx,bE,bF,bG⟩:=info_parts aiy_;obtain⟨E,T⟩:∃E:Ear,Hid (E=⟨a7_ s,s.size,b8⟩):=⟨_,rfl⟩;have ax:E.b8<=2:=by rw[T.out];exact hm
 have aR:E.m<=12:=by rw[T.out];exact hs
 obtain⟨W,hW,BW,b0,b1⟩:=bl_ w #[.string s,.int .i64 b8] 115 #[.slice none 0 0,.slice none 0 0] 169;have bL:W.heap.size=w.heap.size+1+1:=by rw[hW];simp
 obtain⟨Q,R,_,_⟩:=β b0;obtain⟨f,HF⟩:∃f:Nat->Nat,Hid (f=fun i=>if i<=s.size then fu_ b8 i else 0):=⟨_,rfl⟩;have I:=air_ s b8 W hs hm;rw[<-HF.out]at I;unfold au_ at I;go_enter func99,ntmps99;go_upto_region 2 with fail;rw[<-hW];clear hW;go_wp2_with fail;refine I.mono ?_;clear I;rintro e w1 ⟨rfl,au⟩;have bP:=au.size;clear Q R;go_wp2_with fail;obtain⟨W2,aj⟩:=af_ ((w1.alloc (.cells (au_ f) 171)).alloc (.cells (au_ f) 171));have P0:jq_ W (w.heap.size+1) W2 (hX E [0]) 1 (.slice (some ⟨w1.heap.size+1,0,none⟩) 1 1) (.slice none 0 0) (.slice none 0 0) 0 [] []:=by
  have bu:w1.heap[w.heap.size+1]? =some (.cells #[.slice none 0 0,.slice none 0 0] 169 (0,0)):=(au.block _ o_).trans b1;rw[aj];refine⟨((au.mono o_).alloc o_ _).alloc s_ _,φ (φ bu),a8_,a8_, ?_⟩;have h:=World.ownsRow_lit (base:=(w.heap.size+1)+1) (e:=171) (size:=13) (w1.alloc (.cells (au_ f) 171)) (au_ f) 1 s_ d_ rfl;have e1:(au_ f).toList=hcells (hX E [0]) 1:=by
   simp only[hcells,nil_append];have:(fun c=>Value.int .i64 ((hX E [0] 0 c:Nat):Int))=fun c=>Value.int .i64 ((f c:Nat):Int):=by
    funext c;have:=ai5_ (s:=s) hm c;rw[<-T.out]at this;rw[HF.out];show Value.int .i64 ((hv E 0 c:Nat):Int)=_
    rw[<-this]
   rw[this];rfl
  rw[e1]at h;have bC:(w1.alloc (.cells (au_ f) 171)).heap.size=w1.heap.size+1:=i_;rw[bC]at h;exact h
 unfold au_ at aj;rw[<-aj];clear aj;have aW:∀qs r,Κ E.good E.succ qs r->qs.length<=67108864:=fun qs r h=>Ear.bound aR h
 go_loopw [5,6,7,8,9,10] (fun vs k' _ _ _ _ wr=>∃(k:Nat) (ps:List Nat) (C D:Value),k<=ps.length/\k'= .int .i64 k/\Κ E.good E.succ ps (8*k)/\jq_ W (w.heap.size+1) wr (hX E ps) ps.length vs C D k (aa_ (E.tab ps).acc k) (b9_ (pn E.succ ps) k))
  (fun _ k' _ _ _ _ _=>67108864 - (intOf k').toNat)
 case atStart=>exact⟨0,[0],_,_,i_,rfl,Κ.start Ear.good_zero,P0⟩
 case round=>
  obtain⟨k,ps,C,D,Z,rfl,v,l⟩:=hrel;clear P0;have aV:=aW _ _ v;have bb:=v.len;have ad:=η BW l.cz;obtain⟨Q,R,_,_⟩:=β ((l.cz.block _ o_).trans b0);obtain⟨ap,cp,rfl,V⟩:=Β l.cG;obtain⟨gp,rfl,Y⟩:=V o_;have bD:=κ l.cg;rename World=>wo
  by_cases L:k<ps.length
  . have R0:=l.round;obtain⟨q,F⟩:=δ (ps.getD k 0)
    have B:Hid _:=v;clear l v V Y;go_wp2_with fail;go_loopw [5,8,9,10] (fun vs c' _ _ wr=>∃(c:Nat) (qs:List Nat),c<=8/\c'= .int .i64 c/\k<qs.length/\Hid (qs.getD k 0=q)/\Κ E.good E.succ qs (8*k+c)/\eg_ W (w.heap.size+1) wo.heap.size wr (hX E qs) qs.length vs C D k (aa_ (E.tab qs).acc k) (b9_ (pn E.succ qs) k) (fun c'=>if c'<c then pn E.succ qs k c' else 0))
     (fun _ c' _ _ _=>8 - (intOf c').toNat)
    case atStart=>exact⟨0,ps,o_,rfl,L,F,B.out,R0.cY (fun x _=>i_)⟩
    case round=>
     clear R0 B F L aV bb Q R;obtain⟨c,qs,y,rfl,L,F,v,l⟩:=hrel;have aV:=aW _ _ v;have bb:=v.len;have ak:=l.mem.cz;have ad:=η BW ak;obtain⟨Q,R,_,_⟩:=β ((ak.block _ o_).trans b0);obtain⟨ap,cp,rfl,V⟩:=Β l.mem.cG;obtain⟨d,rfl,Y⟩:=V o_;have bD:=κ l.mem.cg;have ae:∀k i,k<qs.length->i<13->wr.cell? ⟨d,k*13+i,none⟩=some (.int .i64 ((hX E qs k i:Nat):Int)):=fun k i Z G=>(Y (k*13+i) o_).trans (aiw_ _ _ _ _ Z G)
     by_cases ba:c<8
     . have z:∀i,i<13->wr.cell? ⟨d,k*13+i,none⟩=some (.int .i64 ((hv E q i:Nat):Int)):=fun i G=>by rw[ae k i L G];unfold hX;rw[F.out]
       have c0:=z 0 o_;have c1:=z 1 o_;have c2:=z 2 o_;have c3:=z 3 o_;have c4:=z 4 o_;have c5:=z 5 o_;have c6:=z 6 o_;have c7:=z 7 o_;have c8:=z 8 o_;have c9:=z 9 o_;have aO:=z 10 o_;have aP:=z 11 o_;have aQ:=z 12 o_;simp only[Nat.add_zero]at c0;have I:=fun w=>ais_ s b8 c (hv E q) w hs hm ht (fun i _=>ai0_ ax)
       obtain⟨f2,ag⟩:∃f:Nat->Nat,Hid (f=hv E (E.succ q c)):=⟨_,rfl⟩;have aX:(fun i=>if i<=s.size then b4_ (a7_ s) b8 (hv E q) c i else 0)=f2:=by
        rw[ag.out];funext i;rw[T.out];exact ai4_ hm q c i
       rw[aX]at I;unfold au_ at I;clear aX z;have aE:Hid _:=ae;have HP:=α l;have B:=α v;have n:d<wr.heap.size:=Χ c0;have n3:¬wr.heap.size=d:=o_;have n4:¬wr.heap.size=w.heap.size:=o_;have HS:∀w',Bl wr w'->w'.cell? ⟨w.heap.size,0,none⟩=some (.string s)/\w'.cell? ⟨w.heap.size,1,none⟩=some (.int .i64 b8)/\w'.cell? ⟨d,k*13,none⟩=some (.int .i64 ((hv E q 0:Nat):Int))/\w'.cell? ⟨d,k*13+1,none⟩=some (.int .i64 ((hv E q 1:Nat):Int))/\w'.cell? ⟨d,k*13+2,none⟩=some (.int .i64 ((hv E q 2:Nat):Int))/\w'.cell? ⟨d,k*13+3,none⟩=some (.int .i64 ((hv E q 3:Nat):Int))/\w'.cell? ⟨d,k*13+4,none⟩=some (.int .i64 ((hv E q 4:Nat):Int))/\w'.cell? ⟨d,k*13+5,none⟩=some (.int .i64 ((hv E q 5:Nat):Int))/\w'.cell? ⟨d,k*13+6,none⟩=some (.int .i64 ((hv E q 6:Nat):Int))/\w'.cell? ⟨d,k*13+7,none⟩=some (.int .i64 ((hv E q 7:Nat):Int))/\w'.cell? ⟨d,k*13+8,none⟩=some (.int .i64 ((hv E q 8:Nat):Int))/\w'.cell? ⟨d,k*13+9,none⟩=some (.int .i64 ((hv E q 9:Nat):Int))/\w'.cell? ⟨d,k*13+10,none⟩=some (.int .i64 ((hv E q 10:Nat):Int))/\w'.cell? ⟨d,k*13+11,none⟩=some (.int .i64 ((hv E q 11:Nat):Int))/\w'.cell? ⟨d,k*13+12,none⟩=some (.int .i64 ((hv E q 12:Nat):Int)):=fun w' hb=>⟨(hb.cell (p:=⟨w.heap.size,0,none⟩) s_).trans Q,(hb.cell (p:=⟨w.heap.size,1,none⟩) s_).trans R,(hb.cell (p:=⟨d,_,none⟩) n).trans c0,(hb.cell (p:=⟨d,_,none⟩) n).trans c1,(hb.cell (p:=⟨d,_,none⟩) n).trans c2,(hb.cell (p:=⟨d,_,none⟩) n).trans c3,(hb.cell (p:=⟨d,_,none⟩) n).trans c4,(hb.cell (p:=⟨d,_,none⟩) n).trans c5,(hb.cell (p:=⟨d,_,none⟩) n).trans c6,(hb.cell (p:=⟨d,_,none⟩) n).trans c7,(hb.cell (p:=⟨d,_,none⟩) n).trans c8,(hb.cell (p:=⟨d,_,none⟩) n).trans c9,(hb.cell (p:=⟨d,_,none⟩) n).trans aO,(hb.cell (p:=⟨d,_,none⟩) n).trans aP,(hb.cell (p:=⟨d,_,none⟩) n).trans aQ⟩
       clear l v V Y ae;go_upto_region 11 with fail;go_cut [9] (fun p9 wc=>∃g9,p9= .pointer (some ⟨g9,0,none⟩)/\Bl wr wc/\wr.heap.size<=g9/\wc.rowIs g9 171 13 (fun i=> .int .i64 ((f2 i:Nat):Int)))
       case first=>
        refine wp_region_noPanic ?_;refine wp_region_held_drew (S:=(fun w'=>w'.cell? ⟨w.heap.size,0,none⟩=some (.string s)/\w'.cell? ⟨w.heap.size,1,none⟩=some (.int .i64 b8)/\w'.cell? ⟨d,k*13,none⟩=some (.int .i64 ((hv E q 0:Nat):Int))/\w'.cell? ⟨d,k*13+1,none⟩=some (.int .i64 ((hv E q 1:Nat):Int))/\w'.cell? ⟨d,k*13+2,none⟩=some (.int .i64 ((hv E q 2:Nat):Int))/\w'.cell? ⟨d,k*13+3,none⟩=some (.int .i64 ((hv E q 3:Nat):Int))/\w'.cell? ⟨d,k*13+4,none⟩=some (.int .i64 ((hv E q 4:Nat):Int))/\w'.cell? ⟨d,k*13+5,none⟩=some (.int .i64 ((hv E q 5:Nat):Int))/\w'.cell? ⟨d,k*13+6,none⟩=some (.int .i64 ((hv E q 6:Nat):Int))/\w'.cell? ⟨d,k*13+7,none⟩=some (.int .i64 ((hv E q 7:Nat):Int))/\w'.cell? ⟨d,k*13+8,none⟩=some (.int .i64 ((hv E q 8:Nat):Int))/\w'.cell? ⟨d,k*13+9,none⟩=some (.int .i64 ((hv E q 9:Nat):Int))/\w'.cell? ⟨d,k*13+10,none⟩=some (.int .i64 ((hv E q 10:Nat):Int))/\w'.cell? ⟨d,k*13+11,none⟩=some (.int .i64 ((hv E q 11:Nat):Int))/\w'.cell? ⟨d,k*13+12,none⟩=some (.int .i64 ((hv E q 12:Nat):Int)))) k_ ?_ (fun hHeld0=> ?_)
        . (try dsimp only);go_keep
        refine Ξ (i:=0) ?_;refine Ξ (i:=1) ?_;refine Ξ (i:=2) ?_;refine Ξ (i:=3) ?_;refine Ξ (i:=4) ?_;refine Ξ (i:=5) ?_;refine wpAnyH_ready (rs:=[6,7]) k_ i_ ?_;refine AllReadyH.cons g_ (fun K hK=> ?_) ?_
        . go_simp;refine(I _).mono ?_;rintro e P ⟨rfl,A⟩;have U:Bl wr P:=by first|exact((Below.refl wr.heap.size wr).drew).trans A|exact(((Below.refl wr.heap.size wr).drew).alloc ι _).trans (A.mono i_)
          obtain⟨k0,k1,k2,k3,k4,k5,k6,k7,k8,k9,bh,bH,bI,bJ,bK⟩:=HS P U;try obtain⟨d0,d1,d2,d3,d4,d5,d6,d7,d8,d9,d10,d11,d12⟩:=hy_ ((g7_ (f:=fun _=>0) (w:=(wr.alloc (.cells (au_ (fun _=>0)) 171)).drew) (b:=wr.heap.size) (t:=171) (ο rfl)).of_block (A.block _ i_))
          try obtain⟨e0,e1,e2,e3,e4,e5,e6,e7,e8,e9,bp,bq,br⟩:=p4_ ((g7_ (f:=fun _=>0) (w:=(wr.alloc (.cells (au_ (fun _=>0)) 171)).drew) (b:=wr.heap.size) (t:=171) (ο rfl)).of_block (A.block _ i_))
          have ab:Hid _:=U;have aD:Hid _:=A;clear U A;try dsimp only
          refine hk_ hK (fun hHeld1=> ?_);clear hK K hHeld0;refine wr_ (i:=7) (fun K hK=> ?_);go_simp;refine hk_ hK (fun hHeld2=> ?_);clear hK K hHeld1;refine wr_ (i:=8) (fun K hK=> ?_);go_simp;refine hk_ hK (fun hHeld3=> ?_);clear hK K hHeld2;refine wpAnyH_done k_ ?_ _;refine NoPanic.normal ?_;go_wp2_with fail;go_meet
          have hq:=g7_ (w:=P.alloc (.cells (au_ f2) 171)) (b:=P.heap.size) (t:=171) (f:=f2) (ο rfl);have M:=ab.out.alloc (by have:=ab.out.size;omega) (.cells (au_ f2) 171);have hz:=ab.out.size;unfold au_ at hq M;exact⟨P.heap.size,rfl,M,hz,hq⟩
        refine AllReadyH.cons g_ (fun K hK=> ?_) ?_
        . go_simp;refine hk_ hK (fun hHeld4=> ?_);clear hK K hHeld0;refine wr_ (i:=6) (fun K hK=> ?_);go_simp;refine(I _).mono ?_;rintro e P ⟨rfl,A⟩;have U:Bl wr P:=by first|exact((Below.refl wr.heap.size wr).drew).trans A|exact(((Below.refl wr.heap.size wr).drew).alloc ι _).trans (A.mono i_)
          obtain⟨k0,k1,k2,k3,k4,k5,k6,k7,k8,k9,bh,bH,bI,bJ,bK⟩:=HS P U;try obtain⟨d0,d1,d2,d3,d4,d5,d6,d7,d8,d9,d10,d11,d12⟩:=hy_ ((g7_ (f:=fun _=>0) (w:=(wr.alloc (.cells (au_ (fun _=>0)) 171)).drew) (b:=wr.heap.size) (t:=171) (ο rfl)).of_block (A.block _ i_))
          try obtain⟨e0,e1,e2,e3,e4,e5,e6,e7,e8,e9,bp,bq,br⟩:=p4_ ((g7_ (f:=fun _=>0) (w:=(wr.alloc (.cells (au_ (fun _=>0)) 171)).drew) (b:=wr.heap.size) (t:=171) (ο rfl)).of_block (A.block _ i_))
          have ab:Hid _:=U;have aD:Hid _:=A;clear U A;try dsimp only
          refine hk_ hK (fun hHeld5=> ?_);clear hK K hHeld4;refine wr_ (i:=8) (fun K hK=> ?_);go_simp;refine hk_ hK (fun hHeld6=> ?_);clear hK K hHeld5;refine wpAnyH_done k_ ?_ _;refine NoPanic.normal ?_;go_wp2_with fail;go_meet
          have hq:=sm_ f2 ((g7_ (f:=fun _=>0) (w:=(wr.alloc (.cells (au_ (fun _=>0)) 171)).drew) (b:=wr.heap.size) (t:=171) (ο rfl)).of_block (aD.out.block _ i_));have M:=sn_ (b:=wr.heap.size) f2 ab.out ι;unfold if_ at hq M;exact⟨wr.heap.size,rfl,M,ι,hq⟩
        exact AllReadyH.nil
       case rest=>
        obtain⟨g9,rfl,aw,bM,az⟩:=hcut;have aS:=HP.out.below aw;have aF:∀k i,k<qs.length->i<13->wc.cell? ⟨d,k*13+i,none⟩=some (.int .i64 ((hX E qs k i:Nat):Int)):=fun k i Z G=>(aw.cell (p:=⟨d,k*13+i,none⟩) n).trans (aE.out k i Z G)
        have al:=aiv_ (some ⟨d,0,none⟩) d qs.length cp (hX E qs) f2 wc o_ (fun _=>rfl) aF;obtain⟨a0,a1,a2,a3,a4,a5,a6,a7,a8,a9,aL,aM,aN⟩:=hy_ az;have ao:=α az;unfold au_ at al;clear HS I aF c0 c1 c2 c3 c4 c5 c6 c7 c8 c9 aO aP aQ Q R n3 n4 HP aE ak ad az;have aK:=α aS;clear aS;go_wp2_with fail;refine al.mono ?_;clear al a0 a1 a2 a3 a4 a5 a6 a7 a8 a9 aL aM aN;rintro e w5 ⟨av,p,rfl,bO,aC,ay⟩;have ac:=aK.out.below av;have aJ:=α ac;have bk:Hid (w5.rowIs g9 171 13 (fun i=> .int .i64 ((f2 i:Nat):Int))):=ao.out.of_block (av.block _ ao.out.lt);have r0:=ac.rw.cell ba;have r1:=ac.rw.frozen c;have J:=ac.rw.lt;simp only[Nat.lt_irrefl,if_false]at r0;have ai:Hid (E.succ (qs.getD ((8*k+c)/8) 0) ((8*k+c)%8)=E.succ q c):=by
         unfold Hid;rw[show(8*k+c)/8=k by omega,show(8*k+c)%8=c by omega,F.out]
        have aH:Hid (E.good (E.succ q c)):=Ear.succ_good ax q c;clear ac aK ao av aw;by_cases bc:p<qs.length
        . have be:=ai2_ ax aR B.out aH.out bc (fun i G=>by have:=aC bc i G;rw[ag.out]at this;exact this);have bN:((p:Int)==(qs.length:Int))=false:=by rw[bq_];omega
          have HO:Hid _:=be;clear be aC ay;go_wp2_with fail;go_roundw
          case rel=>
           have bA:pn E.succ qs k c=p:=by
            unfold pn;rw[F.out];exact HO.out.2
           have hn:=(aJ.out.put c p).cY (r':=fun c'=>if c'<c+1 then pn E.succ qs k c' else 0) (fun x _=>by
            by_cases e:x=c
            . subst e;simp[bA]
            . by_cases h':x<c
              . simp only[e,h',if_false,if_true];rw[if_pos o_]
              . simp only[e,h',if_false];rw[if_neg o_])
           exact⟨c+1,qs,o_,by go_num,L,F,B.out.old o_ (by rw[ai.out];exact HO.out.1),hn⟩
          case measure=>exact c_
        . have bz:p=qs.length:=o_;subst bz;have af:=ai3_ (E:=E) (qs:=qs) (q':=E.succ q c) (fun j hj=>by
           obtain⟨i,G,bd⟩:=ay j hj;exact⟨i,G,by rw[ag.out]at bd;exact bd⟩)
          have HN:Hid _:=af;obtain⟨a0,a1,a2,a3,a4,a5,a6,a7,a8,a9,aL,aM,aN⟩:=hy_ bk.out;clear af ay aC;have am:Hid (eg_ W (w.heap.size+1) wo.heap.size (w5.alloc (.cells (au_ f2) 171)) (hX E (qs++ [E.succ q c])) qs.length (.slice (some ⟨d,0,none⟩) qs.length cp) C D k (aa_ (E.tab qs).acc k) (b9_ (pn E.succ qs) k) (fun c'=>if c'<c then pn E.succ qs k c' else 0)):=(aJ.out.below ξ).eT (fun i c G _=>ai6_ G);have aI:=α am.out.mem.cG;have aG:Hid _:=aiz_ w5 f2 171;have HG:Hid (∀g ar O,O.ownsRow ((w.heap.size+1)+1) 171 13 (.slice (some ⟨g,0,none⟩) (qs.length+1) ar) (qs.length+1) (hcells (hX E (qs++ [E.succ q c])) qs.length++((List.range 13).map fun c=>Value.int .i64 ((f2 c:Nat):Int)))->
           (w5.alloc (.cells (au_ f2) 171)).grownBy O (Value.slice (some ⟨d,0,none⟩) qs.length cp).ownBlock->
           O.cell? ⟨wo.heap.size,c,none⟩=some (.int .i64 0)/\O.frozen? ⟨wo.heap.size,c,none⟩=false/\Hid (eg_ W (w.heap.size+1) wo.heap.size O (hX E (qs++ [E.succ q c])) (qs.length+1) (.slice (some ⟨g,0,none⟩) (qs.length+1) ar) C D k (aa_ (E.tab qs).acc k) (b9_ (pn E.succ qs) k) (fun c'=>if c'<c then pn E.succ qs k c' else 0))):=by
           intro g ar O ho hg;have e1:((List.range 13).map fun c=>Value.int .i64 ((f2 c:Nat):Int))=(List.range 13).map fun x=>Value.int .i64 ((hX E (qs++ [E.succ q c]) qs.length x:Nat):Int):=by
            rw[ag.out];unfold hX;simp[gd_]
           rw[e1]at ho;have aA:=am.out.grown ho hg;refine⟨?_,aA.rw.frozen c,aA⟩;have:=aA.rw.cell ba;simpa using this
          clear am;unfold au_ at aI aG HG;go_wp2_with (at_builtin;refine jh_ _ rfl _ _ 173 rfl ((w.heap.size+1)+1) 171 iH (.agg (au_ (fun _=>0))) 13 104 underlying173 bx bE bF bG rfl d_ _ qs.length (hcells (hX E (qs++ [E.succ q c])) qs.length) rfl aI.out ⟨w5.heap.size,0,none⟩ 1 1 ((List.range 13).map fun c=>Value.int .i64 ((f2 c:Nat):Int)) rfl rfl aG.out (by intro u hu;simp only[mem_map]at hu;obtain⟨_,_,rfl⟩:=hu;rfl) d_ u_ o_ s_ ?_;intro g2 bo O bf aZ bw;obtain⟨f0,f1,bj⟩:=HG.out g2 bo O bf aZ;clear bf aZ bw);go_roundw
          case rel=>
           have af:=B.out.new o_ (by rw[ai.out];exact HN.out) (by rw[ai.out];exact aH.out);rw[ai.out]at af;have bB:pn E.succ (qs++ [E.succ q c]) k c=qs.length:=by
            simp only[pn];rw[b8_ _ _ _ L,F.out,idxOf_append,if_neg HN.out];simp
           have hn:=(bj.out.put c qs.length).cY (r':=fun c'=>if c'<c+1 then pn E.succ (qs++ [E.succ q c]) k c' else 0) (fun x hx=>by
            by_cases e:x=c
            . subst e;simp[bB]
            . by_cases h':x<c
              . simp only[e,h',if_false,if_true];rw[if_pos o_,h7_ B.out k x hx o_]
              . simp only[e,h',if_false];rw[if_neg o_])
           rw[<-ai7_ (E:=E) (q:=E.succ q c) o_,<-tx_ (X:=pn E.succ (qs++ [E.succ q c])) (fun x c' hx hc'=>h7_ B.out x c' hc' o_)]at hn;exact⟨c+1,(qs++ [E.succ q c]),o_,by go_num,s_,by unfold Hid;rw[b8_ _ _ _ L];exact F.out,af,by simpa using hn⟩
          case measure=>exact c_
     . have bv:c=8:=o_;subst bv;clear V Y;obtain⟨tv,aq⟩:=δ (hv E q s.size);have bl:Hid (decide (tv<=b8)=decide (E.row q E.m<=E.b8)):=by
        unfold Hid;rw[<-aq.out];have bt:E.m=s.size:=by rw[T.out]
        have bs:E.b8=b8:=by rw[T.out]
        unfold hv;rw[<-bt,if_pos ι,bs]
       have y0:=ae k s.size L o_;rw[show hX E qs k s.size=tv by unfold hX;rw[F.out];exact aq.out]at y0;have H:=l.rw;have r0:=H.cell (i:=0) o_;have r1:=H.cell (i:=1) o_;have r2:=H.cell (i:=2) o_;have r3:=H.cell (i:=3) o_;have r4:=H.cell (i:=4) o_;have r5:=H.cell (i:=5) o_;have r6:=H.cell (i:=6) o_;have r7:=H.cell (i:=7) o_;simp only[show(0:Nat)<8 from by decide,show(1:Nat)<8 from by decide,show(2:Nat)<8 from by decide,show(3:Nat)<8 from by decide,show(4:Nat)<8 from by decide,show(5:Nat)<8 from by decide,show(6:Nat)<8 from by decide,show(7:Nat)<8 from by decide,if_true]at r0 r1 r2 r3 r4 r5 r6 r7;have n:=(l.mem.cG.lt d rfl);have J:=H.lt;have HS:Hid (∀w',ε (fun b=>b=(w.heap.size+1)\/C.ownBlock=some b\/D.ownBlock=some b) wr.drew w'->w'.cell? ⟨w.heap.size,0,none⟩=some (.string s)/\w'.cell? ⟨w.heap.size,1,none⟩=some (.int .i64 b8)/\w'.cell? ⟨d,k*13+s.size,none⟩=some (.int .i64 (tv:Int))/\w'.cell? ⟨wo.heap.size,0,none⟩=some (.int .i64 ((pn E.succ qs k 0:Nat):Int))/\w'.cell? ⟨wo.heap.size,1,none⟩=some (.int .i64 ((pn E.succ qs k 1:Nat):Int))/\w'.cell? ⟨wo.heap.size,2,none⟩=some (.int .i64 ((pn E.succ qs k 2:Nat):Int))/\w'.cell? ⟨wo.heap.size,3,none⟩=some (.int .i64 ((pn E.succ qs k 3:Nat):Int))/\w'.cell? ⟨wo.heap.size,4,none⟩=some (.int .i64 ((pn E.succ qs k 4:Nat):Int))/\w'.cell? ⟨wo.heap.size,5,none⟩=some (.int .i64 ((pn E.succ qs k 5:Nat):Int))/\w'.cell? ⟨wo.heap.size,6,none⟩=some (.int .i64 ((pn E.succ qs k 6:Nat):Int))/\w'.cell? ⟨wo.heap.size,7,none⟩=some (.int .i64 ((pn E.succ qs k 7:Nat):Int))):=by
        intro w' ht;have y:∀k o:Nat,k<wr.heap.size->¬(k=(w.heap.size+1)\/C.ownBlock=some k\/D.ownBlock=some k)->w'.cell? ⟨k,o,none⟩=wr.cell? ⟨k,o,none⟩:=fun k o Z hn=>World.cell?_of_block (a:=⟨k,o,none⟩) (ht.block k Z hn)
        have na:¬(w.heap.size=(w.heap.size+1)\/C.ownBlock=some w.heap.size\/D.ownBlock=some w.heap.size):=by
         rintro(e|e|e)
         . omega
         . have:=(l.mem.cB.lt _ e).1;omega
         . have:=(l.mem.cA.lt _ e).1;omega
        have nb:¬(d=(w.heap.size+1)\/C.ownBlock=some d\/D.ownBlock=some d):=by
         rintro(e|e|e)
         . have:=n.1;omega
         . exact ns_ l.mem.cG l.mem.cB d_ d rfl e
         . exact ns_ l.mem.cG l.mem.cA d_ d rfl e
        have N:¬(wo.heap.size=(w.heap.size+1)\/C.ownBlock=some wo.heap.size\/D.ownBlock=some wo.heap.size):=by
         rintro(e|e|e)
         . have:=l.lo;omega
         . exact p5_ l.mem.cB H d_ _ e rfl
         . exact l.dn _ e rfl
        exact⟨(y _ _ o_ na).trans Q,(y _ _ o_ na).trans R,(y _ _ n.2 nb).trans y0,(y _ _ J N).trans r0,(y _ _ J N).trans r1,(y _ _ J N).trans r2,(y _ _ J N).trans r3,(y _ _ J N).trans r4,(y _ _ J N).trans r5,(y _ _ J N).trans r6,(y _ _ J N).trans r7⟩
       have ah:Hid (eg_ W (w.heap.size+1) wo.heap.size wr.drew (hX E qs) qs.length (.slice (some ⟨d,0,none⟩) qs.length cp) C D k (aa_ (E.tab qs).acc k) (b9_ (pn E.succ qs) k) (fun c'=>if c'<8 then pn E.succ qs k c' else 0)):=l.below (μ.drew);have HA:=tw_ (w.heap.size+1) ((w.heap.size+1)+1) C D k _ _ (decide (tv<=b8)) (pn E.succ qs k) wr.drew ah.out.mem.cg ah.out.mem.cB ah.out.mem.cA o_ (by show(w.heap.size+1)+1<=wr.heap.size;omega) o_;unfold do_ at HA;have B:=α v;clear l v ae H ak ad aq;have bQ:(s.size:Int)<13:=o_;go_upto_region 16 with fail;refine wp_region_noPanic ?_;refine wp_region_held_drew (S:=(fun w'=>w'.cell? ⟨w.heap.size,0,none⟩=some (.string s)/\w'.cell? ⟨w.heap.size,1,none⟩=some (.int .i64 b8)/\w'.cell? ⟨d,k*13+s.size,none⟩=some (.int .i64 (tv:Int))/\w'.cell? ⟨wo.heap.size,0,none⟩=some (.int .i64 ((pn E.succ qs k 0:Nat):Int))/\w'.cell? ⟨wo.heap.size,1,none⟩=some (.int .i64 ((pn E.succ qs k 1:Nat):Int))/\w'.cell? ⟨wo.heap.size,2,none⟩=some (.int .i64 ((pn E.succ qs k 2:Nat):Int))/\w'.cell? ⟨wo.heap.size,3,none⟩=some (.int .i64 ((pn E.succ qs k 3:Nat):Int))/\w'.cell? ⟨wo.heap.size,4,none⟩=some (.int .i64 ((pn E.succ qs k 4:Nat):Int))/\w'.cell? ⟨wo.heap.size,5,none⟩=some (.int .i64 ((pn E.succ qs k 5:Nat):Int))/\w'.cell? ⟨wo.heap.size,6,none⟩=some (.int .i64 ((pn E.succ qs k 6:Nat):Int))/\w'.cell? ⟨wo.heap.size,7,none⟩=some (.int .i64 ((pn E.succ qs k 7:Nat):Int)))) k_ ?_ (fun hHeld0=> ?_)
       . (try dsimp only);go_keep
       refine Ξ (i:=0) ?_;refine Ξ (i:=1) ?_;refine Ξ (i:=2) ?_;refine Ξ (i:=3) ?_;refine Ξ (i:=4) ?_;refine Ξ (i:=5) ?_;refine Ξ (i:=6) ?_;refine Ξ (i:=7) ?_;refine Ξ (i:=8) ?_;refine Ξ (i:=9) ?_;refine Ξ (i:=10) ?_;refine Ξ (i:=11) ?_;refine Ξ (i:=12) ?_;refine wr_ (i:=13) (fun K hK=> ?_);go_simp;refine HA.mono ?_;rintro e w6 ⟨rfl,bR,bS,f0,f1,f2,f3,_,_⟩;obtain⟨k0,k1,k2,k3,k4,k5,k6,k7,k8,k9,bh⟩:=HS.out w6 f3;have F1:Hid _:=ah.out.add f0 f1 f2 f3;clear f0 f1 f2 f3;try dsimp only
       refine hk_ hK (fun hHeld1=> ?_);clear hK K hHeld0;refine wpAnyH_done k_ ?_ _;refine NoPanic.normal ?_;go_wp2_with fail;go_roundw
       case rel=>
        have f1:=F1.out;have ea:aa_ (E.tab qs).acc k++ [.bool (decide (tv<=b8))]=aa_ (E.tab qs).acc (k+1):=by
         simp only[aa_,Ear.tab];rw[F.out,<-bl.out]
        have er:b9_ (pn E.succ qs) k++ [(.int .i64 ((pn E.succ qs k 0:Nat):Int)),(.int .i64 ((pn E.succ qs k 1:Nat):Int)),(.int .i64 ((pn E.succ qs k 2:Nat):Int)),(.int .i64 ((pn E.succ qs k 3:Nat):Int)),(.int .i64 ((pn E.succ qs k 4:Nat):Int)),(.int .i64 ((pn E.succ qs k 5:Nat):Int)),(.int .i64 ((pn E.succ qs k 6:Nat):Int)),(.int .i64 ((pn E.succ qs k 7:Nat):Int))]=b9_ (pn E.succ qs) (k+1):=by
         simp only[b9_];rfl
        rw[ea,er]at f1;exact⟨k+1,qs,_,_,o_,by go_num,by rw[show 8*(k+1)=8*k+8 by omega];exact B.out,f1⟩
       case measure=>exact c_
  . have he:k=ps.length:=o_;subst he;obtain⟨y0,y1,_,_⟩:=β l.cg;obtain⟨aa,ca,rfl,aT⟩:=Β l.cB;obtain⟨an,cn,rfl,aU⟩:=Β l.cA;obtain⟨ga,rfl,_⟩:=aT v.len;obtain⟨gn,rfl,_⟩:=aU v.len;have HP:=α l;have B:=α v;have bm:Hid _:=y0;have bn:Hid _:=y1;have bi:Hid _:=ad;clear l v V Y y0 y1 aT aU Q R ad;go_wp2_with fail;go_ret;have M:=HP.out;have aY:gj_ wo (w.heap.size+1) ga ca gn cn (E.tab ps):=⟨bm.out,bn.out,fun x hx=>by
     have aB:x<ps.length:=hx;rw[M.cB.cellAt x o_];exact n8_ _ _ _ aB,fun x c hx y=>by
     have aB:x<ps.length:=hx;rw[M.cA.cellAt (x*8+c) o_];exact t0_ _ _ _ _ aB y⟩
    have bg:=B.out;rw[T.out]at aY bg;exact⟨bi.out,ps,(w.heap.size+1),ga,ca,gn,cn,bg,rfl,aY⟩
def hz_ (s:ByteArray)(d b:Int):Int:=
 if (decide (s.size<=12)&&as_ s s.size)=false then 7 else if d<0\/2<d then 8 else if b<1\/40<b then 8 else 0
theorem ai8_ (s:ByteArray)(b8 budget:Nat)(w:World)(hs:s.size<=12)(hm:b8<=2)(ht:dh_ s)(hb0:1<=budget)(hb1:budget<=40):
 Calls prog 60 #[.string s,.int .i64 b8,.int .i64 budget] w fun e w'=>∃n,d7_ (Ear.lang ⟨a7_ s,s.size,b8⟩) budget n w e w':=by
 have d:=fun w=>nn_ s w u_
 rw[show(decide (s.size<=12)&&as_ s s.size)=true by simp[hs,(jg_ s).2 ht]]at d;obtain⟨W,f,t,B,-⟩:=bl_ w #[.slice none 0 0,.slice none 0 0] 41 #[.string s,.int .i64 b8] 115;have O:W.heap.size=w.heap.size+1+1:=by rw[f];simp
 have a:=yw_ s b8 W hs hm ht;have Q:¬(b8:Int)<0:=o_;go_enter func60,ntmps60;go_wp2_with (go_at_call 98;refine(d _).mono ?_;rintro e w' ⟨rfl,rfl⟩);rw[<-f];clear f d;refine a.mono ?_;clear a;rintro e M ⟨b,J,I,G,C,H,D,c,rfl,m⟩;have R:=b.size;have P:=Ear.bound (E:=⟨a7_ s,s.size,b8⟩) hs c;have a:=to_ I G C H D _ (Ear.lang ⟨a7_ s,s.size,b8⟩) budget M m (Ear.numbered c) (by show J.length<=100000000;omega) (fun x hx=>Ear.tab_accepts c x hx) hb0 hb1;have y:=η t b;have A:=(b.block _ o_).trans B;clear c m b;go_wp2_with fail;refine a.mono ?_;intro e Y p;obtain⟨g,q,j,h,r,k,F,rfl,N,l,o⟩:=p.wrap y o_;have i:=(l.block _ o_).trans A;have z:Hid _:=o w.heap.size o_ o_;obtain⟨U,V,S,T⟩:=β i;clear a p o l;go_wp2_with fail;obtain⟨K,L,X⟩:=Φ (u:= .slice g q j) (v:= .slice h r k) i;refine bodyPost_ret (v:= .tuple #[.agg #[.slice g q j,.slice h r k],.int .i64 F]) (by simp[results,results60,go_sem,K,L]) rfl ?_;exact⟨_,z.out⟩
theorem ai9_ (s:ByteArray)(d b:Int)(w:World)(hss:s.size<=maxLen)(hne:hz_ s d b≠0):
 Calls prog 60 #[.string s,.int .i64 d,.int .i64 b] w fun e w'=>e= .returned (.tuple #[.agg #[.slice none 0 0,.slice none 0 0],.int .i64 (hz_ s d b)])/\Bl w w':=by
 have g:=fun w=>nn_ s w hss
 obtain⟨i,f,q,-,y⟩:=ν w #[.slice none 0 0,.slice none 0 0] 41;have r:Hid _:=av_ q (b:=w.heap.size) o_ (.slice none 0 0) (.slice none 0 0);obtain⟨K,L,I,J⟩:=β y;obtain⟨_,c,a⟩:=Φ (u:= .slice none 0 0) (v:= .slice none 0 0) y;have t:Hid _:=a;have x:Hid _:=c;clear a c;unfold hz_ at hne ⊢;cases htt:(decide (s.size<=12)&&as_ s s.size)
 . rw[htt]at g;simp only[if_true];clear htt hne;have m:=g i;go_enter func60,ntmps60;go_upto_region 1 with fail;rw[<-f];clear f;go_wp2_with (go_at_call 98;refine m.mono ?_;rintro e w' ⟨rfl,o⟩;obtain rfl:i=w':=o.symm);have a:=t.out;have c:=x.out;refine bodyPost_ret (v:= .tuple #[.agg #[.slice none 0 0,.slice none 0 0],.int .i64 7]) (by simp[results,results60,go_sem,a,c]) rfl ?_;exact⟨rfl,r.out⟩
 . rw[htt]at hne g;simp only[Bool.true_eq_false,if_false]at hne ⊢;have m:=g i;by_cases k:d<0\/2<d
   . simp only[if_pos k];clear hne htt;rcases k with k|k
     . go_enter func60,ntmps60;go_upto_region 1 with fail;rw[<-f];clear f;go_wp2_with (go_at_call 98;refine m.mono ?_;rintro e w' ⟨rfl,o⟩;obtain rfl:i=w':=o.symm);have a:=t.out;have c:=x.out;refine bodyPost_ret (v:= .tuple #[.agg #[.slice none 0 0,.slice none 0 0],.int .i64 8]) (by simp[results,results60,go_sem,a,c]) rfl ?_;exact⟨rfl,r.out⟩
     . have ac:¬d<0:=o_;go_enter func60,ntmps60;go_upto_region 1 with fail;rw[<-f];clear f;go_wp2_with (go_at_call 98;refine m.mono ?_;rintro e w' ⟨rfl,o⟩;obtain rfl:i=w':=o.symm);have a:=t.out;have c:=x.out;refine bodyPost_ret (v:= .tuple #[.agg #[.slice none 0 0,.slice none 0 0],.int .i64 8]) (by simp[results,results60,go_sem,a,c]) rfl ?_;exact⟨rfl,r.out⟩
   . simp only[if_neg k]at hne ⊢;have G:b<1\/40<b:=by
      refine cc_ (fun h=> ?_);rw[if_neg h]at hne;exact hne rfl
     simp only[if_pos G];clear hne r t x K L I J m;have H:s.size<=12:=by simp at htt;exact htt.1
     have Y:dh_ s:=(jg_ s).1 (by simp at htt;exact htt.2);obtain⟨p,rfl⟩:∃n:Nat,d=(n:Int):=⟨d.toNat,o_⟩;have X:p<=2:=o_;obtain⟨W,j,-,-,-⟩:=ν i #[.string s,.int .i64 p] 115;have M:Bl w W:=by rw[j];exact q.alloc (by have:=q.size;omega) _
     have Q:W.heap[w.heap.size]? =some (.cells #[.slice none 0 0,.slice none 0 0] 41 (0,0)):=by rw[j];exact φ y
     have aa:w.heap.size<W.heap.size:=by rw[j,f];simp;omega
     have l:=yw_ s p W H X Y;rw[f]at j;clear f y q;have ad:¬(p:Int)<0:=o_;clear htt k;go_enter func60,ntmps60;go_wp2_with (go_at_call 98;refine(g _).mono ?_;rintro e w' ⟨rfl,rfl⟩);rw[<-j];clear j g;refine l.mono ?_;clear l;rintro e w2 ⟨z,Z,V,T,R,U,S,B,rfl,F⟩;have ae:=z.size;have ab:=Ear.bound (E:=⟨a7_ s,s.size,p⟩) H B;have l:=tp_ V T R U S _ b w2 F (Ear.numbered B) (by show Z.length<=100000000;omega) G;have N:=η M z;have C:=(z.block _ o_).trans Q;clear B F z;go_wp2_with fail;refine l.mono ?_;clear l;rintro e w5 ⟨rfl,A⟩;have D:=(A.block _ o_).trans C;have O:=η N A;have P:Hid _:=av_ O (b:=w.heap.size) o_ (.slice none 0 0) (.slice none 0 0);obtain⟨K,L,I,J⟩:=β D;clear A C;go_wp2_with fail;obtain⟨a,c,r3⟩:=Φ (u:= .slice none 0 0) (v:= .slice none 0 0) D;refine bodyPost_ret (v:= .tuple #[.agg #[.slice none 0 0,.slice none 0 0],.int .i64 8]) (by simp[results,results60,go_sem,a,c]) rfl ?_;exact⟨rfl,P.out⟩
theorem aja_ (s:ByteArray)(b8 budget:Nat)(w:World)(hs:s.size<=12)(hm:b8<=2)(ht:dh_ s)(hb0:1<=budget)(hb1:budget<=40):
 Calls prog 27 #[.string s,.int .i64 b8,.int .i64 budget] w fun e w'=>∃n,d7_ (Ear.lang ⟨a7_ s,s.size,b8⟩) budget n w e w':=by
 obtain⟨W,a,p,-,-⟩:=ν w #[.slice none 0 0,.slice none 0 0] 41;have z:W.heap.size=w.heap.size+1:=by rw[a];simp
 have g:=aw_ a;have b:=ai8_ s b8 budget W hs hm ht hb0 hb1;go_enter func27,ntmps27;go_wp2_with fail;rw[<-a];clear a;refine b.mono ?_;rintro e F ⟨n,l⟩;obtain⟨c,m,h,d,o,i,r,rfl,y,j,k⟩:=l.wrap p o_;have f:=(j.block _ o_).trans g;have q:Hid _:=k w.heap.size o_ o_;obtain⟨C,D,A,B⟩:=β f;clear b l k j g;go_wp2_with fail;obtain⟨t,x,E⟩:=Φ (u:= .slice c m h) (v:= .slice d o i) f;refine bodyPost_ret (v:= .tuple #[.agg #[.slice c m h,.slice d o i],.int .i64 r]) (by simp[results,results27,go_sem,t,x]) rfl ?_;exact⟨n,q.out⟩
theorem ajb_ (s:ByteArray)(d b:Int)(w:World)(hss:s.size<=maxLen)(hne:hz_ s d b≠0):
 Calls prog 27 #[.string s,.int .i64 d,.int .i64 b] w fun e w'=>e= .returned (.tuple #[.agg #[.slice none 0 0,.slice none 0 0],.int .i64 (hz_ s d b)])/\Bl w w':=by
 obtain⟨W,a,j,-,-⟩:=ν w #[.slice none 0 0,.slice none 0 0] 41;have p:W.heap.size=w.heap.size+1:=by rw[a];simp
 have i:=aw_ a;have c:=ai9_ s d b W hss hne;obtain⟨m,g⟩:=δ (hz_ s d b);rw[g.out]at c ⊢;clear hne g;go_enter func27,ntmps27;go_wp2_with fail;rw[<-a];clear a;refine c.mono ?_;clear c;rintro e z ⟨rfl,f⟩;have h:=(f.block _ o_).trans i;have k:=η j f;have l:Hid _:=av_ k (b:=w.heap.size) o_ (.slice none 0 0) (.slice none 0 0);obtain⟨t,x,q,r⟩:=β h;clear f i;go_wp2_with fail;obtain⟨n,o,y⟩:=Φ (u:= .slice none 0 0) (v:= .slice none 0 0) h;refine bodyPost_ret (v:= .tuple #[.agg #[.slice none 0 0,.slice none 0 0],.int .i64 m]) (by simp[results,results27,go_sem,n,o]) rfl ?_;exact⟨rfl,l.out⟩
end Go.Proofs.YtpngikmcjkjdaaaGreatDoor
