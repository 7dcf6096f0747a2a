import Derived.Deep.RegionHeld3
import Derived.Test.YtpngikmcjkjdaaaGreatDoorA24
set_option linter.unusedVariables false
set_option linter.unusedSimpArgs false
set_option maxRecDepth 20000
set_option maxHeartbeats 80000000
namespace Go.Proofs.YtpngikmcjkjdaaaGreatDoor
open Go.RowKit Tryz List Nat
variable {x:List Value} {b base e g m n:Nat} {t:Nat->ByteArray} {v:Value} {w:World}
theorem ad_.give {ry:Value}{c:Nat->Cu}(h:ad_ w b ry t n (Ι c)){k:Nat}(hk:k<4)(s:ByteArray):
 ad_ ((w.setCell ⟨b,1+5*k+3,none⟩ (.bool true)).setCell ⟨b,1+5*k+4,none⟩ (.string s)) b ry t n (Ι (bk_ c k {c k with bg:=true,la:=s}))/\
 ε (fun j=>j=b) w ((w.setCell ⟨b,1+5*k+3,none⟩ (.bool true)).setCell ⟨b,1+5*k+4,none⟩ (.string s)):=by
 have d:ε (fun j=>j=b) w ((w.setCell ⟨b,1+5*k+3,none⟩ (.bool true)).setCell ⟨b,1+5*k+4,none⟩ (.string s)):=((ε.refl (fun j=>j=b) w).set ⟨b,1+5*k+3,none⟩ (.bool true) (.inl rfl)).set ⟨b,1+5*k+4,none⟩ (.string s) (.inl rfl);refine⟨⟨((World.rowIs.set h.1 (1+5*k+3) (.bool true)).set (1+5*k+4) (.string s)).congr (fun j hj=> ?_),ng_ h.2 h.1 d⟩,d⟩;unfold Ι bk_;by_cases a:j=0
 . simp only[a,show¬(0:Nat)=1+5*k+4 by omega,show¬(0:Nat)=1+5*k+3 by omega,if_false,if_true]
 . by_cases q:(j - 1)/5=k
   . simp only[a,q,if_false,if_true];rcases (show(j - 1)%5=0\/(j - 1)%5=1\/(j - 1)%5=2\/(j - 1)%5=3\/(j - 1)%5=4 by omega)with f|f|f|f|f
     . simp only[f,show¬j=1+5*k+4 by omega,show¬j=1+5*k+3 by omega,if_false,if_true]
     . simp only[f,show¬j=1+5*k+4 by omega,show¬j=1+5*k+3 by omega,if_false,if_true,show¬(1:Nat)=0 by omega]
     . simp only[f,show¬j=1+5*k+4 by omega,show¬j=1+5*k+3 by omega,if_false,if_true,show¬(2:Nat)=0 by omega,show¬(2:Nat)=1 by omega]
     . have e:j=1+5*k+3:=o_;simp only[f,if_pos e,show¬j=1+5*k+4 by omega,if_false,if_true,show¬(3:Nat)=0 by omega,show¬(3:Nat)=1 by omega,show¬(3:Nat)=2 by omega]
     . have e:j=1+5*k+4:=o_;simp only[f,if_pos e,if_false,show¬(4:Nat)=0 by omega,show¬(4:Nat)=1 by omega,show¬(4:Nat)=2 by omega,show¬(4:Nat)=3 by omega]
   . simp only[a,q,if_false,show¬j=1+5*k+4 by omega,show¬j=1+5*k+3 by omega]
theorem ahh_ {cap:Nat}{xs:List Value}(h:w.ownsRow base e 1 (.slice (some ⟨g,0,none⟩) n cap) n xs)(hm:m<=n):w.ownsRow base e 1 (.slice (some ⟨g,0,none⟩) m cap) m (xs.take m):=by
 obtain⟨b,c⟩:=h;refine⟨by rw[length_take,b];omega, ?_⟩;rcases c with ⟨e,_⟩|⟨o,l,a,e,d,i,p,f,k,j⟩
 . simp at e
 . injection e with e1 e2 e3;injection e1 with e1;injection e1 with e1 _ _;subst e1;subst e3;refine .inr ⟨g,cap,a,rfl,d,i,o_,f,k, ?_⟩;rw[<-j,take_take,Nat.mul_one,Nat.mul_one,Nat.min_eq_left hm]
theorem ahi_ (l:List ByteArray)(m:Nat):(Ζ l).take m=Ζ (l.take m):=by unfold Ζ;rw[map_take]
theorem ahj_ {i:Nat}(h:i<n):(hw_ t n)[i]? =some (.string (t i)):=by unfold hw_;simp[h]
theorem yj_ {b1 b2 s:Nat}(h:w.ownsRow b1 e s v n x)(hb:b2<=b1):w.ownsRow b2 e s v n x:=by
 refine⟨h.1, ?_⟩;rcases h.2 with h|⟨g,a,b,c,d,f⟩
 . exact .inl h
 . exact .inr ⟨g,a,b,c,Nat.le_trans hb d,f⟩
theorem ahk_ {f:Nat->Value}(ho:w.ownsRow base 9 1 v m x)(h:w.rowIs b 77 n f)(hg:v.ownBlock=some g):g≠b:=by
 rintro rfl;obtain⟨c,d,_⟩:=h;rcases ho.2 with ⟨rfl,_⟩|⟨j,e,i,rfl,_,a,_⟩
 . simp[Value.ownBlock]at hg
 . simp only[Value.ownBlock,Δ]at hg;subst hg;rw[d]at a;injection a with a;injection a with _ a;exact absurd a d_
theorem ahl_ (w:World)(b n m limit:Nat)(ry:Value)(t:Nat->ByteArray)(c:Nat->Cu)(V:ρ)(M:γ)(h:ad_ w b ry t n (Ι c))(hn:n<=60)(hm:m<4)(hop:(c m).op=true)(hl1:1<=limit)(hl:limit<=50)(htu:∀i,i<n->ch_ (t i)=true)
 (hA:(c m).vA= .slice (some ⟨V.ba,V.oa,none⟩) M.n V.ca) (hN:(c m).vN= .slice (some ⟨V.bn,V.on,none⟩) M.n V.cn) (hM:M.Ok) (hT:π w V M):
 Calls prog 53 #[.pointer (some ⟨b,0,none⟩),.int .i64 (m:Int),.int .i64 (limit:Int)] w fun e w'=>∃v,e= .returned (.tuple #[v,.bool (gp_ (c m) M t n limit),.int .i64 0])/\w'.ownsRow w.heap.size 9 1 v (de_ (c m) M t n limit).length (Ζ (de_ (c m) M t n limit))/\ad_ w' b ry t n (Ι (dp_ c m (de_ (c m) M t n limit)))/\ε (fun j=>j=b) w w':=by
 obtain⟨i0,aF,aK,aL,aM⟩:=info_parts mo_;have HO:=rs_ w b n ry t c m h;rw[n4_ c hm,hop]at HO;obtain⟨c0,c1,c2,c3,c4⟩:=h.cu hm;obtain⟨or,cr,aZ,aI⟩:=Β h.2;subst aZ;rw[hA]at c1;rw[hN]at c2;rw[hop]at c0;have HX:=α h;obtain⟨d,HD⟩:∃d,Hid (c m=d):=⟨_,by unfold Hid;rfl⟩;rw[HD.out]at c3 c4 ⊢;have q1:¬(limit:Int)<1:=o_;have q2:¬(50:Int)<(limit:Int):=o_;have aP:=α htu;have HT:=α hT;obtain⟨W,hW,S,aW,b0⟩:=ν w #[.bool true,.slice (some ⟨V.ba,V.oa,none⟩) M.n V.ca,.slice (some ⟨V.bn,V.on,none⟩) M.n V.cn,.bool d.bg,.string d.la] 74;have U:Hid (∀wj,Bl W wj->(wj.cell? ⟨w.heap.size,1,none⟩=some (.slice (some ⟨V.ba,V.oa,none⟩) M.n V.ca)/\wj.cell? ⟨w.heap.size,2,none⟩=some (.slice (some ⟨V.bn,V.on,none⟩) M.n V.cn)/\wj.cell? ⟨w.heap.size,3,none⟩=some (.bool d.bg)/\wj.cell? ⟨w.heap.size,4,none⟩=some (.string d.la))/\wj.cell? ⟨b,0,none⟩=some (.slice or n cr)):=fun wj A=>by
  have:=(A.block _ aW).trans b0;exact⟨by simp[World.cell?,this],(HX.out.below (S.trans (A.mono o_))).row⟩
 have aA:Hid (∀wj i,Bl W wj->i<n->∃g,or=some ⟨g,0,none⟩/\wj.cell? ⟨g,i,none⟩=some (.string (t i))):=fun wj i A hi=>by
  have hy:=HX.out.below (S.trans (A.mono o_));obtain⟨g,F,e2⟩:=aI o_;obtain⟨o2,a2,e3,e4⟩:=Β hy.2;injection e3 with e3 _ _;subst e3;obtain⟨g2,G,e6⟩:=e4 o_;rw[F]at G;injection G with G;injection G with G _ _;subst G;exact⟨g,F,(e6 i o_).trans (ahj_ hi)⟩
 clear hop htu hA hN hT h aI b0;obtain⟨K,E⟩:∃x,Hid (x=m):=⟨_,rfl⟩;obtain⟨R,aO⟩:∃x,Hid (x=4+5*m):=⟨_,rfl⟩;obtain⟨p4,az⟩:∃x,Hid (x=5+5*m):=⟨_,rfl⟩;rcases (show m=0\/m=1\/m=2\/m=3 by omega)with rfl|rfl|rfl|rfl
 all_goals
  go_enter func53,ntmps53;go_upto_region 7 with (go_at_call 93;refine HO.mono ?_;rintro e w1 ⟨rfl,a1⟩;obtain rfl:w=w1:=a1.symm);rw[<-hW];clear hW c0 c1 c2 c3 c4;go_wp2_with fail;go_loopw [11,12] (fun v i' wr=>∃i:Nat,i<=n/\i'= .int .i64 (i:Int)/\Bl W wr/\wr.ownsRow W.heap.size 9 1 v (Ω d M t i).length (Ζ (Ω d M t i))) (fun _ i' _=>n - (intOf i').toNat)
  case atStart=>exact⟨0,o_,rfl,μ,a8_⟩
  case round=>
   obtain⟨i,hi,rfl,A,P⟩:=hrel;obtain⟨oa,L,hv,ac⟩:=Β P;subst hv;have ay:=tr_ d M t i;obtain⟨⟨k1,k2,k3,k4⟩,k5⟩:=U.out wr A;have Y:=A.size;have T:=α A;have B:=α P;by_cases aw:i<n
   . obtain⟨g,rfl,cI⟩:=aA.out wr i A aw;have af:Hid (∀wj,Bl W wj->wj.cell? ⟨g,i,none⟩=some (.string (t i))):=fun wj hj=>by
      obtain⟨g',F,e2⟩:=aA.out wj i hj aw;injection F with F;injection F with F _ _;subst F;exact e2
     have q3:(i:Int)<(n:Int):=o_;have ah:=aP.out i aw;have aJ:dh_ (t i)/\(t i).size<=12:=by simp[ch_]at ah;exact⟨(jk_ _).1 ah.2,ah.1⟩
     have N:=aau_ V M (t i) wr.drew hM ((HT.out.below (S.trans (A.mono o_))).below (μ.drew)) aJ.1 o_;have D:Hid (∀a,Bl wr a->Bl W a):=fun a h2=>T.out.trans (h2.mono Y)
     clear A P ac ah aJ;cases hab:M.accepts (ar_ (t i))with
     |false=>
      rw[hab]at N;have am:Hid (Ω d M t (i+1)=Ω d M t i):=n5_ (by simp[ej_,hab]);clear hab;go_upto_region 11 with fail;go_region_held3 (fun w'=>(w'.cell? ⟨w.heap.size,1,none⟩=some (.slice (some ⟨V.ba,V.oa,none⟩) M.n V.ca)/\w'.cell? ⟨w.heap.size,2,none⟩=some (.slice (some ⟨V.bn,V.on,none⟩) M.n V.cn))/\w'.cell? ⟨b,0,none⟩=some (.slice (some ⟨g,0,none⟩) n cr)/\w'.cell? ⟨g,i,none⟩=some (.string (t i))) (go_keep)
       ((go_at_call 76;refine N.mono ?_;rintro e a ⟨rfl,l⟩;have f:Bl wr a:=⟨l.os,l.tape,l.output,l.size,l.block⟩;have C:=α f;obtain⟨⟨j1,j2,Q,j4⟩,j5⟩:=U.out a (D.out a f);have j6:=af.out a (D.out a f);clear f l))
      all_goals go_upto_region 12 with fail
      all_goals go_region
      all_goals go_wp2_with fail
      all_goals
       refine⟨⟨i+1,o_,by go_num,(T.out.trans (C.out.mono Y)).drew, ?_⟩,by simp[intOf];omega⟩;rw[am.out];exact ao_ (ao_ B.out C.out) (μ.drew)
     |true=>
      rw[hab]at N;cases hbg:d.bg with
      |false=>
       have ap:Hid (Ω d M t (i+1)=Ω d M t i++ [t i]):=mq_ (by simp[ej_,hab,hbg]);clear hab;have al:∀a,Bl wr a->(a.drew.alloc (.cells #[.string (t i)] 9)).ownsRow W.heap.size 9 1 (.slice oa (Ω d M t i).length L) (Ω d M t i).length (Ζ (Ω d M t i))/\wr.heap.size<=a.heap.size:=fun a f=>⟨(ao_ (ao_ B.out f) (μ.drew)).alloc _,f.size⟩
       have ao:Hid (∀y,(Value.slice oa (Ω d M t i).length L).ownBlock=some y->W.heap.size<=y):=fun y e=>(B.out.lt y e).1
       go_upto_region 11 with fail;go_region_held3 (fun w'=>(w'.cell? ⟨w.heap.size,1,none⟩=some (.slice (some ⟨V.ba,V.oa,none⟩) M.n V.ca)/\w'.cell? ⟨w.heap.size,2,none⟩=some (.slice (some ⟨V.bn,V.on,none⟩) M.n V.cn))/\w'.cell? ⟨b,0,none⟩=some (.slice (some ⟨g,0,none⟩) n cr)/\w'.cell? ⟨g,i,none⟩=some (.string (t i))) (go_keep)
        ((go_at_call 76;refine N.mono ?_;rintro e a ⟨rfl,l⟩;have f:Bl wr a:=⟨l.os,l.tape,l.output,l.size,l.block⟩;have C:=α f;obtain⟨⟨j1,j2,Q,j4⟩,j5⟩:=U.out a (D.out a f);have j6:=af.out a (D.out a f);obtain⟨ax,a0⟩:=al a f;rw[hbg]at Q;clear f l))
       all_goals go_upto_region 12 with fail
       all_goals go_region
       all_goals go_wp2_with (at_builtin;refine Υ underlying56 aF aK aL aM ax ?_;intro g' aR w3 ab aa au;have an:=α ab;have ak:=α aa;clear ab aa au)
       all_goals
        have ho:=an.out;rw[iu_]at ho;refine⟨⟨i+1,o_,by go_num,((T.out.trans (C.out.mono Y)).drew.alloc (by show W.heap.size<=a.heap.size;omega) _).grown ak.out s_ (fun y e=>ao.out y e), ?_⟩,by simp[intOf];omega⟩;rw[ap.out,Μ,ls_];exact ho
      |true=>
       cases hle:less d.la (t i)with
       |true=>
        have q4:(Op.bytesLess (t i).toList d.la.toList||(t i).toList==d.la.toList)=false:=by rw[qf_,hle];rfl
        have ap:Hid (Ω d M t (i+1)=Ω d M t i++ [t i]):=mq_ (by simp[ej_,hab,hbg,hle]);clear hab hle;have al:∀a,Bl wr a->(a.drew.alloc (.cells #[.string (t i)] 9)).ownsRow W.heap.size 9 1 (.slice oa (Ω d M t i).length L) (Ω d M t i).length (Ζ (Ω d M t i))/\wr.heap.size<=a.heap.size:=fun a f=>⟨(ao_ (ao_ B.out f) (μ.drew)).alloc _,f.size⟩
        have ao:Hid (∀y,(Value.slice oa (Ω d M t i).length L).ownBlock=some y->W.heap.size<=y):=fun y e=>(B.out.lt y e).1
        go_upto_region 11 with fail;go_region_held3 (fun w'=>(w'.cell? ⟨w.heap.size,1,none⟩=some (.slice (some ⟨V.ba,V.oa,none⟩) M.n V.ca)/\w'.cell? ⟨w.heap.size,2,none⟩=some (.slice (some ⟨V.bn,V.on,none⟩) M.n V.cn))/\w'.cell? ⟨b,0,none⟩=some (.slice (some ⟨g,0,none⟩) n cr)/\w'.cell? ⟨g,i,none⟩=some (.string (t i))) (go_keep)
         ((go_at_call 76;refine N.mono ?_;rintro e a ⟨rfl,l⟩;have f:Bl wr a:=⟨l.os,l.tape,l.output,l.size,l.block⟩;have C:=α f;obtain⟨⟨j1,j2,Q,j4⟩,j5⟩:=U.out a (D.out a f);have j6:=af.out a (D.out a f);obtain⟨ax,a0⟩:=al a f;rw[hbg]at Q;clear f l))
        all_goals go_upto_region 12 with fail
        all_goals go_region
        all_goals go_wp2_with (at_builtin;refine Υ underlying56 aF aK aL aM ax ?_;intro g' aR w3 ab aa au;have an:=α ab;have ak:=α aa;clear ab aa au)
        all_goals
         have ho:=an.out;rw[iu_]at ho;refine⟨⟨i+1,o_,by go_num,((T.out.trans (C.out.mono Y)).drew.alloc (by show W.heap.size<=a.heap.size;omega) _).grown ak.out s_ (fun y e=>ao.out y e), ?_⟩,by simp[intOf];omega⟩;rw[ap.out,Μ,ls_];exact ho
       |false=>
        have q4:(Op.bytesLess (t i).toList d.la.toList||(t i).toList==d.la.toList)=true:=by rw[qf_,hle];rfl
        have am:Hid (Ω d M t (i+1)=Ω d M t i):=n5_ (by simp[ej_,hab,hbg,hle]);clear hab hle;go_upto_region 11 with fail;go_region_held3 (fun w'=>(w'.cell? ⟨w.heap.size,1,none⟩=some (.slice (some ⟨V.ba,V.oa,none⟩) M.n V.ca)/\w'.cell? ⟨w.heap.size,2,none⟩=some (.slice (some ⟨V.bn,V.on,none⟩) M.n V.cn))/\w'.cell? ⟨b,0,none⟩=some (.slice (some ⟨g,0,none⟩) n cr)/\w'.cell? ⟨g,i,none⟩=some (.string (t i))) (go_keep)
         ((go_at_call 76;refine N.mono ?_;rintro e a ⟨rfl,l⟩;have f:Bl wr a:=⟨l.os,l.tape,l.output,l.size,l.block⟩;have C:=α f;obtain⟨⟨j1,j2,Q,j4⟩,j5⟩:=U.out a (D.out a f);have j6:=af.out a (D.out a f);rw[hbg]at Q;clear f l))
        all_goals go_upto_region 12 with fail
        all_goals go_region
        all_goals go_wp2_with fail
        all_goals
         refine⟨⟨i+1,o_,by go_num,(T.out.trans (C.out.mono Y)).drew, ?_⟩,by simp[intOf];omega⟩;rw[am.out];exact ao_ (ao_ B.out C.out) (μ.drew)
   . have e:i=n:=o_;subst e;have q3:¬(i:Int)<(i:Int):=o_;have H:=HX.out.below (S.trans (A.mono o_));have O:=α H;have ag:Hid (ε (fun j=>j=b) w wr):=gq_ (S.trans (A.mono o_));obtain⟨z,ae⟩:=δ (Ω d M t i);have ad:Hid (de_ d M t i limit=z.take limit):=by unfold Hid de_;rw[ae.out]
     have X:Hid (gp_ d M t i limit=decide (z.length<=limit)):=by unfold Hid gp_;rw[ae.out]
     rw[ae.out]at P ac ay B ⊢;clear ae A;by_cases h0:z.length=0
     . have eL:z=[]:=length_eq_zero_iff.1 h0;subst eL;have ai:Hid (dp_ c K []=c):=rfl;rw[E.out]at ai;clear h0 P ac;rcases B.out.2 with ⟨I,_⟩|⟨g,aQ,aT,I,_,_,aX,Z,_⟩
       . injection I with ev1 ev2 ev3;subst ev1;subst ev3;go_wp2_with fail;go_ret3
         rw[ad.out,X.out,take_nil,ai.out];exact⟨_,rfl,a8_,O.out,ag.out⟩
       . injection I with ev1 ev2 ev3;subst ev1;subst ev3;unfold maxLen at Z;simp only[length_nil]at*;go_wp2_with fail;go_ret3
         rw[ad.out,X.out,take_nil,ai.out];exact⟨_,rfl,yj_ B.out o_,O.out,ag.out⟩
     . obtain⟨g,rfl,aD⟩:=ac o_;have Z:z.length<=L/\L<=maxLen:=by
        rcases B.out.2 with ⟨I,_⟩|⟨g',aQ,aT,I,_,_,aX,Z,_⟩
        . simp at I
        . injection I with ev1 ev2 ev3;exact⟨o_,o_⟩
       unfold maxLen at Z;have aY:g≠b:=ahk_ B.out H.1 rfl;obtain⟨r,av⟩:∃r,min z.length limit=r+1:=⟨min z.length limit - 1,o_⟩;have aG:r<z.length:=o_;obtain⟨s,hs⟩:∃s,z[r]? =some s:=⟨z[r],ge_ aG⟩;have cl:wr.cell? ⟨g,r,none⟩=some (.string s):=(aD r o_).trans (strs_got? hs);have ar:(z.take limit).length=r+1:=by rw[length_take];omega
       have aH:(z.take limit).getLast? =some s:=by
        rw[getLast?_eq_getElem?,ar,Nat.add_sub_cancel,getElem?_take_of_lt o_];exact hs
       have HE:Hid (dp_ c K (z.take limit)=bk_ c K {c K with bg:=true,la:=s}):=by unfold Hid dp_;rw[aH]
       rw[E.out]at HE;have aC:=α ar;have aB:Hid (wr.ownsRow w.heap.size 9 1 (.slice (some ⟨g,0,none⟩) (r+1) L) (r+1) (Ζ (z.take limit))):=by
        have:=yj_ (ahh_ B.out (m:=r+1) o_) (b2:=w.heap.size) o_;rw[ahi_]at this;have G:z.take (r+1)=z.take limit:=by
         by_cases aE:z.length<=limit
         . rw[tk_ o_,tk_ aE]
         . rw[show r+1=limit by omega]
        rw[G]at this;exact this
       obtain⟨d0,d1,d2,d3,d4⟩:=H.cu (k:=K) (by have:=E.out;omega);rw[E.out]at d0 d1 d2 d3 d4;have f3:=World.rowIs.frozen H.1 R;have f4:=World.rowIs.frozen H.1 p4;have aS:=(is_ (w:=wr) (p:=⟨b,R,none⟩) (q:=⟨g,r,none⟩) (u:= .bool true) aY).trans cl;obtain⟨y4,aU⟩:∃y,(wr.setCell ⟨b,R,none⟩ (.bool true)).cell? ⟨b,p4,none⟩=some y:=⟨_,(World.rowIs.set H.1 R (.bool true)).cell (i:=p4) (by have:=az.out;omega)⟩;have aV:(wr.setCell ⟨b,R,none⟩ (.bool true)).frozen? ⟨b,p4,none⟩=false:=(World.rowIs.set H.1 R (.bool true)).frozen p4;simp only[aO.out,az.out,Nat.reduceMul,Nat.reduceAdd]at f3 f4 aS aU aV;have a4:IntKind.i64.wrap (r:Int)=(r:Int):=by rw[IntKind.wrap_i64];omega
       obtain⟨J,aN⟩:=δ (z.length);rw[aN.out]at av aG Z ay h0 X ⊢;have a3:J<=60:=o_;clear P ac aD hs aH ar H ay;by_cases aE:limit<J
       . have q5:(limit:Int)<(J:Int):=o_;have aq:limit=r+1:=o_;subst aq;have aj:Hid (decide (J<=r+1)=false):=by unfold Hid;simp;omega
         have q6:((r:Int)+1==(J:Int))=false:=s_;clear av;go_wp2_with fail;go_region
         all_goals go_wp2_with fail
         all_goals go_ret3
         all_goals
          have o:=O.out.give (k:=K) (by have:=E.out;omega) s;rw[E.out]at o;rw[ad.out,X.out,aC.out,HE.out];refine⟨_, ?_,ng_ aB.out O.out.1 ⟨o.2.os,o.2.tape,o.2.output,o.2.size,o.2.block⟩,o.1,gr_ ag.out ⟨o.2.os,o.2.tape,o.2.output,o.2.size,o.2.block⟩⟩;rw[aj.out];rfl
       . have q5:¬(limit:Int)<(J:Int):=o_;have aq:J=r+1:=o_;subst aq;have aj:Hid (decide (r+1<=limit)=true):=by unfold Hid;simp;omega
         clear av;go_wp2_with fail;go_region
         all_goals go_wp2_with fail
         all_goals go_ret3
         all_goals
          have o:=O.out.give (k:=K) (by have:=E.out;omega) s;rw[E.out]at o;rw[ad.out,X.out,aC.out,HE.out];refine⟨_, ?_,ng_ aB.out O.out.1 ⟨o.2.os,o.2.tape,o.2.output,o.2.size,o.2.block⟩,o.1,gr_ ag.out ⟨o.2.os,o.2.tape,o.2.output,o.2.size,o.2.block⟩⟩;rw[aj.out];rfl
end Go.Proofs.YtpngikmcjkjdaaaGreatDoor
