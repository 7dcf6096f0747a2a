import Derived.Test.YtpngikmcjkjdaaaGreatDoorC7
import Derived.Test.YtpngikmcjkjdaaaGreatDoorC9
set_option linter.unusedVariables false
set_option linter.unusedSimpArgs false
set_option maxRecDepth 20000
set_option maxHeartbeats 80000000
namespace Go.Proofs.YtpngikmcjkjdaaaGreatDoor
open Go.RowKit Tryz List Nat
variable {q s:ByteArray} {j k n p:Nat} {f:Nat->Bool} {t:Nat->ByteArray}
def ad_ (w:World)(b:Nat)(ry:Value)(t:Nat->ByteArray)(n:Nat)(cy:Nat->Value):Prop:=w.rowIs b 77 21 (fun i=>if i=0 then ry else cy (i - 1))/\w.ownsRow 0 9 1 ry n (hw_ t n)
section
variable {w w':World} {b n:Nat} {ry:Value} {t:Nat->ByteArray} {cy:Nat->Value}
theorem ad_.row (h:ad_ w b ry t n cy):w.cell? ⟨b,0,none⟩=some ry:=by
 have:=World.rowIs.cell h.1 (i:=0) o_;simpa using this
theorem ad_.frozen (h:ad_ w b ry t n cy):w.frozen? ⟨b,0,none⟩=false:=World.rowIs.frozen h.1 0
theorem ad_.below (h:ad_ w b ry t n cy)(hb:Bl w w'):ad_ w' b ry t n cy:=⟨World.rowIs.of_block h.1 (hb.block b (World.rowIs.lt h.1)),ao_ h.2 hb⟩
theorem ad_.shape (h:ad_ w b ry t n cy):∃a cap,ry= .slice a n cap/\(0<n->∃g,a=some ⟨g,0,none⟩/\∀i,i<n->w.cell? ⟨g,i,none⟩=some (.string (t i))):=by
 obtain⟨c,d,e,j⟩:=Β h.2;refine⟨c,d,e,fun h0=> ?_⟩;obtain⟨g,f,k⟩:=j h0;exact⟨g,f,fun i hi=>(k i o_).trans (agh_ t hi)⟩
end
open Classical in
noncomputable def g1_ (t:Nat->ByteArray)(n:Nat)(s:ByteArray):Bool:=decide (∃j,j<n/\t j=s)
open Classical in
theorem ph_ :g1_ t n s=true↔∃j,j<n/\t j=s:=by rw[g1_,decide_eq_true_iff]
theorem wy_ (h:∃j,j<n/\t j=s):g1_ t n s=true:=ph_.2 h
theorem wz_ (h:¬∃j,j<n/\t j=s):g1_ t n s=false:=by
 rw[Bool.eq_false_iff];exact fun h'=>h (ph_.1 h')
theorem d3_.dk (h:d3_ t n s p)(hs:d2_ t n):g1_ t n s=decide (p<n/\t p=s):=by
 by_cases e:p<n/\t p=s
 . rw[wy_ ((h.dF hs).2 e)];simp[e]
 . rw[wz_ (fun h'=>e ((h.dF hs).1 h'))];simp[e]
theorem pi_ (w:World)(b n:Nat)(ry:Value)(t:Nat->ByteArray)(cy:Nat->Value)(s:ByteArray)(h:ad_ w b ry t n cy)(hn:n<=60):
 Calls prog 84 #[.pointer (some ⟨b,0,none⟩),.string s] w fun e w'=>e= .returned (.bool (g1_ t n s))/\w'=w:=by
 have x:=h.row;obtain⟨a,z,rfl,c⟩:=h.shape;go_enter func84,ntmps84;go_wp2_with fail;go_loop [5] (fun v=>∃i:Nat,i<=n/\v= .int .i64 (i:Int)/\∀j,j<i->t j≠s) (fun v=>n - (intOf v).toNat)
 case atStart=>exact⟨0,o_,rfl,fun j l=>o_⟩
 case round=>
  obtain⟨i,A,rfl,o⟩:=hrel;have k:=α o;clear o;by_cases m:i<n
  . obtain⟨g,rfl,f⟩:=c o_;have y:=f i m;have r:(i:Int)<(n:Int):=o_;by_cases e:t i=s
    . have u:((t i).toList==s.toList)=true:=by rw[g3_];simp[e]
      have d:Hid (g1_ t n s=true):=wy_ ⟨i,m,e⟩;clear h c f e;go_wp2_with fail;go_ret;exact⟨b6_ d.out.symm,rfl⟩
    . have u:((t i).toList==s.toList)=false:=by rw[g3_];simp[e]
      clear h c f;go_wp2_with fail;go_round
      case rel=>exact⟨i+1,o_,by go_num,fun j l=>by
       by_cases p:j=i
       . subst p;exact e
       . exact k.out j o_⟩
      case measure=>exact c_
  . have e:i=n:=o_;have r:¬(i:Int)<(n:Int):=o_;have d:Hid (g1_ t n s=false):=wz_ (by rintro⟨j,l,q⟩;exact k.out j o_ q);clear h c;go_wp2_with fail;go_ret;exact⟨b6_ d.out.symm,rfl⟩
theorem afk_ (w:World)(b n:Nat)(ry:Value)(t:Nat->ByteArray)(cy:Nat->Value)(s:ByteArray)(p:Nat)(h:ad_ w b ry t n cy)(hn:n<=60)(hs:s.size<=maxLen)(hsr:d2_ t n)(hp:d3_ t n s p):
 Calls prog 47 #[.pointer (some ⟨b,0,none⟩),.string s] w fun e w'=>e= .returned (.tuple #[.bool (cu_ t n s p),.int .i64 (dx_ s)])/\w'=w:=by
 have f:=ko_ s 12 w hs o_;have g:=pi_ w b n ry t cy s h hn;rw[hp.dk hsr]at g;cases htu:ci_ s with
 |false=>
  rw[show(decide (s.size<=12)&&as_ s s.size)=false from htu]at f;have a:cu_ t n s p=false:=by simp[cu_,htu]
  have c:dx_ s=7:=by simp[dx_,htu]
  rw[a,c];clear h a c;go_enter func47,ntmps47;go_wp2_with (go_at_call 61;refine f.mono ?_;rintro e w' ⟨rfl,d⟩;obtain rfl:w=w':=d.symm);go_ret2;exact⟨rfl,rfl⟩
 |true=>
  rw[show(decide (s.size<=12)&&as_ s s.size)=true from htu]at f;have c:dx_ s=0:=by simp[dx_,htu]
  have a:cu_ t n s p=decide (p<n/\t p=s):=by simp only[cu_,htu,Bool.true_and]
  rw[a,c];generalize decide (p<n/\t p=s)=bb at*;clear h a c hp;go_enter func47,ntmps47;go_wp2_with (first
   |(go_at_call 61;refine f.mono ?_;rintro e w' ⟨rfl,d⟩;obtain rfl:w=w':=d.symm)
   |(go_at_call 84;refine g.mono ?_;rintro e w' ⟨rfl,d⟩;obtain rfl:w=w':=d.symm))
  go_ret2;exact⟨rfl,rfl⟩
theorem afl_ (t:Nat->ByteArray)(s:ByteArray)(h:j<p):ins t p s j=t j:=by unfold ins;rw[if_pos h]
theorem w0_ (t:Nat->ByteArray)(p:Nat)(s:ByteArray):ins t p s p=s:=by unfold ins;rw[if_neg o_,if_pos rfl]
theorem w1_ (t:Nat->ByteArray)(s:ByteArray)(h:p<=j):ins t p s (j+1)=t j:=by unfold ins;rw[if_neg o_,if_neg o_,Nat.add_sub_cancel]
theorem ad_.put {w w1:World}{b m:Nat}{ry v:Value}{u:Nat->ByteArray}{cy:Nat->Value}(h:ad_ w b ry t n cy)(hB:Bl w w1)(ho:w1.ownsRow w.heap.size 9 1 v m (hw_ u m)):
 ad_ (w1.setCell ⟨b,0,none⟩ v) b v u m cy/\ε (fun k=>k=b) w (w1.setCell ⟨b,0,none⟩ v)/\∀g,v.ownBlock=some g->w.heap.size<=g:=by
 have j:=World.rowIs.lt h.1;refine⟨⟨((h.below hB).1.set 0 v).congr (fun i hi=> ?_), ?_⟩, ?_,fun g e=>(ho.lt g e).1⟩
 . by_cases e:i=0
   . rw[if_pos e,if_pos e]
   . rw[if_neg e,if_neg e,if_neg e]
 . have a:(w1.setCell ⟨b,0,none⟩ v).ownsRow w.heap.size 9 1 v m (hw_ u m):=ownsRow_setCell_below ho j _;refine⟨a.1, ?_⟩;rcases a.2 with e|⟨g,c,d,f,_,r⟩
   . exact .inl e
   . exact .inr ⟨g,c,d,f,zero_le _,r⟩
 . have l:ε (fun k=>k=b) w w1:=⟨hB.os,hB.tape,hB.output,hB.size,fun k hk _=>hB.block k hk⟩;exact l.set ⟨b,0,none⟩ v (.inl rfl)
theorem afm_ (w:World)(b n:Nat)(ry:Value)(t:Nat->ByteArray)(cy:Nat->Value)(s:ByteArray)(p:Nat)(h:ad_ w b ry t n cy)(hn:n<=60)(hs:s.size<=maxLen)(hsr:d2_ t n)(hp:d3_ t n s p):
 Calls prog 43 #[.pointer (some ⟨b,0,none⟩),.string s] w fun e w'=>e= .returned (.tuple #[.bool (dw_ t n s p),.int .i64 (e6_ t n s p)])/\∃ry',ad_ w' b ry' (f5_ t n s p) (fx_ t n s p) cy/\ε (fun k=>k=b) w w'/\∀g,ry'.ownBlock=some g->ry.ownBlock=some g\/w.heap.size<=g:=by
 obtain⟨i0,M,N,O,P⟩:=info_parts mq_;have q:=ko_ s 12 w hs o_;have o:=pi_ w b n ry t cy s h hn;rw[hp.dk hsr]at o;have ar:=hp.le;cases htu:ci_ s with
 |false=>
  rw[show(decide (s.size<=12)&&as_ s s.size)=false from htu]at q;have r:dw_ t n s p=false:=by simp[dw_,htu]
  have u:e6_ t n s p=7:=by simp[e6_,htu]
  rw[f5_,fx_,r,u];have HF:=α h;clear h r u;go_enter func43,ntmps43;go_wp2_with (go_at_call 61;refine q.mono ?_;rintro e w' ⟨rfl,m⟩;obtain rfl:w=w':=m.symm);go_ret2;exact⟨rfl,_,HF.out,ε.refl _ _,fun g e=> .inl e⟩
 |true=>
  rw[show(decide (s.size<=12)&&as_ s s.size)=true from htu]at q;have A:=h.row;have f0:=h.frozen;have G:=α h;obtain⟨a,V,rfl,L⟩:=h.shape;by_cases z:p<n/\t p=s
  . rw[show decide (p<n/\t p=s)=true by simp[z]]at o;have r:dw_ t n s p=false:=by simp[dw_,z]
    have u:e6_ t n s p=0:=by simp[e6_,htu,z]
    rw[f5_,fx_,r,u];clear h r u hp z;go_enter func43,ntmps43;go_wp2_with (first
     |(go_at_call 61;refine q.mono ?_;rintro e w' ⟨rfl,m⟩;obtain rfl:w=w':=m.symm)
     |(go_at_call 84;refine o.mono ?_;rintro e w' ⟨rfl,m⟩;obtain rfl:w=w':=m.symm))
    go_ret2;exact⟨rfl,_,G.out,ε.refl _ _,fun g e=> .inl e⟩
  . rw[show decide (p<n/\t p=s)=false by simp[z]]at o;by_cases S:n<60
    . have r:dw_ t n s p=true:=by simp only[dw_,htu,z,S,decide_false,decide_true,Bool.not_false,Bool.and_self]
      have u:e6_ t n s p=0:=by simp only[e6_,htu,z,S,if_true,if_false]
      rw[f5_,fx_,r,u];have am:((n:Int)==60)=false:=s_;have aa:=α hp;have ag:=α hsr;have ah:=α z;clear h r u hp z hsr;go_enter func43,ntmps43;go_wp2_with (first
       |(go_at_call 61;refine q.mono ?_;rintro e w' ⟨rfl,m⟩;obtain rfl:w=w':=m.symm)
       |(go_at_call 84;refine o.mono ?_;rintro e w' ⟨rfl,m⟩;obtain rfl:w=w':=m.symm))
      go_loopw [8,9,10] (fun l' in' i' wr=>∃i:Nat,i<=n/\i'= .int .i64 (i:Int)/\in'= .bool (decide (p<i))/\Bl w wr/\wr.ownsRow w.heap.size 9 1 l' (if p<i then i+1 else i) (hw_ (ins t p s) (if p<i then i+1 else i))) (fun _ _ i' _=>n - (intOf i').toNat)
      case atStart=>exact⟨0,o_,rfl,i_,μ,a8_⟩
      case round=>
       obtain⟨i,hi,rfl,rfl,B,c⟩:=hrel;have aq:=B.size;have c1:wr.cell? ⟨b,0,none⟩=some (.slice a n V):=(bc_ B).1 b 0 (Χ A)|>.trans A
       have f1:wr.frozen? ⟨b,0,none⟩=false:=(bc_ B).2 b 0 (Χ A)|>.trans f0
       have J:=α B;by_cases T:i<n
       . obtain⟨g,rfl,K⟩:=L o_;have c2:wr.cell? ⟨g,i,none⟩=some (.string (t i)):=(bc_ B).1 g i (Χ (K i T))|>.trans (K i T)
         have q1:(i:Int)<(n:Int):=o_;by_cases W:i<p
         . have j:decide (p<i)=false:=s_;have q3:Op.bytesLess s.toList (t i).toList=false:=xi_ (aa.out.lo i W);rw[if_neg o_]at c;rw[j];have v:=c.alloc (.cells #[.string (t i)] 9);have F:Hid (∀x,(u8:Value).ownBlock=some x->w.heap.size<=x):=fun x e=>(c.lt x e).1
           clear c B G A f0 L K o q j;go_wp2_with (at_builtin;refine Υ underlying56 M N O P v ?_;intro R Q H f d l;have E:=α f;have D:=α d;have U:=α l;clear f d l v);go_roundw
           case rel=>
            have y:=E.out;rw[<-afl_ t s W,l4_]at y;refine⟨i+1,o_,by go_num,s_,(J.out.alloc o_ _).grown D.out s_ (fun x e=>F.out x e), ?_⟩;rw[if_neg o_];exact y
           case measure=>exact c_
         . by_cases aj:i=p
           . have j:decide (p<i)=false:=s_;have q3:Op.bytesLess s.toList (t i).toList=true:=aa.out.gt ag.out ah.out i o_ T;rw[if_neg o_]at c;rw[j];subst aj;have v:=c.alloc (.cells #[.string s] 9);have F:Hid (∀x,(u8:Value).ownBlock=some x->w.heap.size<=x):=fun x e=>(c.lt x e).1
             have I:=α A;have C2:Hid (w.cell? ⟨g,i,none⟩=some (.string (t i))):=K i T;clear c B G A f0 L K o q j W;go_wp2_with (first
              |(at_builtin;refine Υ underlying56 M N O P v ?_;intro R Q H f d l;have E:=α f;have D:=α d;have U:=α l;clear f d l v;have ab:=E.out.alloc (.cells #[.string (t i)] 9);have C:=(J.out.alloc o_ (.cells #[.string s] 9)).grown D.out s_ (fun x e=>F.out x e);have au:=C.size;have ai:H.cell? ⟨b,0,none⟩=some (.slice (some ⟨g,0,none⟩) n V):=((bc_ C).1 b 0 (Χ I.out)).trans I.out;have an:H.cell? ⟨g,i,none⟩=some (.string (t i)):=((bc_ C).1 g i (Χ C2.out)).trans C2.out;have ac:=α C;have af:Hid (∀x,(Value.slice (some ⟨R,0,none⟩) (i+1) Q).ownBlock=some x->w.heap.size<=x):=(fun x e=>(E.out.lt x e).1);clear C)
              |(at_builtin;refine Υ underlying56 M N O P ab ?_;intro gB ao av f d l;have ae:=α f;have ad:=α d;clear f d l ab))
             go_roundw
             case rel=>
              have y:=ae.out;rw[show(Value.string s)= .string (ins t i s i)by rw[w0_],l4_,<-w1_ t s (Nat.le_refl i),l4_]at y;refine⟨i+1,o_,by go_num,i_,(ac.out.alloc o_ _).grown ad.out s_ (fun x e=>af.out x e), ?_⟩;rw[if_pos o_];exact y
             case measure=>exact c_
           . have j:decide (p<i)=true:=s_;rw[if_pos o_]at c;rw[j];have v:=c.alloc (.cells #[.string (t i)] 9);have F:Hid (∀x,(u8:Value).ownBlock=some x->w.heap.size<=x):=fun x e=>(c.lt x e).1
             clear c B G A f0 L K o q j;go_wp2_with (at_builtin;refine Υ underlying56 M N O P v ?_;intro R Q H f d l;have E:=α f;have D:=α d;have U:=α l;clear f d l v);go_roundw
             case rel=>
              have y:=E.out;rw[<-w1_ t s (show p<=i by omega),l4_]at y;refine⟨i+1,o_,by go_num,s_,(J.out.alloc o_ _).grown D.out s_ (fun x e=>F.out x e), ?_⟩;rw[if_pos o_];exact y
             case measure=>exact c_
       . have e:i=n:=o_;have q1:¬(i:Int)<(n:Int):=o_;subst e;by_cases ak:p<i
         . have j:decide (p<i)=true:=s_;rw[if_pos ak]at c;rw[j];obtain⟨al,cl,rfl,_⟩:=Β c;have HO:=α c;clear c B L o q j A f0;go_wp2_with fail;go_ret2;obtain⟨X,Y,Z⟩:=G.out.put J.out HO.out;exact⟨rfl,_,X,Y,fun g e=> .inr (Z g e)⟩
         . have e:p=i:=o_;have j:decide (p<i)=false:=s_;rw[if_neg o_]at c;rw[j];subst e;have v:=c.alloc (.cells #[.string s] 9);have F:Hid (∀x,(u8:Value).ownBlock=some x->w.heap.size<=x):=fun x e=>(c.lt x e).1
           have I:=α A;have F0:=α f0;clear c B L o q j A f0;go_wp2_with (at_builtin;refine Υ underlying56 M N O P v ?_;intro R Q H f d l;have E:=α f;have D:=α d;have U:=α l;clear f d l v;have C:=(J.out.alloc o_ (.cells #[.string s] 9)).grown D.out s_ (fun x e=>F.out x e);have ai:H.cell? ⟨b,0,none⟩=some (.slice a p V):=((bc_ C).1 b 0 (Χ I.out)).trans I.out;have ap:H.frozen? ⟨b,0,none⟩=false:=((bc_ C).2 b 0 (Χ I.out)).trans F0.out;clear C);go_ret2;have y:=E.out;rw[show(Value.string s)= .string (ins t p s p)by rw[w0_],l4_]at y;obtain⟨X,Y,Z⟩:=G.out.put ((J.out.alloc o_ _).grown D.out s_ (fun x e=>F.out x e)) y;exact⟨rfl,_,X,Y,fun g e=> .inr (Z g e)⟩
    . have r:dw_ t n s p=false:=by simp[dw_,S]
      have u:e6_ t n s p=9:=by simp only[e6_,htu,z,S,if_true,if_false]
      rw[f5_,fx_,r,u];have am:((n:Int)==60)=true:=s_;clear h r u hp z;go_enter func43,ntmps43;go_wp2_with (first
       |(go_at_call 61;refine q.mono ?_;rintro e w' ⟨rfl,m⟩;obtain rfl:w=w':=m.symm)
       |(go_at_call 84;refine o.mono ?_;rintro e w' ⟨rfl,m⟩;obtain rfl:w=w':=m.symm))
      go_ret2;exact⟨rfl,_,G.out,ε.refl _ _,fun g e=> .inl e⟩
structure nh_ (t:Nat->ByteArray)(n:Nat)(s:ByteArray)(u:Nat->ByteArray)(K:Nat->Nat):Prop where
 zero:K 0=0
 step:∀i,i<n->(t i=s/\K (i+1)=K i)\/(t i≠s/\K (i+1)=K i+1/\u (K i)=t i)
theorem nh_.le {t:Nat->ByteArray}{n:Nat}{s:ByteArray}{u:Nat->ByteArray}{K:Nat->Nat}(h:nh_ t n s u K):∀i,i<=n->K i<=i
 |0,_=>by rw[h.zero];omega
 |i+1,hi=>by
  have:=h.le i o_;rcases h.step i o_ with ⟨_,e⟩|⟨_,e,_⟩<;>omega
theorem afn_ (h:∀j,j<n->t j≠s):nh_ t n s t (fun i=>i):=⟨rfl,fun i hi=> .inr ⟨h i hi,rfl,rfl⟩⟩
theorem afo_ (hs:d2_ t n)(hp:p<n)(e:t p=s):nh_ t n s (del t p) (fun i=>if p<i then i - 1 else i):=by
 refine⟨i_,fun i hi=> ?_⟩;by_cases a:i<p
 . refine .inr ⟨fun e'=>r2_ (hs i p a hp) (by rw[e',e]), ?_, ?_⟩
   . simp only[if_neg (show¬p<i+1 by omega),if_neg (show¬p<i by omega)]
   . simp only[if_neg (show¬p<i by omega),del,if_pos a]
 . by_cases b:i=p
   . subst b;exact .inl ⟨e,i_⟩
   . refine .inr ⟨fun e'=>r2_ (hs p i o_ hi) (by rw[e',e]), ?_, ?_⟩
     . simp only[if_pos (show p<i+1 by omega),if_pos (show p<i by omega)];omega
     . simp only[if_pos (show p<i by omega),del,if_neg (show¬i - 1<p by omega)];congr 1;omega
theorem w2_ (w:World)(b n:Nat)(ry:Value)(t:Nat->ByteArray)(cy:Nat->Value)(s:ByteArray)(u:Nat->ByteArray)(K:Nat->Nat)(h:ad_ w b ry t n cy)(hn:n<=60)(hs:s.size<=maxLen)(htu:ci_ s=true)(hL:nh_ t n s u K):
 Calls prog 45 #[.pointer (some ⟨b,0,none⟩),.string s] w fun e w'=>e= .returned (.tuple #[.bool (g1_ t n s),.int .i64 0])/\∃ry',ad_ w' b ry' u (K n) cy/\ε (fun k=>k=b) w w'/\∀g,ry'.ownBlock=some g->w.heap.size<=g:=by
 obtain⟨i0,Q,R,S,T⟩:=info_parts mq_;have l:=ko_ s 12 w hs o_;have j:=pi_ w b n ry t cy s h hn;rw[show(decide (s.size<=12)&&as_ s s.size)=true from htu]at l;obtain⟨bb,H⟩:=δ (g1_ t n s);rw[H.out]at j ⊢;have f:=h.row;have f0:=h.frozen;have v:=α h;obtain⟨a,N,rfl,p⟩:=h.shape;have y:=α hL;clear h hL;go_enter func45,ntmps45;go_wp2_with (first
  |(go_at_call 61;refine l.mono ?_;rintro e w' ⟨rfl,B⟩;obtain rfl:w=w':=B.symm)
  |(go_at_call 84;refine j.mono ?_;rintro e w' ⟨rfl,B⟩;obtain rfl:w=w':=B.symm))
 go_loopw [8,9] (fun l' i' wr=>∃i:Nat,i<=n/\i'= .int .i64 (i:Int)/\Bl w wr/\wr.ownsRow w.heap.size 9 1 l' (K i) (hw_ u (K i))) (fun _ i' _=>n - (intOf i').toNat)
 case atStart=>exact⟨0,o_,rfl,μ,by rw[y.out.zero];exact a8_⟩
 case round=>
  obtain⟨i,P,rfl,c,d⟩:=hrel;have ac:=c.size;have ab:=y.out.le i P;have c1:wr.cell? ⟨b,0,none⟩=some (.slice a n N):=(bc_ c).1 b 0 (Χ f)|>.trans f
  have f1:wr.frozen? ⟨b,0,none⟩=false:=(bc_ c).2 b 0 (Χ f)|>.trans f0
  have q:=α c;by_cases A:i<n
  . obtain⟨g,rfl,o⟩:=p o_;have c2:wr.cell? ⟨g,i,none⟩=some (.string (t i)):=(bc_ c).1 g i (Χ (o i A))|>.trans (o i A)
    have U:(i:Int)<(n:Int):=o_;rcases y.out.step i A with ⟨e,m⟩|⟨e,m,C⟩
    . have V:((t i).toList==s.toList)=true:=by rw[g3_];simp[e]
      have z:=α d;have r:=α m;clear d c v f f0 p o j l e m;go_wp2_with fail;go_roundw
      case rel=>exact⟨i+1,o_,by go_num,q.out,by rw[r.out];exact z.out⟩
      case measure=>exact c_
    . have V:((t i).toList==s.toList)=false:=by rw[g3_];simp[e]
      have E:=d.alloc (.cells #[.string (t i)] 9);have M:Hid (∀x,(u8:Value).ownBlock=some x->w.heap.size<=x):=fun x e=>(d.lt x e).1
      have r:=α m;have I:=α C;clear d c v f f0 p o j l e m C;go_wp2_with (at_builtin;refine Υ underlying56 Q R S T E ?_;intro gA aa ad G D O;have L:=α G;have J:=α D;clear G D O E);go_roundw
      case rel=>
       have F:=L.out;rw[<-I.out,l4_]at F;refine⟨i+1,o_,by go_num,(q.out.alloc o_ _).grown J.out s_ (fun x e=>M.out x e), ?_⟩;rw[r.out];exact F
      case measure=>exact c_
  . have e:i=n:=o_;have U:¬(i:Int)<(n:Int):=o_;subst e;obtain⟨Z,cl,rfl,_⟩:=Β d;have z:=α d;clear d c p j l f f0;go_wp2_with fail;go_ret2;obtain⟨W,X,Y⟩:=v.out.put q.out z.out;exact⟨rfl,_,W,X,Y⟩
theorem afp_ (w:World)(b n:Nat)(ry:Value)(t:Nat->ByteArray)(cy:Nat->Value)(s:ByteArray)(p:Nat)(h:ad_ w b ry t n cy)(hn:n<=60)(hs:s.size<=maxLen)(hsr:d2_ t n)(hp:d3_ t n s p):
 Calls prog 45 #[.pointer (some ⟨b,0,none⟩),.string s] w fun e w'=>e= .returned (.tuple #[.bool (cu_ t n s p),.int .i64 (dx_ s)])/\∃ry',ad_ w' b ry' (hr_ t n s p) (hd_ t n s p) cy/\ε (fun k=>k=b) w w'/\∀g,ry'.ownBlock=some g->ry.ownBlock=some g\/w.heap.size<=g:=by
 cases htu:ci_ s with
 |false=>
  have o:=ko_ s 12 w hs o_;rw[show(decide (s.size<=12)&&as_ s s.size)=false from htu]at o;have c:cu_ t n s p=false:=by simp[cu_,htu]
  have d:dx_ s=7:=by simp[dx_,htu]
  rw[hr_,hd_,c,d];have q:=α h;clear h c d;go_enter func45,ntmps45;go_wp2_with (go_at_call 61;refine o.mono ?_;rintro e w' ⟨rfl,r⟩;obtain rfl:w=w':=r.symm);go_ret2;exact⟨rfl,_,q.out,ε.refl _ _,fun g e=> .inl e⟩
 |true=>
  have d:dx_ s=0:=by simp[dx_,htu]
  have c:cu_ t n s p=decide (p<n/\t p=s):=by simp only[cu_,htu,Bool.true_and]
  rw[hr_,hd_,c,d,<-hp.dk hsr];by_cases a:p<n/\t p=s
  . have i:g1_ t n s=true:=by rw[hp.dk hsr];simp[a]
    refine(w2_ w b n ry t cy s _ _ h hn hs htu (afo_ hsr a.1 a.2)).mono ?_;rintro e w' ⟨rfl,ry',f,l,m⟩;refine⟨rfl,ry', ?_,l,fun g e=> .inr (m g e)⟩;simp only[if_pos a.1]at f;simp only[i,if_true];exact f
  . have i:g1_ t n s=false:=by rw[hp.dk hsr];simp[a]
    refine(w2_ w b n ry t cy s _ _ h hn hs htu (afn_ (fun j hj e=>a ((hp.dF hsr).1 ⟨j,hj,e⟩)))).mono ?_;rintro e w' ⟨rfl,ry',f,l,m⟩;refine⟨rfl,ry', ?_,l,fun g e=> .inr (m g e)⟩;simp only[i,ft_,if_false];exact f
def lw_ (t:ByteArray)(m:Nat):Nat:=((ω t).getD m 0).toNat - 97
def iq_ (t q:ByteArray)(c:Nat):Prop:=q.size<t.size/\t.extract 0 q.size=q/\lw_ t q.size=c
def Cnt (f:Nat->Bool)(k:Nat):Prop:=(k=0/\∀c,f c=false)\/(k=1/\∃d,∀c,f c=true↔c=d)\/(2<=k/\∃c d,c≠d/\f c=true/\f d=true)
theorem Cnt.add {c:Nat}(h:Cnt f k)(hc:f c=false):Cnt (fun x=>if x=c then true else f x) (k+1):=by
 rcases h with ⟨rfl,h⟩|⟨rfl,d,h⟩|⟨l,a,b,g,i,j⟩
 . refine .inr (.inl ⟨rfl,c,fun x=> ?_⟩);by_cases e:x=c<;>simp[e,h]
 . refine .inr (.inr ⟨o_,c,d, ?_,i_, ?_⟩)
   . rintro rfl;rw[(h c).2 rfl]at hc;cases hc
   . have:f d=true:=(h d).2 rfl;by_cases e:d=c<;>simp[e,this]
 . refine .inr (.inr ⟨o_,a,b,g, ?_, ?_⟩)
   . by_cases e:a=c<;>simp[e,i]
   . by_cases e:b=c<;>simp[e,j]
theorem Cnt.two (h:Cnt f k):2<=k↔∃c d,c≠d/\f c=true/\f d=true:=by
 constructor
 . intro j;rcases h with ⟨rfl,h⟩|⟨rfl,d,h⟩|⟨_,h⟩
   . omega
   . omega
   . exact h
 . rintro⟨a,b,g,e,i⟩;rcases h with ⟨rfl,h⟩|⟨rfl,d,h⟩|⟨h,_⟩
   . rw[h a]at e;cases e
   . exact absurd (((h a).1 e).trans ((h b).1 i).symm) g
   . exact h
theorem afq_ (htx:∀j,j<n->dh_ (t j))(hf:∀c,f c=true↔∃j,j<n/\iq_ (t j) q c):
 (∃c d,c≠d/\f c=true/\f d=true)↔nl_ (fun j=>ω (t j)) n (ω q):=by
 have y:∀j,j<n->∀c,iq_ (t j) q c->(ω q).length<(ω (t j)).length/\(ω (t j)).take (ω q).length=ω q:=by
  intro j a c ⟨b,h,v⟩;refine⟨by rw[eq_,eq_];exact b, ?_⟩;rw[eq_,<-ji_,h]
 have w:∀j,j<n->(ω q).length<(ω (t j)).length->(ω (t j)).take (ω q).length=ω q->iq_ (t j) q (lw_ (t j) q.size):=by
  intro j a b h;refine⟨by rw[eq_,eq_]at b;exact b,hv_ ?_,rfl⟩;rw[ji_,<-eq_ q,h]
 have x:∀j,j<n->(ω q).length<(ω (t j)).length->97<=((ω (t j)).getD (ω q).length 0).toNat:=by
  intro j a b;rw[gd_,ge_ b];exact(htx j a _ (getElem_mem b)).1
 constructor
 . rintro⟨c,d,b,h,v⟩;obtain⟨j,a,s⟩:=(hf c).1 h;obtain⟨k,g,u⟩:=(hf d).1 v;obtain⟨i,p⟩:=y j a c s;obtain⟨l,r⟩:=y k g d u;refine⟨j,k,a,g,i,l,p,r,fun e=>b ?_⟩;have m:=s.2.2;have o:=u.2.2;unfold lw_ at m o;rw[<-eq_]at m o;rw[<-m,<-o,e]
 . rintro⟨j,k,a,g,i,l,p,r,z⟩;refine⟨_,_,fun e=>z ?_,(hf _).2 ⟨j,a,w j a i p⟩,(hf _).2 ⟨k,g,w k g l r⟩⟩;have A:=x j a i;have B:=x k g l;unfold lw_ at e;rw[<-eq_]at e;show(ω (t j)).getD (ω q).length 0=(ω (t k)).getD (ω q).length 0
   exact UInt8.toNat_inj.1 o_
def ly_ (t:Nat->ByteArray)(n:Nat)(q:ByteArray):Prop:=(∃j,j<n/\t j=q)\/q=ByteArray.empty\/nl_ (fun j=>ω (t j)) n (ω q)
open Classical in
noncomputable def ie_ (t:Nat->ByteArray)(n:Nat)(q:ByteArray):Bool:=decide (ly_ t n q)
open Classical in
theorem k6_ :ie_ t n q=true↔ly_ t n q:=by rw[ie_,decide_eq_true_iff]
theorem afr_ (w:World)(b n:Nat)(ry:Value)(t:Nat->ByteArray)(cy:Nat->Value)(q:ByteArray)(h:ad_ w b ry t n cy)(hn:n<=60)(htu:∀j,j<n->ci_ (t j)=true)(hq:q.size<=12):
 Calls prog 89 #[.pointer (some ⟨b,0,none⟩),.string q] w fun e w'=>e= .returned (.bool (ie_ t n q))/\Bl w w':=by
 have m:=pi_ w b n ry t cy q h hn;have y:=h.row;obtain⟨a,ac,rfl,u⟩:=h.shape;have M:∀j,j<n->(t j).size<=12:=fun j E=>by have:=htu j E;simp[ci_]at this;exact this.1
 have I:∀j,j<n->dh_ (t j):=fun j E=>by have:=htu j E;simp[ci_]at this;exact(jg_ _).1 this.2
 by_cases s:q=ByteArray.empty
 . have F:ie_ t n q=true:=k6_.2 (.inr (.inl s));rw[F];have q1:q.toList.isEmpty=true:=by rw[s,ByteArray.toList_eq];rfl
   obtain⟨bb,T⟩:=δ (g1_ t n q);rw[T.out]at m;clear h u s F M I htu T;go_enter func89,ntmps89;go_wp2_with (go_at_call 84;refine m.mono ?_;rintro e w' ⟨rfl,J⟩;obtain rfl:w=w':=J.symm);go_ret;exact⟨rfl,μ⟩
 . have q1:q.toList.isEmpty=false:=by
    rw[Bool.eq_false_iff,ne_eq,isEmpty_iff,ByteArray.toList_eq];exact fun e=>s (hv_ e)
   cases hhb:g1_ t n q with
   |true=>
    rw[hhb]at m;have F:ie_ t n q=true:=k6_.2 (.inl (ph_.1 hhb));rw[F];clear h u s F M I htu hhb;go_enter func89,ntmps89;go_wp2_with (go_at_call 84;refine m.mono ?_;rintro e w' ⟨rfl,J⟩;obtain rfl:w=w':=J.symm);go_ret;exact⟨rfl,μ⟩
   |false=>
    rw[hhb]at m;have V:Hid (ie_ t n q=true↔nl_ (fun j=>ω (t j)) n (ω q)):=by
     unfold Hid;rw[k6_,ly_];constructor
     . rintro(l|l|l)
       . rw[ph_.2 l]at hhb;cases hhb
       . exact absurd l s
       . exact l
     . exact fun l=> .inr (.inr l)
    obtain⟨kb,W⟩:=δ (ie_ t n q);rw[W.out]at V ⊢;have C:=fun f L=>afq_ (q:=q) I (f:=f) L
    have ab:=α I;have ae:=α M;clear h s M I htu hhb W;go_enter func89,ntmps89;go_wp2_with (go_at_call 84;refine m.mono ?_;rintro e w' ⟨rfl,J⟩;obtain rfl:w=w':=J.symm);go_loopw [7,8] (fun k' i' wr=>∃(i k:Nat) (f:Nat->Bool),i<=n/\k<=i/\k'= .int .i64 (k:Int)/\i'= .int .i64 (i:Int)/\Bl w wr/\wr.rowIs w.heap.size 128 8 (fun c=> .bool (f c))/\Cnt f k/\∀c,f c=true↔∃j,j<i/\iq_ (t j) q c) (fun _ i' _=>n - (intOf i').toNat)
    case atStart=>
     refine⟨0,0,fun _=>false,o_,o_,rfl,rfl,μ.alloc ι _,⟨_,ο rfl,rfl,fun i hi=> ?_⟩,.inl ⟨rfl,fun _=>rfl⟩,fun c=>i_⟩;rcases (show i=0\/i=1\/i=2\/i=3\/i=4\/i=5\/i=6\/i=7 by omega)with rfl|rfl|rfl|rfl|rfl|rfl|rfl|rfl<;>rfl
    case round=>
     obtain⟨i,k,f,hi,ag,rfl,rfl,r,H,X,L⟩:=hrel;have c1:wr.cell? ⟨b,0,none⟩=some (.slice a n ac):=(bc_ r).1 b 0 (Χ y)|>.trans y
     have A:=α r;have v:=α H;have B:=α X;have U:=α L;clear X L;by_cases S:i<n
     . obtain⟨g,rfl,D⟩:=u o_;have c2:wr.cell? ⟨g,i,none⟩=some (.string (t i)):=(bc_ r).1 g i (Χ (D i S))|>.trans (D i S)
       have qi:(i:Int)<(n:Int):=o_;have K:Hid (∀(f2:Nat->Bool),(∀c,f2 c=true↔f c=true\/iq_ (t i) q c)->∀c,f2 c=true↔∃j,j<i+1/\iq_ (t j) q c):=by
        intro f2 o c;rw[o,U.out];constructor
        . rintro(⟨j,E,l⟩|l)
          . exact⟨j,o_,l⟩
          . exact⟨i,o_,l⟩
        . rintro⟨j,E,l⟩;by_cases e:j=i
          . subst e;exact .inr l
          . exact .inl ⟨j,o_,l⟩
       by_cases G:q.size<(t i).size
       . have q2:(q.size:Int)<((t i).size:Int):=o_;by_cases z:(t i).extract 0 q.size=q
         . have q3:(((t i).extract 0 q.size).toList==q.toList)=true:=by rw[g3_];simp[z]
           have ad:=ab.out i S (t i)[q.size] (by
            rw[<-l0_ (t i) q.size G,gd_,ge_ (by rw[Array.length_toList];exact G)];exact getElem_mem _)
           obtain⟨c,O⟩:=δ (lw_ (t i) q.size);have R:(t i)[q.size].toNat=c+97/\c<8:=by
            have:=O.out;unfold lw_ at this;rw[tt_ (t i) q.size G]at this;omega
           have ah:IntKind.u8.wrap (((t i)[q.size].toNat:Int)- 97)=(c:Int):=by rw[R.1,IntKind.wrap_u8];omega
           have c3:=v.out.cell R.2;have f3:=v.out.frozen c;have af:(c:Int)<8:=o_;have Z:iq_ (t i) q c:=⟨G,z,O.out⟩;have P:Hid (∀d,iq_ (t i) q d↔d=c):=fun d=>⟨fun l=>l.2.2.symm.trans O.out,fun e=>by rw[e];exact Z⟩
           obtain⟨bf,N⟩:=δ (f c);rw[N.out]at c3;clear R Z ad z D u y r H m C;cases bf
           . go_wp2_with fail;go_roundw
             case rel=>exact⟨i+1,k+1,fun x=>if x=c then true else f x,o_,o_,by go_num,by go_num,A.out.setCell (p:=⟨w.heap.size,c,none⟩) ι _,(v.out.set c (.bool true)).congr (fun j _=>by by_cases e:j=c<;>simp[e]),B.out.add N.out,K.out _ (fun d=>by
              by_cases e:d=c
              . simp[e,P.out]
              . simp[e,P.out])⟩
             case measure=>exact c_
           . go_wp2_with fail;go_roundw
             case rel=>exact⟨i+1,k,f,o_,o_,rfl,by go_num,A.out,v.out,B.out,K.out f (fun d=>by
              constructor
              . exact fun l=> .inl l
              . rintro(l|l)
                . exact l
                . rw[(P.out d).1 l];exact N.out)⟩
             case measure=>exact c_
         . have q3:(((t i).extract 0 q.size).toList==q.toList)=false:=by rw[g3_];simp[z]
           have Q:Hid (∀d,¬iq_ (t i) q d):=fun d l=>z l.2.1
           clear z D u y r H m C;go_wp2_with fail;go_roundw
           case rel=>exact⟨i+1,k,f,o_,o_,rfl,by go_num,A.out,v.out,B.out,K.out f (fun d=>⟨fun l=> .inl l,fun l=>l.elim id (fun o=>absurd o (Q.out d))⟩)⟩
           case measure=>exact c_
       . have q2:¬(q.size:Int)<((t i).size:Int):=o_;have Q:Hid (∀d,¬iq_ (t i) q d):=fun d l=>G l.1
         clear D u y r H m C;go_wp2_with fail;go_roundw
         case rel=>exact⟨i+1,k,f,o_,o_,rfl,by go_num,A.out,v.out,B.out,K.out f (fun d=>⟨fun l=> .inl l,fun l=>l.elim id (fun o=>absurd o (Q.out d))⟩)⟩
         case measure=>exact c_
     . have e:i=n:=o_;have qi:¬(i:Int)<(n:Int):=o_;subst e;have Y:kb=decide ((2:Int)<=(k:Int)):=by
        have h1:=B.out.two.trans (C f U.out);have o:=V.out;rw[<-h1]at o;cases kb with
        |true=>have:=o.1 rfl;simp;omega
        |false=>
         symm
         rw[decide_eq_false_iff_not];intro l;have:=o.2 o_;cases this
       have aa:=α Y;clear Y u y r H m C;go_wp2_with fail;go_ret;exact⟨b6_ aa.out.symm,A.out⟩
theorem afs_ (w:World)(b n:Nat)(ry:Value)(t:Nat->ByteArray)(cy:Nat->Value)(h:ad_ w b ry t n cy)(hn:n<=60)(htu:∀j,j<n->ci_ (t j)=true)(hsr:d2_ t n):
 Calls prog 50 #[.pointer (some ⟨b,0,none⟩)] w fun e w'=>Bl w w'/\∃v,e= .returned v/\w'.ownsRow w.heap.size 9 1 v (am_ t n n).length (Ζ (am_ t n n)):=by
 obtain⟨i0,ag,ah,ai,aj⟩:=info_parts mq_;have U:∀j,j<n->(t j).size<=12:=fun j l=>by have:=htu j l;simp[ci_]at this;exact this.1
 have Y:=h.row;have R:=α h;obtain⟨a,ae,rfl,aa⟩:=h.shape;have an:=α hsr;have ao:=α htu;clear hsr htu;go_enter func50,ntmps50;go_wp2_with fail;go_loopw [3,4,5] (fun v l' a' wr=>∃i:Nat,i<=n/\a'= .int .i64 (i:Int)/\l'= .string (if i=0 then ByteArray.empty else t (i - 1))/\Bl w wr/\wr.ownsRow w.heap.size 9 1 v (am_ t n i).length (Ζ (am_ t n i))) (fun _ _ a' _=>n - (intOf a').toNat)
 case atStart=>exact⟨0,o_,rfl,rfl,μ.alloc ι _,by simp[am_,Ζ],.inr ⟨_,_,_,rfl,ι,ο rfl,by simp[am_],u_,i_,by simp[am_,Ζ];rfl⟩⟩
 case round=>
  obtain⟨i,hi,rfl,rfl,y,z⟩:=hrel;have c1:wr.cell? ⟨b,0,none⟩=some (.slice a n ae):=(bc_ y).1 b 0 (Χ Y)|>.trans Y
  have P:=α y;obtain⟨B,W⟩:∃x,Hid (x=if i=0 then ByteArray.empty else t (i - 1)):=⟨_,rfl⟩;rw[<-W.out];by_cases S:i<n
  . obtain⟨g,rfl,hc⟩:=aa o_;have c2:wr.cell? ⟨g,i,none⟩=some (.string (t i)):=(bc_ y).1 g i (Χ (hc i S))|>.trans (hc i S)
    have q1:(i:Int)<(n:Int):=o_;have z0:=U i S;have av:B.size<=12:=by
     rw[W.out];split
     . simp
     . exact U (i - 1) o_
    have I:=α z;have al:=α U;clear y z hc aa U Y h;go_wp2_with fail;go_loopw [3,7] (fun v l' wi=>∃m:Nat,m<=(t i).size/\l'= .int .i64 ((m:Int)+1)/\Bl w wi/\wi.ownsRow w.heap.size 9 1 v (am_ t n i++kin t n i m).length (Ζ (am_ t n i++kin t n i m))) (fun _ l' _=>20 - (intOf l').toNat)
    case atStart=>
     refine⟨0,o_,rfl,P.out, ?_⟩;rw[kin,append_nil];exact I.out
    case round=>
     obtain⟨m,hm,rfl,y,z⟩:=hrel;rename World=>wi
     have ar:(am_ t n i++kin t n i m).length<=1000:=by
      have a1:=pr_ t n al.out i o_;have a2:=pq_ t n i m;rw[Μ];omega
     have ab:=α y;have ac:=α z;by_cases au:m<(t i).size
     . have q2:(m:Int)+1<=((t i).size:Int):=o_;have af:((t i).extract 0 (m+1)).size<=12:=by rw[<-eq_,ji_,length_take,eq_];omega
       have C:∀p,(∃q,p=wi.drewN q)->(Calls prog 89 #[.pointer (some ⟨b,0,none⟩),.string ((t i).extract 0 (m+1))] p fun e w'=>e= .returned (.bool (ie_ t n ((t i).extract 0 (m+1))))/\Bl p w')/\(∀d,Bl p d->(d.alloc (.cells #[.string ((t i).extract 0 (m+1))] 9)).ownsRow w.heap.size 9 1 u3 (am_ t n i++kin t n i m).length (Ζ (am_ t n i++kin t n i m))/\Bl w d/\w.heap.size<=d.heap.size)/\p.ownsRow w.heap.size 9 1 u3 (am_ t n i++kin t n i m).length (Ζ (am_ t n i++kin t n i m)):=by
        rintro p ⟨q,rfl⟩;have Z:=below_drewN ab.out q;have s:=ao_ ac.out (below_drewN μ q);refine⟨afr_ _ b n (.slice (some ⟨g,0,none⟩) n ae) t cy ((t i).extract 0 (m+1)) (R.out.below Z) hn ao.out af,fun d h2=> ?_,s⟩;have c:=Z.trans (h2.mono Z.size);exact⟨(ao_ s h2).alloc _,c,c.size⟩
       have ad:Hid (∀x,(u3:Value).ownBlock=some x->w.heap.size<=x):=fun x e=>(z.lt x e).1
       have Q:Hid (e7_ t n i (m+1)->(am_ t n i++kin t n i m).length+1=(am_ t n i++kin t n i (m+1)).length):=fun hy=>by rw[k9_ hy];simp only[Μ,ls_];omega
       have G:=agg_ (t:=t) (i:=i) (m:=m+1) o_ o_ B W.out;have O:gc_ (fun j=>ω (t j)) i<m+1->(e7_ t n i (m+1)↔ly_ t n ((t i).extract 0 (m+1))):=fun hk=>agf_ an.out S o_ hk
       clear y z I P R af;by_cases hl:m+1<=B.size
       . have q3:(m:Int)+1<=(B.size:Int):=o_;by_cases F:B.extract 0 (m+1)=(t i).extract 0 (m+1)
         . have q4:((B.extract 0 (m+1)).toList==((t i).extract 0 (m+1)).toList)=true:=by rw[g3_];simp[F]
           have H:Hid (¬e7_ t n i (m+1)):=fun hh=>by have:=G.1 ⟨hl,F⟩;have:=hh.1;omega
           obtain⟨kb,am⟩:=δ (ie_ t n ((t i).extract 0 (m+1)));rw[am.out]at C;clear G O F;go_wp2_with fail;go_quiet (fail);obtain⟨p,l⟩:=af_ (wi.drewN nq);rw[<-l];obtain⟨r,o,s⟩:=C p ⟨nq,l⟩;have J:=α s;clear l C s;go_wp2_with (go_at_call 89;refine r.mono ?_;rintro e d ⟨rfl,c⟩;obtain⟨A,f,T⟩:=o d c;have u:=α f;have D:=α c;clear c f o);go_roundw
           case rel=>
            have k:=ao_ J.out D.out;rw[<-l3_ H.out]at k;exact⟨m+1,o_,by go_num,u.out,k⟩
           case measure=>exact c_
         . have q4:((B.extract 0 (m+1)).toList==((t i).extract 0 (m+1)).toList)=false:=by rw[g3_];simp[F]
           have K:Hid (e7_ t n i (m+1)↔ly_ t n ((t i).extract 0 (m+1))):=O (Nat.lt_of_not_le (fun hh=>F (G.2 hh).2));clear G O F;go_wp2_with fail;go_quiet (fail);obtain⟨p,l⟩:=af_ (wi.drewN nq);rw[<-l];obtain⟨r,o,s⟩:=C p ⟨nq,l⟩;have J:=α s;clear l C s;cases hkb:ie_ t n ((t i).extract 0 (m+1))with
           |true=>
            have E:Hid (e7_ t n i (m+1)):=K.out.2 (k6_.1 hkb);rw[hkb]at r;clear hkb;go_wp2_with (first
             |(go_at_call 89;refine r.mono ?_;rintro e d ⟨rfl,c⟩;obtain⟨A,f,T⟩:=o d c;have u:=α f;have D:=α c;clear c f o)
             |(at_builtin;refine Υ underlying56 ag ah ai aj A ?_;intro gA ap aq N M L;have X:=α N;have V:=α M;have ak:=α L;clear N M L A))
            go_roundw
            case rel=>
             have k:=X.out;rw[it_,ac_,<-k9_ E.out,Q.out E.out]at k;exact⟨m+1,o_,by go_num,(u.out.alloc o_ _).grown V.out s_ (fun x e=>ad.out x e),by
              rw[show(am_ t n i).length+(kin t n i m).length+1=(am_ t n i++kin t n i (m+1)).length by have:=Q.out E.out;rw[Μ]at this;exact this];exact k⟩
            case measure=>exact c_
           |false=>
            have H:Hid (¬e7_ t n i (m+1)):=fun hh=>by rw[k6_.2 (K.out.1 hh)]at hkb;cases hkb
            rw[hkb]at r;clear hkb;go_wp2_with (go_at_call 89;refine r.mono ?_;rintro e d ⟨rfl,c⟩;obtain⟨A,f,T⟩:=o d c;have u:=α f;have D:=α c;clear c f o);go_roundw
            case rel=>
             have k:=ao_ J.out D.out;rw[<-l3_ H.out]at k;exact⟨m+1,o_,by go_num,u.out,k⟩
            case measure=>exact c_
       . have q3:decide ((m:Int)+1<=(B.size:Int))=false:=s_;have K:Hid (e7_ t n i (m+1)↔ly_ t n ((t i).extract 0 (m+1))):=O (Nat.lt_of_not_le (fun hh=>hl (G.2 hh).1));clear G O;go_wp2_with fail;go_quiet (fail);obtain⟨p,l⟩:=af_ (wi.drewN nq);rw[<-l];obtain⟨r,o,s⟩:=C p ⟨nq,l⟩;have J:=α s;clear l C s;cases hkb:ie_ t n ((t i).extract 0 (m+1))with
         |true=>
          have E:Hid (e7_ t n i (m+1)):=K.out.2 (k6_.1 hkb);rw[hkb]at r;clear hkb;go_wp2_with (first
           |(go_at_call 89;refine r.mono ?_;rintro e d ⟨rfl,c⟩;obtain⟨A,f,T⟩:=o d c;have u:=α f;have D:=α c;clear c f o)
           |(at_builtin;refine Υ underlying56 ag ah ai aj A ?_;intro gA ap aq N M L;have X:=α N;have V:=α M;have ak:=α L;clear N M L A))
          go_roundw
          case rel=>
           have k:=X.out;rw[it_,ac_,<-k9_ E.out,Q.out E.out]at k;exact⟨m+1,o_,by go_num,(u.out.alloc o_ _).grown V.out s_ (fun x e=>ad.out x e),by
            rw[show(am_ t n i).length+(kin t n i m).length+1=(am_ t n i++kin t n i (m+1)).length by have:=Q.out E.out;rw[Μ]at this;exact this];exact k⟩
          case measure=>exact c_
         |false=>
          have H:Hid (¬e7_ t n i (m+1)):=fun hh=>by rw[k6_.2 (K.out.1 hh)]at hkb;cases hkb
          rw[hkb]at r;clear hkb;go_wp2_with (go_at_call 89;refine r.mono ?_;rintro e d ⟨rfl,c⟩;obtain⟨A,f,T⟩:=o d c;have u:=α f;have D:=α c;clear c f o);go_roundw
          case rel=>
           have k:=ao_ J.out D.out;rw[<-l3_ H.out]at k;exact⟨m+1,o_,by go_num,u.out,k⟩
          case measure=>exact c_
     . have e:m=(t i).size:=o_;have q2:¬(m:Int)+1<=((t i).size:Int):=o_;clear y z I P R;go_wp2_with fail;go_roundw
       case rel=>
        refine⟨i+1,o_,by go_num,i_,ab.out, ?_⟩;have:=ac.out;rw[e]at this;exact this
       case measure=>exact c_
  . have e:i=n:=o_;have q1:¬(i:Int)<(n:Int):=o_;subst e;have I:=α z;clear y z R aa;go_wp2_with fail;go_ret;exact⟨P.out,_,rfl,I.out⟩
end Go.Proofs.YtpngikmcjkjdaaaGreatDoor
