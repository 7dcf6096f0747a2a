import Derived.Test.YtpngikmcjkjdaaaGreatDoorC23
import Derived.Test.YtpngikmcjkjdaaaGreatDoorC25
set_option linter.unusedVariables false
set_option linter.unusedSimpArgs false
set_option maxRecDepth 20000
set_option maxHeartbeats 80000000
namespace Go.Proofs.YtpngikmcjkjdaaaGreatDoor
open Go.RowKit Tryz List Nat
variable {qs:List Nat} {base cap g n q':Nat} {A':Nat->Bool} {F' X':Nat->Nat->Nat} {w:World}
theorem qe_ (a:Int)(b8:Nat)(w:World)(hm:b8<=2)(ha:I64 a):
 Calls prog 101 #[.int .i64 a,.int .i64 b8] w fun e w'=>e= .returned (.int .i64 (min a ((b8:Int)+1)))/\w=w':=by
 by_cases h:(b8:Int)+1<a
 . rw[show min a ((b8:Int)+1)=(b8:Int)+1 by omega];go_enter func101,ntmps101;go_wp2
   go_ret;exact⟨rfl,rfl⟩
 . rw[show min a ((b8:Int)+1)=a by omega];go_enter func101,ntmps101;go_wp2
   go_ret;exact⟨rfl,rfl⟩
theorem ale_ (s:ByteArray)(b8:Nat)(w:World)(hs:s.size<=12)(hm:b8<=2):
 Calls prog 63 #[.string s,.int .i64 b8] w fun e w'=>Bl w w'/\∃g cap,e= .returned (.slice (some ⟨g,0,none⟩) (s.size+1) cap)/\w'.ownsRow w.heap.size 3 1 (.slice (some ⟨g,0,none⟩) (s.size+1) cap) (s.size+1) (Λ (fu_ b8) (s.size+1)):=by
 obtain⟨E,r,u,y,z⟩:=info_parts e9_;go_enter func63,ntmps63;go_wp2_with fail;go_loopw [5,6,7] (fun v j' _ wr=>∃j:Nat,j<=s.size+1/\j'= .int .i64 j/\Bl w wr/\wr.ownsRow w.heap.size 3 1 v j (Λ (fu_ b8) j))
  (fun _ j' _ _=>s.size+1 - (intOf j').toNat)
 case atStart=>exact⟨0,o_,rfl,μ,a8_⟩
 case round=>
  obtain⟨j,B,rfl,c,b⟩:=hrel;have A:=c.size;by_cases D:j<=s.size
  . have t:=b.alloc (.cells #[.int .i64 (min (j:Int) ((b8:Int)+1))] 3);have d:Hid _:=c;have n:Hid (∀x,(u5:Value).ownBlock=some x->w.heap.size<=x):=fun x e=>(b.lt x e).1
    clear c b;go_wp2_with (first|(go_at_call 101;refine(qe_ _ _ _ hm o_).mono ?_;rintro e w' ⟨rfl,rfl⟩)|(at_builtin;refine Υ underlying96 r u y z t ?_;intro g cap F b h q;have m:Hid _:=b;have l:Hid _:=h;clear b h q));go_roundw
    case rel=>
     have i:=m.out;rw[show(min (j:Int) ((b8:Int)+1))=((fu_ b8 j:Nat):Int)by unfold fu_;omega,<-kp_]at i;exact⟨j+1,o_,by go_num,(d.out.alloc o_ _).grown l.out s_ (fun x e=>n.out x e),i⟩
    case measure=>exact c_
  . have C:¬(j:Int)<=(s.size:Int):=o_;have p:j=s.size+1:=o_;obtain⟨a,cap,rfl,f⟩:=Β b;obtain⟨g,rfl,o⟩:=f o_;subst p;have d:Hid _:=c;have k:=α b;clear b c f o;go_wp2_with fail;go_ret;exact⟨d.out,g,cap,rfl,k.out⟩
theorem alf_ (g g' n cap cap':Nat)(a b:Nat->Nat)(w:World)(hn:n<=100)(ha:dc_ w g n a)(hb:dc_ w g' n b):
 Calls prog 102 #[.slice (some ⟨g,0,none⟩) n cap,.slice (some ⟨g',0,none⟩) n cap'] w fun e w'=>e= .returned (.bool ((List.range n).all fun i=>a i==b i))/\Bl w w':=by
 go_enter func102,ntmps102;go_wp2_with fail;go_loopw [5] (fun i' wr=>∃i:Nat,i<=n/\i'= .int .i64 i/\Bl w wr/\∀j,j<i->a j=b j) (fun i' _=>n - (intOf i').toNat)
 case atStart=>exact⟨0,o_,rfl,μ,fun j f=>absurd f o_⟩
 case round=>
  obtain⟨i,t,rfl,c,k⟩:=hrel;by_cases d:i<n
  . have r:=(c.cell (p:=⟨g,i,none⟩) (Χ (ha i d))).trans (ha i d);have s:=(c.cell (p:=⟨g',i,none⟩) (Χ (hb i d))).trans (hb i d);have m:Hid _:=k;have l:Hid _:=c;clear k c;by_cases h:a i=b i
    . have o:(((a i:Nat):Int) !=((b i:Nat):Int))=false:=by simp[h]
      go_wp2_with fail;go_quiet (fail);go_wp2_with fail;go_roundw
      case rel=>
       refine⟨i+1,o_,by go_num,below_drewN l.out nq,fun j f=> ?_⟩;by_cases e:j=i
       . rw[e];exact h
       . exact m.out j o_
      case measure=>exact c_
    . have o:(((a i:Nat):Int) !=((b i:Nat):Int))=true:=s_;go_wp2_with fail;go_quiet (fail);go_wp2_with fail;go_ret;refine⟨b6_ ?_,below_drewN l.out nq⟩;symm
      rw[all_eq_false];exact⟨i,by simpa using d,by simpa using h⟩
  . have q:i=n:=o_;subst q;go_wp2_with fail;go_ret;refine⟨b6_ ?_,c⟩;symm
    rw[all_eq_true];intro j f;simpa using k j (by simpa using f)
theorem alg_ (g cap:Nat)(r:Nat->Nat)(s:ByteArray)(b8 c:Nat)(w:World)(hs:s.size<=12)(hm:b8<=2)(hc:c<8)(ht:dh_ s)(hr:∀i,i<=s.size->r i<=3)(ha:dc_ w g (s.size+1) r):
 Calls prog 64 #[.slice (some ⟨g,0,none⟩) (s.size+1) cap,.string s,.int .i64 b8,.int .u8 (97+(c:Int))] w fun e w'=>Bl w w'/\∃g cap,e= .returned (.slice (some ⟨g,0,none⟩) (s.size+1) cap)/\w'.ownsRow w.heap.size 3 1 (.slice (some ⟨g,0,none⟩) (s.size+1) cap) (s.size+1) (Λ (b4_ (a7_ s) b8 r c) (s.size+1)):=by
 obtain⟨i3,H,L,M,N⟩:=info_parts e9_;have C:=ha 0 o_;have Y:=hr 0 o_;go_enter func64,ntmps64;go_wp2_with (go_at_call 101;refine(qe_ _ _ _ hm o_).mono ?_;rintro e w' ⟨rfl,rfl⟩);have B:(w.alloc (.cells #[.int .i64 (min (r 0:Int) (b8:Int)+1)] 3)).ownsRow w.heap.size 3 1 (.slice (some ⟨w.heap.size,0,none⟩) 1 1) 1 (Λ (b4_ (a7_ s) b8 r c) 1):=by
  have h:=World.ownsRow_lit (base:=w.heap.size) (e:=3) (size:=1) w #[.int .i64 (min (r 0:Int) (b8:Int)+1)] 1 ι d_ rfl;have S:(#[Value.int .i64 (min (r 0:Int) (b8:Int)+1)]:Array Value).toList=Λ (b4_ (a7_ s) b8 r c) 1:=by
   simp[Λ,b4_];omega
  rw[S]at h;exact h
 clear C;go_loopw [10,11,12] (fun v j' _ wr=>∃j:Nat,j<=s.size/\j'= .int .i64 ((j:Int)+1)/\Bl w wr/\wr.ownsRow w.heap.size 3 1 v (j+1) (Λ (b4_ (a7_ s) b8 r c) (j+1)))
  (fun _ j' _ _=>s.size+1 - (intOf j').toNat)
 case atStart=>exact⟨0,o_,rfl,μ.alloc ι _,B⟩
 case round=>
  obtain⟨j,hj,rfl,d,b⟩:=hrel;clear B;have Z:=d.size;obtain⟨a,E,rfl,t⟩:=Β b;obtain⟨F,rfl,u⟩:=t o_;by_cases I:j<s.size
  . have aa:=po_ ht j I;have ac:=yu_ I;have G:g<w.heap.size:=Χ (ha 0 o_);have C:=(d.cell (p:=⟨g,j,none⟩) G).trans (ha j o_);have X:=(d.cell (p:=⟨g,j+1,none⟩) G).trans (ha (j+1) o_);have D:=u j o_;rw[show(Λ (b4_ (a7_ s) b8 r c) (j+1))[j]? =some (.int .i64 ((b4_ (a7_ s) b8 r c j:Nat):Int))by simp[Λ]]at D;have f0:=hr j o_;have f1:=hr (j+1) o_;have W:=sl_ (a7_ s) b8 r c j;have f:Hid (b4_ (a7_ s) b8 r c (j+1)=min (min (min (r (j+1)+1) (b4_ (a7_ s) b8 r c j+1)) (if a7_ s j=c then r j else r j+1)) (b8+1)):=rfl;obtain⟨hh,Q⟩:=δ (b4_ (a7_ s) b8 r c j);obtain⟨hn,o⟩:=δ (b4_ (a7_ s) b8 r c (j+1));rw[Q.out]at D W f;rw[o.out]at f;have J:=fun v:Int=>b.alloc (.cells #[.int .i64 v] 3)
    have m:Hid _:=d;have A:Hid (∀x,(Value.slice (some ⟨F,0,none⟩) (j+1) E).ownBlock=some x->w.heap.size<=x):=fun x e=>(b.lt x e).1
    have O:∀(l:World) (z:Value) (v:Int),v=((b4_ (a7_ s) b8 r c (j+1):Nat):Int)->l.ownsRow w.heap.size 3 1 z (j+1+1) (Λ (b4_ (a7_ s) b8 r c) (j+1)++ [.int .i64 v])->l.ownsRow w.heap.size 3 1 z (j+1+1) (Λ (b4_ (a7_ s) b8 r c) (j+1+1)):=by
     rintro l z _ rfl h;rw[kp_];exact h
    clear d b t u;by_cases K:a7_ s j=c
    . rw[if_pos K]at f;have U:(((s[j].toNat:Int)) !=97+(c:Int))=false:=s_;go_wp2_with (first|(go_at_call 101;refine(qe_ _ _ _ hm o_).mono ?_;rintro e w' ⟨rfl,rfl⟩)|(at_builtin;refine Υ underlying96 H L M N (J _) ?_;intro T R l b k y;have q:Hid _:=b;have n:Hid _:=k;clear b k y))
      all_goals go_roundw
      all_goals first
       |(simp[intOf];omega)
       |exact⟨j+1,o_,by go_num,(m.out.alloc o_ _).grown n.out s_ (fun x e=>A.out x e),O _ _ _ (by rw[o.out];have:=f.out;omega) q.out⟩
    . rw[if_neg K]at f;have U:(((s[j].toNat:Int)) !=97+(c:Int))=true:=s_;go_wp2_with (first|(go_at_call 101;refine(qe_ _ _ _ hm o_).mono ?_;rintro e w' ⟨rfl,rfl⟩)|(at_builtin;refine Υ underlying96 H L M N (J _) ?_;intro T R l b k y;have q:Hid _:=b;have n:Hid _:=k;clear b k y))
      all_goals go_roundw
      all_goals first
       |(simp[intOf];omega)
       |exact⟨j+1,o_,by go_num,(m.out.alloc o_ _).grown n.out s_ (fun x e=>A.out x e),O _ _ _ (by rw[o.out];have:=f.out;omega) q.out⟩
  . have ab:¬(j:Int)+1<=(s.size:Int):=o_;have V:j=s.size:=o_;subst V;have m:Hid _:=d;have P:=α b;clear b d t u;go_wp2_with fail;go_ret;exact⟨m.out,F,E,rfl,P.out⟩
theorem alh_ (X:Nat->Nat)(k i:Nat)(h:i<k):(Λ X k)[i]? =some (.int .i64 ((X i:Nat):Int)):=by simp[Λ,h]
theorem qf_ {f:Nat->Nat}(h:w.ownsRow base 3 1 (.slice (some ⟨g,0,none⟩) n cap) n (Λ f n)):dc_ w g n f:=by
 intro i a;rw[h.cellAt i o_];exact alh_ f n i a
def ij_ (m:Nat)(R C:Nat->Nat)(k:Nat):List Value:=(List.range k).map fun i=> .slice (some ⟨R i,0,none⟩) m (C i)
theorem ali_ (m:Nat)(R C:Nat->Nat)(k:Nat):ij_ m R C (k+1)=ij_ m R C k++ [.slice (some ⟨R k,0,none⟩) m (C k)]:=by simp[ij_,range_succ]
theorem alj_ (g n cap m gr cr:Nat)(R C:Nat->Nat)(F:Nat->Nat->Nat)(f:Nat->Nat)(w:World)(hn:n<=100000000)(hm:m<=100)
 (hc:∀k,k<n->w.cell? ⟨g,k,none⟩=some (.slice (some ⟨R k,0,none⟩) m (C k))) (hF:∀k,k<n->dc_ w (R k) m (F k)) (hf:dc_ w gr m f):
 Calls prog 65 #[.slice (some ⟨g,0,none⟩) n cap,.slice (some ⟨gr,0,none⟩) m cr] w fun e w'=>Bl w w'/\∃k,e= .returned (.int .i64 ((k:Nat):Int))/\k<=n/\(k<n->∀i,i<m->F k i=f i)/\∀j,j<k->∃i,i<m/\F j i≠f i:=by
 go_enter func65,ntmps65;go_wp2_with fail;go_loopw [5,6] (fun k' _ wr=>∃k:Nat,k<=n/\k'= .int .i64 k/\Bl w wr/\∀j,j<k->∃i,i<m/\F j i≠f i) (fun k' _ _=>n - (intOf k').toNat)
 case atStart=>exact⟨0,o_,rfl,μ,fun j hj=>absurd hj o_⟩
 case round=>
  obtain⟨k,z,rfl,b,l⟩:=hrel;by_cases c:k<n
  . have u:=(b.cell (p:=⟨g,k,none⟩) (Χ (hc k c))).trans (hc k c);have h:=alf_ (R k) gr m (C k) cr (F k) f wr hm (fun i a=>(b.cell (p:=⟨R k,i,none⟩) (Χ (hF k c i a))).trans (hF k c i a)) (fun i a=>(b.cell (p:=⟨gr,i,none⟩) (Χ (hf i a))).trans (hf i a));obtain⟨t,d⟩:=δ ((List.range m).all fun i=>F k i==f i);rw[d.out]at h;have v:=b.size;have o:Hid _:=b;have r:Hid _:=l;clear b l;go_wp2_with fail;refine h.mono ?_;clear h;rintro e A ⟨rfl,s⟩;have q:Hid _:=o.out.trans (s.mono v);clear s o u;cases t
    . go_wp2_with fail;go_roundw
      case rel=>
       refine⟨k+1,o_,by go_num,q.out,fun j hj=> ?_⟩;by_cases e:j=k
       . subst e;have:=d.out;rw[all_eq_false]at this;obtain⟨i,a,y⟩:=this;exact⟨i,by simpa using a,by simpa using y⟩
       . exact r.out j o_
      case measure=>exact c_
    . go_wp2_with fail;go_ret;refine⟨q.out,k,rfl,o_,fun _ i a=> ?_,r.out⟩;have:=d.out;rw[all_eq_true]at this;simpa using this i (by simpa using a)
  . have x:k=n:=o_;subst x;go_wp2_with fail;go_ret;exact⟨b,k,rfl,ι,fun h'=>absurd h' o_,l⟩
structure d5_ (W:World)(B b:Nat)(w:World)(m n:Nat)(F:Nat->Nat->Nat)(SR SC:Nat->Nat)(vs va vn:Value)(ka kn:Nat)(A:Nat->Bool)(R C:Nat->Nat)(X:Nat->Nat->Nat):Prop where
 cz:Below B W w
 own:w.ownsRow B 96 1 vs n (ij_ m SR SC n)
 rws:∀i,i<n->w.ownsRow B 3 1 (.slice (some ⟨SR i,0,none⟩) m (SC i)) m (Λ (F i) m)
 bm:ak_ w b w va vn ka kn A R C X
 hb:B<=b
structure d6_ (W:World)(B b:Nat)(w:World)(m n:Nat)(F:Nat->Nat->Nat)(SR SC:Nat->Nat)(vs va vn vr:Value)(ka kn c:Nat)(A:Nat->Bool)(R C:Nat->Nat)(X:Nat->Nat->Nat):Prop where
 mem:d5_ W B b w m n F SR SC vs va vn ka kn A R C X
 row:w.ownsRow (b+1) 3 1 vr c (Λ (X kn) c)
 dr:∀i,i<kn->vr.ownBlock≠some (R i)
 ds:∀i,i<n->vr.ownBlock≠some (SR i)
section
variable {W:World} {B b:Nat} {w w1 w2:World} {m n:Nat} {F:Nat->Nat->Nat} {SR SC:Nat->Nat} {vs va vn vr:Value} {ka kn c:Nat} {A:Nat->Bool} {R C:Nat->Nat} {X:Nat->Nat->Nat}
theorem d5_.cQ (h:d5_ W B b w m n F SR SC vs va vn ka kn A R C X):b<w.heap.size:=κ h.bm.two.cg
theorem d5_.below (h:d5_ W B b w m n F SR SC vs va vn ka kn A R C X)(hb:Bl w w1):d5_ W B b w1 m n F SR SC vs va vn ka kn A R C X:=
 ⟨h.cz.trans (hb.mono (by have:=h.cQ;have:=h.hb;omega)),ao_ h.own hb,fun i hi=>ao_ (h.rws i hi) hb,(h.bm.below hb).dh,h.hb⟩
theorem d6_.below (h:d6_ W B b w m n F SR SC vs va vn vr ka kn c A R C X)(hb:Bl w w1):d6_ W B b w1 m n F SR SC vs va vn vr ka kn c A R C X:=
 ⟨h.mem.below hb,ao_ h.row hb,h.dr,h.ds⟩
theorem d5_.congr (h:d5_ W B b w m n F SR SC vs va vn ka kn A R C X)(ha:∀i,i<ka->A i=A' i)(hx:∀i c,i<kn->c<8->X i c=X' i c):d5_ W B b w m n F SR SC vs va vn ka kn A' R C X':=
 ⟨h.cz,h.own,h.rws,h.bm.congr ha hx,h.hb⟩
theorem d6_.congr (h:d6_ W B b w m n F SR SC vs va vn vr ka kn c A R C X)(ha:∀i,i<ka->A i=A' i)(hx:∀i c,i<kn->c<8->X i c=X' i c)(hr:∀d,d<c->X kn d=X' kn d):d6_ W B b w m n F SR SC vs va vn vr ka kn c A' R C X':=
 ⟨h.mem.congr ha hx,by have:=h.row;rw[l8_ hr]at this;exact this,h.dr,h.ds⟩
theorem d5_.dN (h:d5_ W B b w m n F SR SC vs va vn ka kn A R C X)(hf:∀i c,i<n->c<m->F i c=F' i c):d5_ W B b w m n F' SR SC vs va vn ka kn A R C X:=
 ⟨h.cz,h.own,fun i hi=>by have:=h.rws i hi;rw[l8_ (fun c hc=>hf i c hi hc)]at this;exact this,h.bm,h.hb⟩
theorem d6_.dN (h:d6_ W B b w m n F SR SC vs va vn vr ka kn c A R C X)(hf:∀i c,i<n->c<m->F i c=F' i c):d6_ W B b w m n F' SR SC vs va vn vr ka kn c A R C X:=
 ⟨h.mem.dN hf,h.row,h.dr,h.ds⟩
theorem d5_.dW (h:d5_ W B b w m n F SR SC vs va vn ka kn A R C X):d6_ W B b w m n F SR SC vs va vn (.slice none 0 0) ka kn 0 A R C X:=
 ⟨h,a8_,by intro i _ e;simp[Value.ownBlock]at e,by intro g _ e;simp[Value.ownBlock]at e⟩
theorem d5_.acc (h:d5_ W B b w m n F SR SC vs va vn ka kn A R C X)(hown:w2.ownsRow (b+1) 4 1 (.slice (some ⟨g,0,none⟩) (ka+1) cap) (ka+1) (aa_ A ka++ [.bool (A ka)]))(hg:w.grownBy w2 va.ownBlock)(hf:va.ownBlock=some g\/g=w.heap.size):
 d5_ W B b (w2.setCell ⟨b,0,none⟩ (.slice (some ⟨g,0,none⟩) (ka+1) cap)) m n F SR SC vs (.slice (some ⟨g,0,none⟩) (ka+1) cap) vn (ka+1) kn A R C X:=by
 have l:=h.cQ;have j:=h.hb;have a:=h.bm.two.cB;have d:=gf_ h.own a d_ hg;have c:=h.bm.two.cM hg;refine⟨(h.cz.grown hg o_ (fun k e=>by have:=(a.lt k e).1;omega)).setCell s_ _,bg_ d _ _ (fun g' hg'=>ka_ d c d_ g' hg'),fun i hi=> ?_,(h.bm.acc hown hg hf).dh,h.hb⟩;have f:=gf_ (h.rws i hi) a d_ hg;exact bg_ f _ _ (fun g' hg'=>ka_ f c d_ g' hg')
theorem d6_.put (h:d6_ W B b w m n F SR SC vs va vn vr ka kn c A R C X)(hown:w2.ownsRow (b+1) 3 1 (.slice (some ⟨g,0,none⟩) (c+1) cap) (c+1) (Λ (X kn) c++ [.int .i64 ((X kn c:Nat):Int)]))(hg:w.grownBy w2 vr.ownBlock)(hf:vr.ownBlock=some g\/g=w.heap.size):
 d6_ W B b w2 m n F SR SC vs va vn (.slice (some ⟨g,0,none⟩) (c+1) cap) ka kn (c+1) A R C X:=by
 have a:=h.mem;have j:=a.cQ;have f:=a.hb;rw[<-kp_]at hown;refine⟨⟨a.cz.grown hg o_ (fun k e=>by have:=(h.row.lt k e).1;omega),gf_ a.own h.row d_ hg,fun i d=>sj_ (a.rws i d) (fun g' h1 h2=>h.ds i d (by rw[h2];exact h1.symm)) hg,(a.bm.grown h.row h.dr hg).dh,a.hb⟩,hown, ?_, ?_⟩
 . intro i d e;simp only[Value.ownBlock,Δ]at e;rcases hf with hf|hf
   . exact h.dr i d (by rw[hf,e])
   . have:=((a.bm.rows i d).lt (R i) rfl).2;omega
 . intro i d e;simp only[Value.ownBlock,Δ]at e;rcases hf with hf|hf
   . exact h.ds i d (by rw[hf,e])
   . have:=((a.rws i d).lt (SR i) rfl).2;omega
theorem d6_.state (h:d6_ W B b w m n F SR SC vs va vn vr ka kn c A R C X){gs cs:Nat}(hnew:w.ownsRow B 3 1 (.slice (some ⟨gs,0,none⟩) m cs) m (Λ (F n) m))(hfr:vr.ownBlock≠some gs)
 (hown:w2.ownsRow B 96 1 (.slice (some ⟨g,0,none⟩) (n+1) cap) (n+1) (ij_ m SR SC n++ [.slice (some ⟨gs,0,none⟩) m cs])) (hg:w.grownBy w2 vs.ownBlock):
 d6_ W B b w2 m (n+1) F (fun i=>if i=n then gs else SR i) (fun i=>if i=n then cs else SC i) (.slice (some ⟨g,0,none⟩) (n+1) cap) va vn vr ka kn c A R C X:=by
 have a:=h.mem;have l:=a.cQ;have o:=a.hb;have j:ij_ m SR SC n++ [.slice (some ⟨gs,0,none⟩) m cs]=ij_ m (fun i=>if i=n then gs else SR i) (fun i=>if i=n then cs else SC i) (n+1):=by
  rw[ali_];congr 1
  . simp only[ij_];apply map_congr_left;intro i f;have:i<n:=by simpa using f
    rw[if_neg o_,if_neg o_]
  . simp
 rw[j]at hown;refine⟨⟨a.cz.grown hg o_ (fun k e=>(a.own.lt k e).1),hown,fun i f=> ?_, ?_,a.hb⟩,gf_ h.row a.own d_ hg,h.dr,fun i f=> ?_⟩
 . by_cases e:i=n
   . subst e;simp only[if_true];exact gf_ hnew a.own d_ hg
   . simp only[if_neg e];exact gf_ (a.rws i o_) a.own d_ hg
 . have d:=a.bm;refine⟨⟨μ, ?_,gf_ d.two.cB a.own d_ hg,gf_ d.two.cA a.own d_ hg,d.two.cX⟩,fun i f=>gf_ (d.rows i f) a.own d_ hg⟩;rw[hg.block b l (fun e=>ka_ a.own d.two.cg d_ b e.symm rfl)];exact d.two.cg
 . by_cases e:i=n
   . subst e;simp only[if_true];exact hfr
   . simp only[if_neg e];exact h.ds i o_
theorem d6_.done {gr cr:Nat}(h:d6_ W B b w m n F SR SC vs va vn (.slice (some ⟨gr,0,none⟩) 8 cr) ka kn 8 A R C X)
 (hown:w2.ownsRow (b+1) 24 1 (.slice (some ⟨g,0,none⟩) (kn+1) cap) (kn+1) (h8_ R C kn++ [.slice (some ⟨gr,0,none⟩) 8 cr])) (hg:w.grownBy w2 vn.ownBlock) (hf:vn.ownBlock=some g\/g=w.heap.size):
 d5_ W B b (w2.setCell ⟨b,1,none⟩ (.slice (some ⟨g,0,none⟩) (kn+1) cap)) m n F SR SC vs va (.slice (some ⟨g,0,none⟩) (kn+1) cap) ka (kn+1) A (fun i=>if i=kn then gr else R i) (fun i=>if i=kn then cr else C i) X:=by
 have a:=h.mem;have o:=a.cQ;have l:=a.hb;have c:=a.bm.two.cA;have f:=gf_ a.own c d_ hg;have d:=a.bm.two.cN hg;refine⟨(a.cz.grown hg o_ (fun k e=>by have:=(c.lt k e).1;omega)).setCell s_ _,bg_ f _ _ (fun g' hg'=>ka_ f d d_ g' hg'),fun i hi=> ?_,(a.bm.b7 h.row hown hg hf).dh,a.hb⟩;have j:=gf_ (a.rws i hi) c d_ hg;exact bg_ j _ _ (fun g' hg'=>ka_ j d d_ g' hg')
end
theorem alk_ {base' e s:Nat}{v:Value}{x:List Value}(h:w.ownsRow base e s v n x)(hb:base'<=base):w.ownsRow base' e s v n x:=by
 refine⟨h.1, ?_⟩;rcases h.2 with h2|⟨g,a,b,c,d,f⟩
 . exact .inl h2
 . exact .inr ⟨g,a,b,c,Nat.le_trans hb d,f⟩
theorem all_ {E:Ear}(hm:E.b8<=2){r p:Nat}(hR:Κ E.good E.succ qs r)(hq':E.good q')(hp:p<qs.length)(h:∀i,i<E.m+1->E.row (qs.getD p 0) i=E.row q' i):q'∈qs/\qs.idxOf q'=p:=by
 have e:=Ear.row_inj hm (hR.inr _ (fj_ qs p hp)) hq' (fun i hi=>h i o_);have a:q'∈qs:=by rw[<-e];exact fj_ qs p hp
 refine⟨a, ?_⟩;have b:=ix_ a;have c:qs[p]'hp=q':=by rw[<-e,gd_,ge_ hp];rfl
 have d:qs[qs.idxOf q']'b=q':=by simp[getElem_idxOf]
 exact(getElem_inj hR.nd).1 (d.trans c.symm)
theorem alm_ {E:Ear}{m:Nat}(h:∀j,j<qs.length->∃i,i<m/\E.row (qs.getD j 0) i≠E.row q' i):q'∉qs:=by
 intro a;obtain⟨i,c,b⟩:=h _ (ix_ a);rw[i3_ qs q' a]at b;exact b rfl
theorem aln_ {E:Ear}{ps:List Nat}{q i:Nat}(hi:i<ps.length):(E.tab ps).acc i=(E.tab (ps++ [q])).acc i:=by simp only[Ear.tab];rw[b8_ _ _ _ hi]
theorem alo_:(prog.info? 96).map (fun i=>(i.zero,i.size,i.bytes))=some (some (.slice none 0 0),1,24):=k_
theorem z3_ (s:ByteArray)(b8 budget:Nat)(w:World)(hs:s.size<=12)(hm:b8<=2)(ht:dh_ s)(hb0:1<=budget)(hb1:budget<=40):
 Calls prog 28 #[.string s,.int .i64 b8,.int .i64 budget] w
  (yi_ (Ear.lang ⟨a7_ s,s.size,b8⟩) budget w):=by
 obtain⟨i3,a4,bd,be,bf⟩:=info_parts e9_;obtain⟨i4,bC,bO,bP,bQ⟩:=info_parts hc_;obtain⟨iR,bD,bR,bS,bT⟩:=info_parts mn_;obtain⟨iS,bE,bU,bV,bW⟩:=info_parts alo_;obtain⟨E,V⟩:∃E:Ear,Hid (E=⟨a7_ s,s.size,b8⟩):=⟨_,rfl⟩;have aj:E.b8<=2:=by rw[V.out];exact hm
 have bt:E.m<=12:=by rw[V.out];exact hs
 have HT:=fun w=>ko_ s 12 w u_ o_
 rw[show(decide (s.size<=12)&&as_ s s.size)=true by simp[hs,(jg_ s).2 ht]]at HT;have av:=fun w=>lu_ (budget:Int) w
 rw[show(decide (1<=(budget:Int))&&decide ((budget:Int)<=40))=true by simp;omega]at av;have aW:=fun w=>ale_ s b8 w hs hm
 go_enter func28,ntmps28;go_wp2_with (first|(go_at_call 61;refine(HT _).mono ?_;rintro e w' ⟨rfl,rfl⟩)|(go_at_call 62;refine(av _).mono ?_;rintro e w' ⟨rfl,rfl⟩)|(go_at_call 63;refine(aW _).mono ?_;rintro e z ⟨aB,gs,cs,rfl,ak⟩));have bu:E.m=s.size:=by rw[V.out]
 have aD:E.b8=b8:=by rw[V.out]
 have bv:E.t=a7_ s:=by rw[V.out]
 obtain⟨W,hW,BW,-,-⟩:=ν w #[.slice none 0 0,.slice none 0 0] 41;have bx:W.heap.size=w.heap.size+1:=by rw[hW];simp
 have b0:=aw_ hW;rw[<-hW]at aB ak;clear hW HT av aW;have b3:=aB.size;rw[bx]at ak;have P0:d5_ W (w.heap.size+1) (z.heap.size+1) ((z.alloc (.cells #[.slice (some ⟨gs,0,none⟩) (s.size+1) cs] 96)).alloc (.cells #[.slice none 0 0,.slice none 0 0] 41)) (s.size+1) [0].length (fun i c=>E.row ([0].getD i 0) c) (fun _=>gs) (fun _=>cs) (.slice (some ⟨z.heap.size,0,none⟩) 1 1) (.slice none 0 0) (.slice none 0 0) 0 0 (E.tab [0]).acc (fun _=>0) (fun _=>0) (pn E.succ [0]):=by
  refine⟨((aB.mono o_).alloc o_ _).alloc s_ _, ?_,fun i hi=> ?_,ak_.start μ (ο i_),o_⟩
  . have h:=World.ownsRow_lit (base:=(w.heap.size+1)) (e:=96) (size:=1) z #[.slice (some ⟨gs,0,none⟩) (s.size+1) cs] 1 o_ d_ rfl;have h2:=h.alloc (.cells #[.slice none 0 0,.slice none 0 0] 41);exact h2
  . have bB:i=0:=by simpa using hi
    subst bB;have h:=(ak.alloc (.cells #[.slice (some ⟨gs,0,none⟩) (s.size+1) cs] 96)).alloc (.cells #[.slice none 0 0,.slice none 0 0] 41);rw[l8_ (Y:=fun c=>E.row 0 c) (fun c hc=>by rw[<-aD];exact(Ear.row_zero aj o_).symm)]at h;exact h
 clear ak;have a3:∀qs r,Κ E.good E.succ qs r->qs.length<=67108864:=fun qs r h=>Ear.bound bt h
 go_loopw [9,11,12,13,14,15] (fun vs k' _ _ _ _ wr=>∃(k:Nat) (a:List Nat) (l f:Nat->Nat) (va M:Value) (R C:Nat->Nat),k<=a.length/\k'= .int .i64 k/\Κ E.good E.succ a (8*k)/\d5_ W (w.heap.size+1) (z.heap.size+1) wr (s.size+1) a.length (fun i c=>E.row (a.getD i 0) c) l f vs va M k k (E.tab a).acc R C (pn E.succ a))
  (fun _ k' _ _ _ _ _=>67108864 - (intOf k').toNat)
 case atStart=>exact⟨0,[0],_,_,_,_,_,_,i_,rfl,Κ.start Ear.good_zero,P0⟩
 case round=>
  obtain⟨k,a,l,f,va,M,R,C,hk,rfl,y,o⟩:=hrel;clear P0;have a2:=a3 _ _ y;have aH:=y.len;have am:=η BW o.cz;obtain⟨y0,y1,z0,z1⟩:=β o.bm.two.cg;obtain⟨ap,T,rfl,aa⟩:=Β o.own;obtain⟨gp,rfl,ab⟩:=aa o_;have bc:=o.cQ;by_cases K:k<a.length
  . have c0:=(ab k o_).trans (show(ij_ (s.size+1) l f a.length)[k]? =some (.slice (some ⟨l k,0,none⟩) (s.size+1) (f k))by simp[ij_,K]);have c1:=qf_ (o.rws k K) s.size o_;obtain⟨q,G⟩:=δ (a.getD k 0);try simp only at c1
    rw[G.out]at c1;obtain⟨tv,aA⟩:=δ (E.row q s.size);rw[aA.out]at c1;have aq:Hid ((E.tab a).acc k=decide (tv<=b8)):=by
     unfold Hid Ear.tab;simp only;rw[G.out,bu,aD,aA.out]
    have HP:=α o;have H:=α y;clear o y aa ab;obtain⟨bb,au⟩:=δ (decide (tv<=b8));have bz:=au.out;rw[au.out]at aq;have ah:Hid (d5_ W (w.heap.size+1) (z.heap.size+1) ((wr.alloc (.cells #[.bool bb] 4)).drew) (s.size+1) a.length (fun i c=>E.row (a.getD i 0) c) l f (.slice (some ⟨gp,0,none⟩) a.length T) va M k k (E.tab a).acc R C (pn E.succ a)):=HP.out.below (ξ.drew);have L:=ah.out.bm.two.cB;have aL:Hid (∀g ad w2,w2.ownsRow ((z.heap.size+1)+1) 4 1 (.slice (some ⟨g,0,none⟩) (k+1) ad) (k+1) (aa_ (E.tab a).acc k++ [.bool bb])->
     ((wr.alloc (.cells #[.bool bb] 4)).drew).grownBy w2 va.ownBlock->(va.ownBlock=some g\/g=wr.heap.size+1)->
     d5_ W (w.heap.size+1) (z.heap.size+1) (w2.setCell ⟨(z.heap.size+1),0,none⟩ (.slice (some ⟨g,0,none⟩) (k+1) ad)) (s.size+1) a.length (fun i c=>E.row (a.getD i 0) c) l f (.slice (some ⟨gp,0,none⟩) a.length T) (.slice (some ⟨g,0,none⟩) (k+1) ad) M (k+1) k (E.tab a).acc R C (pn E.succ a)):=by
     intro g ad w2 U hg hf;rw[<-aq.out]at U;refine ah.out.acc U hg ?_;rcases hf with hf|hf
     . exact .inl hf
     . right;rw[hf];simp
    have bL:(s.size:Int)<(s.size:Int)+1:=o_;have a5:(k:Int)<(a.length:Int):=o_;go_upto_region 12 with fail;go_cut [57] (fun _ wc=>∃ac,Hid (d5_ W (w.heap.size+1) (z.heap.size+1) wc (s.size+1) a.length (fun i c=>E.row (a.getD i 0) c) l f (.slice (some ⟨gp,0,none⟩) a.length T) ac M (k+1) k (E.tab a).acc R C (pn E.succ a)))
    case first=>
     go_region_law
      ((refine step_append_lies _ (by rfl) _ _ _ (by rfl) ((z.heap.size+1)+1) 4 i4 (.bool false) 1 1 underlying38 bC bO bP bQ rfl d_ va k (aa_ (E.tab a).acc k) (by rfl) L ⟨wr.heap.size,0,none⟩ 1 1 [.bool bb] (by rfl) (by rfl) (cell_one_new _ _ _) (gt_ rfl) d_ u_ o_ s_ (wr.heap.size+1) i_ ?_;intro g ad w2 F A D bZ;obtain⟨bp,bq,br,bs⟩:=β (ah.out.bm.two.cM A);have X:Hid _:=D;clear D))
     all_goals go_wp2_with fail
     all_goals go_meet
     all_goals exact⟨_,aL.out g ad w2 F A X.out⟩
    case rest=>
     obtain⟨ac,aY⟩:=hcut;clear aL ah L y0 y1 z0 z1 am c0 c1 HP bz;have R0:=aY.out.dW
     go_wp2_with fail;clear aY;go_loopw [9,12,13,14,15] (fun vs vr c' _ _ wr=>∃(c:Nat) (qs:List Nat) (l f:Nat->Nat),c<=8/\c'= .int .i64 c/\k<qs.length/\Hid (qs.getD k 0=q)/\Κ E.good E.succ qs (8*k+c)/\d6_ W (w.heap.size+1) (z.heap.size+1) wr (s.size+1) qs.length (fun i c=>E.row (qs.getD i 0) c) l f vs ac M vr (k+1) k c (E.tab qs).acc R C (pn E.succ qs))
      (fun _ _ c' _ _ _=>8 - (intOf c').toNat)
     case atStart=>exact⟨0,a,l,f,o_,rfl,K,G,H.out,R0⟩
     case round=>
      clear R0 H G K a2 aH bc aq au aA bL a5;obtain⟨c,qs,l,f,hc,rfl,K,G,y,o⟩:=hrel;have a2:=a3 _ _ y;have aH:=y.len;obtain⟨ap,T,rfl,aa⟩:=Β o.mem.own;obtain⟨gq,rfl,ab⟩:=aa o_;have bc:=o.mem.cQ;have an:∀i,i<qs.length->wr.cell? ⟨gq,i,none⟩=some (.slice (some ⟨l i,0,none⟩) (s.size+1) (f i)):=fun i hi=>(ab i o_).trans (by simp[ij_,hi])
      have L:=fun i hi=>qf_ (o.mem.rws i hi)
      by_cases bF:c<8
      . have c0:=an k K;have aJ:=L k K;simp only[G.out]at aJ;have B:=alg_ (l k) (f k) (E.row q) s b8 c wr hs hm bF ht (fun i _=>by have:=E.row_lt q i;omega) aJ;rw[l8_ (Y:=E.row (E.succ q c)) (fun i hi=>by rw[<-bv,<-aD];exact(Ear.row_succ aj q c o_).symm)]at B;have a5:(k:Int)<(qs.length:Int):=o_;have bY:(c:Int)<8:=o_;have ax:Hid _:=an;have HP:=α o;have H:=α y;clear o y aa ab an L aJ;go_wp2_with fail;refine B.mono ?_;clear B;rintro e w3 ⟨aC,I,S,rfl,al⟩;have aE:=HP.out.below aC;have aM:=alj_ gq qs.length T (s.size+1) I S l f (fun i c=>E.row (qs.getD i 0) c) (E.row (E.succ q c)) w3 o_ o_ (fun i hi=>(aC.cell (p:=⟨gq,i,none⟩) (Χ (ax.out i hi))).trans (ax.out i hi)) (fun i hi=>qf_ (aE.mem.rws i hi)) (qf_ al);have aV:=α aE;have aR:=α al;have bk:Hid ((u12:Value).ownBlock≠some I):=fun e=>by have:=(HP.out.row.lt _ e).2;have:=(al.lt I rfl).1;omega
        clear aE al aC ax HP c0;go_wp2_with fail;refine aM.mono ?_;clear aM;rintro e P ⟨O,pp,rfl,b2,aK,aI⟩;have bM:=O.size;have aF:=aV.out.below O;have ay:=α aF;have aS:Hid (P.ownsRow (w.heap.size+1) 3 1 (.slice (some ⟨I,0,none⟩) (s.size+1) S) (s.size+1) (Λ (E.row (E.succ q c)) (s.size+1))):=alk_ (ao_ aR.out O) o_;have b4:=aF.mem.cQ;have ai:Hid (E.succ (qs.getD ((8*k+c)/8) 0) ((8*k+c)%8)=E.succ q c):=by
         unfold Hid;rw[show(8*k+c)/8=k by omega,show(8*k+c)%8=c by omega,G.out]
        have aP:Hid (E.good (E.succ q c)):=Ear.succ_good aj q c;clear aF aV aR O;by_cases a6:pp<qs.length
        . have a9:=all_ aj H.out aP.out a6 (fun i hi=>aK a6 i o_);have b1:((pp:Int)==(qs.length:Int))=false:=by rw[bq_];omega
          have aU:Hid _:=a9;clear a9 aK aI;have ae:Hid (d6_ W (w.heap.size+1) (z.heap.size+1) (P.alloc (.cells #[.int .i64 (pp:Int)] 3)) (s.size+1) qs.length (fun i c=>E.row (qs.getD i 0) c) l f (.slice (some ⟨gq,0,none⟩) qs.length T) ac M u12 (k+1) k c (E.tab qs).acc R C (pn E.succ qs)):=ay.out.below ξ;have L:=ae.out.row;go_wp2_with (at_builtin;refine Υ underlying24 a4 bd be bf L ?_;intro g7 bo w7 F A D;have HO:Hid _:=F;have HG:Hid _:=A;have X:Hid _:=D;clear F A D);go_roundw
          case rel=>
           have bJ:pn E.succ qs k c=pp:=by
            unfold pn;rw[G.out];exact aU.out.2
           have U:=HO.out;rw[<-bJ]at U;exact⟨c+1,qs,l,f,o_,by go_num,K,G,H.out.old o_ (by rw[ai.out];exact aU.out.1),ae.out.put U HG.out X.out⟩
          case measure=>exact c_
        . have bI:pp=qs.length:=o_;subst bI;have af:=alm_ (E:=E) (qs:=qs) (q':=E.succ q c) (fun j hj=>aI j hj);have HN:Hid _:=af;clear af aI aK;have az:Hid (d6_ W (w.heap.size+1) (z.heap.size+1) (P.alloc (.cells #[.slice (some ⟨I,0,none⟩) (s.size+1) S] 96)) (s.size+1) qs.length (fun i x=>E.row ((qs++ [E.succ q c]).getD i 0) x) l f (.slice (some ⟨gq,0,none⟩) qs.length T) ac M u12 (k+1) k c (E.tab (qs++ [E.succ q c])).acc R C (pn E.succ (qs++ [E.succ q c]))):=((ay.out.below ξ).dN (fun i c' hi _=>by rw[b8_ _ _ _ hi])).congr (fun i hi=>aln_ o_) (fun x d hx hd=>(h7_ H.out x d hd o_).symm) (fun d hd=>(h7_ H.out k d o_ o_).symm);have a7:=az.out.mem.own;have aQ:Hid ((P.alloc (.cells #[.slice (some ⟨I,0,none⟩) (s.size+1) S] 96)).ownsRow (w.heap.size+1) 3 1 (.slice (some ⟨I,0,none⟩) (s.size+1) S) (s.size+1) (Λ ((fun i x=>E.row ((qs++ [E.succ q c]).getD i 0) x) qs.length) (s.size+1))):=by
           have h:=aS.out.alloc (.cells #[.slice (some ⟨I,0,none⟩) (s.size+1) S] 96);have e1:(fun c'=>E.row ((qs++ [E.succ q c]).getD qs.length 0) c')=E.row (E.succ q c):=by funext c';simp[gd_]
           unfold Hid;simp only[e1];exact h
          go_upto_region 21 with (at_builtin;refine Υ underlying98 bE bU bV bW a7 ?_;intro g6 bl w6 F A D;have aT:Hid _:=F;have aO:Hid _:=A;clear F A D);have aG:=az.out.state aQ.out bk.out aT.out aO.out;have b5:=aG.mem.cQ;have ae:Hid (d6_ W (w.heap.size+1) (z.heap.size+1) (w6.alloc (.cells #[.int .i64 (qs.length:Int)] 3)) (s.size+1) (qs.length+1) (fun i x=>E.row ((qs++ [E.succ q c]).getD i 0) x) (fun i=>if i=qs.length then I else l i) (fun i=>if i=qs.length then S else f i) (.slice (some ⟨g6,0,none⟩) (qs.length+1) bl) ac M u12 (k+1) k c (E.tab (qs++ [E.succ q c])).acc R C (pn E.succ (qs++ [E.succ q c]))):=aG.below ξ;have L:=ae.out.row;clear aG a7 az aQ aT aO aS ay;go_wp2_with (at_builtin;refine Υ underlying24 a4 bd be bf L ?_;intro g7 bo w7 F A D;have HO:Hid _:=F;have HG:Hid _:=A;have X:Hid _:=D;clear F A D);go_roundw
          case rel=>
           have af:=H.out.new o_ (by rw[ai.out];exact HN.out) (by rw[ai.out];exact aP.out);rw[ai.out]at af;have bK:pn E.succ (qs++ [E.succ q c]) k c=qs.length:=by
            simp only[pn];rw[b8_ _ _ _ K,G.out,idxOf_append,if_neg HN.out];simp
           have U:=HO.out;rw[<-bK]at U;have bA:=ae.out.put U HG.out X.out;refine⟨c+1,(qs++ [E.succ q c]),(fun i=>if i=qs.length then I else l i),(fun i=>if i=qs.length then S else f i),o_,by go_num,s_,by unfold Hid;rw[b8_ _ _ _ K];exact G.out,af, ?_⟩;rw[show(qs++ [E.succ q c]).length=qs.length+1 by simp];exact bA
          case measure=>exact c_
      . have he:c=8:=o_;subst he;obtain⟨ar,aX,rfl,a1⟩:=Β o.row;obtain⟨gr,rfl,_⟩:=a1 o_;obtain⟨y0,y1,_,_⟩:=β o.mem.bm.two.cg;have aw:Hid (d6_ W (w.heap.size+1) (z.heap.size+1) (wr.alloc (.cells #[.slice (some ⟨gr,0,none⟩) 8 aX] 24)) (s.size+1) qs.length (fun i x=>E.row (qs.getD i 0) x) l f (.slice (some ⟨gq,0,none⟩) qs.length T) ac M (.slice (some ⟨gr,0,none⟩) 8 aX) (k+1) k 8 (E.tab qs).acc R C (pn E.succ qs)):=o.below ξ;have bH:=aw.out.mem.bm.two.cA;have H:=α y;clear o y aa ab a1 an L;go_wp2_with (at_builtin;refine Υ underlying39 bD bR bS bT bH ?_;intro g2 bX w2 F A D;obtain⟨bp,bq,br,bs⟩:=β (aw.out.mem.bm.two.cN A);have HO:Hid _:=F;have HG:Hid _:=A;have X:Hid _:=D;clear F A D);go_roundw
        case rel=>
         exact⟨k+1,qs,l,f,_,_,_,_,o_,by go_num,by rw[show 8*(k+1)=8*k+8 by omega];exact H.out,aw.out.done HO.out HG.out X.out⟩
        case measure=>exact c_
  . have he:k=a.length:=o_;subst he;obtain⟨Z,rfl,rfl,hT,bw⟩:=o.bm.done (N:=E.tab a) o_ rfl (fun i hi=>rfl) (fun i c hi hc=>rfl);have a8:=Ear.numbered y;have aZ:Hid (∀x,Γ x->(E.tab a).b6 x=E.lang x):=fun x hx=>Ear.tab_accepts y x hx
    have B:=nq_ Z (E.tab a) wr aH (by show a.length<=100000000;omega) (fun i c hi hc=>a8.nx i c hi hc) hT;rw[show(E.tab a).n=a.length from rfl]at B;have bh:=α o.cz;clear o hT y aa ab bw a8 z0 z1;go_wp2_with fail;refine B.mono ?_;clear B;rintro e P ⟨O,Q,R,y,rfl,hT,hF⟩;have bM:=O.size;have a0:Hid (ch_ R E.lang):=y.dj aZ.out;have ag:Hid (Bl w P):=am.trans (O.mono (by have:=am.size;omega));have aN:Hid (P.heap[w.heap.size]? =some (.cells #[.slice none 0 0,.slice none 0 0] 41 (0,0))):=(O.block _ o_).trans ((bh.out.block _ o_).trans b0);have bi:=α hT;have bg:=α hF;clear y aZ O hT hF y0 y1 am;by_cases bG:R.n<=budget
    . have B:=si_ (some ⟨Q.ba,Q.oa,none⟩) (some ⟨Q.bn,Q.on,none⟩) R.n Q.ca R.n Q.cn (budget:Int) P o_;go_wp2_with fail;refine B.mono ?_;clear B;rintro e w7 ⟨rfl,J⟩;have bN:=J.size;have ao:Bl w w7:=ag.out.trans (J.mono (by have:=ag.out.size;omega));have d2:w7.heap[w.heap.size]? =some (.cells #[.slice none 0 0,.slice none 0 0] 41 (0,0)):=(J.block _ o_).trans aN.out;have bj:Hid _:=bi.out.below J;obtain⟨q0,q1,p0,p1⟩:=β d2;clear J;go_wp2_with fail;obtain⟨_,r2,r1⟩:=Φ (u:= .slice (some ⟨Q.ba,Q.oa,none⟩) R.n Q.ca) (v:= .slice (some ⟨Q.bn,Q.on,none⟩) R.n Q.cn) d2;refine bodyPost_ret (v:= .tuple #[.agg #[.slice (some ⟨Q.ba,Q.oa,none⟩) R.n Q.ca,.slice (some ⟨Q.bn,Q.on,none⟩) R.n Q.cn],.int .i64 0]) (by simp[results,results28,go_sem,r1,r2]) rfl ?_;exact⟨av_ ao (b:=w.heap.size) o_ _ _,.inl ⟨Q,R,by rw[<-V.out];exact a0.out,bG,rfl,bj.out.res bg.out (b:=w.heap.size) o_ _ _⟩⟩
    . have B:=sh_ (some ⟨Q.ba,Q.oa,none⟩) (some ⟨Q.bn,Q.on,none⟩) R.n Q.ca R.n Q.cn (budget:Int) P o_;go_wp2_with fail;refine B.mono ?_;clear B;rintro e w7 ⟨rfl,J⟩;have bN:=J.size;have ao:Bl w w7:=ag.out.trans (J.mono (by have:=ag.out.size;omega));have d2:w7.heap[w.heap.size]? =some (.cells #[.slice none 0 0,.slice none 0 0] 41 (0,0)):=(J.block _ o_).trans aN.out;obtain⟨q0,q1,p0,p1⟩:=β d2;clear J;go_wp2_with fail;obtain⟨_,r2,r1⟩:=Φ (u:= .slice none 0 0) (v:= .slice none 0 0) d2;refine bodyPost_ret (v:= .tuple #[.agg #[.slice none 0 0,.slice none 0 0],.int .i64 5]) (by simp[results,results28,go_sem,r1,r2]) rfl ?_;exact⟨av_ ao (b:=w.heap.size) o_ _ _,.inr ⟨rfl,R,by rw[<-V.out];exact a0.out,o_⟩⟩
theorem alp_ (s:ByteArray)(d b:Int)(w:World)(hss:s.size<=maxLen)(hne:hz_ s d b≠0):
 Calls prog 28 #[.string s,.int .i64 d,.int .i64 b] w fun e w'=>e= .returned (.tuple #[.agg #[.slice none 0 0,.slice none 0 0],.int .i64 (hz_ s d b)])/\Bl w w':=by
 obtain⟨i,l,y,-,r⟩:=ν w #[.slice none 0 0,.slice none 0 0] 41;have o:Hid _:=av_ y (b:=w.heap.size) o_ (.slice none 0 0) (.slice none 0 0);obtain⟨D,E,B,C⟩:=β r;obtain⟨_,g,f⟩:=Φ (u:= .slice none 0 0) (v:= .slice none 0 0) r;have p:Hid _:=f;have q:Hid _:=g;clear f g;have k:=ko_ s 12 i hss o_;have m:=lu_ b i;unfold hz_ at hne ⊢;cases htt:(decide (s.size<=12)&&as_ s s.size)
 . rw[htt]at k;simp only[if_true];clear htt hne m;go_enter func28,ntmps28;go_upto_region 1 with fail;rw[<-l];clear l;go_wp2_with (go_at_call 61;refine k.mono ?_;rintro e w' ⟨rfl,j⟩;obtain rfl:i=w':=j.symm);have f:=p.out;have g:=q.out;refine bodyPost_ret (v:= .tuple #[.agg #[.slice none 0 0,.slice none 0 0],.int .i64 7]) (by simp[results,results28,go_sem,f,g]) rfl ?_;exact⟨rfl,o.out⟩
 . rw[htt]at hne k;simp only[Bool.true_eq_false,if_false]at hne ⊢;have x:(d<0)\/(¬d<0/\2<d)\/(¬d<0/\¬2<d/\(decide (1<=b)&&decide (b<=40))=false):=by
    by_cases a:d<0
    . exact .inl a
    . by_cases c:2<d
      . exact .inr (.inl ⟨a,c⟩)
      . refine .inr (.inr ⟨a,c, ?_⟩);rw[if_neg o_]at hne;have A:b<1\/40<b:=by
         refine cc_ (fun h=> ?_);rw[if_neg h]at hne;exact hne rfl
        simp;omega
   have t:(if d<0\/2<d then(8:Int)else if b<1\/40<b then 8 else 0)=8:=by
    by_cases a:d<0\/2<d
    . rw[if_pos a]
    . rw[if_neg a]at hne ⊢;by_cases c:b<1\/40<b
      . rw[if_pos c]
      . rw[if_neg c]at hne;exact absurd rfl hne
   rw[t];obtain⟨z,n⟩:=δ (decide (1<=b)&&decide (b<=40));rw[n.out]at x m;clear htt hne t n;rcases x with a|⟨a,c⟩|⟨a,c,rfl⟩
   all_goals
    go_enter func28,ntmps28;go_upto_region 1 with fail;rw[<-l];clear l;go_wp2_with (first|(go_at_call 61;refine k.mono ?_;rintro e w' ⟨rfl,j⟩;obtain rfl:i=w':=j.symm)|(go_at_call 62;refine m.mono ?_;rintro e w' ⟨rfl,j⟩;obtain rfl:i=w':=j.symm));have f:=p.out;have g:=q.out;refine bodyPost_ret (v:= .tuple #[.agg #[.slice none 0 0,.slice none 0 0],.int .i64 8]) (by simp[results,results28,go_sem,f,g]) rfl ?_;exact⟨rfl,o.out⟩
end Go.Proofs.YtpngikmcjkjdaaaGreatDoor
