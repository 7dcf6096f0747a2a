import Derived.BigQuiet
import Derived.Deep.QuietTactic
import Derived.Test.YtpngikmcjkjdaaaGreatDoorA2
set_option linter.unusedVariables false
set_option linter.unusedSimpArgs false
set_option maxRecDepth 20000
set_option maxHeartbeats 80000000
namespace Go.Proofs.YtpngikmcjkjdaaaGreatDoor
open Go.RowKit Tryz List Nat
variable {g n:Nat} {f:Nat->Nat} {w w':World}
structure gj_ (w:World)(gw ga ca gn cn:Nat)(M:γ):Prop where
 p0:w.cell? ⟨gw,0,none⟩=some (.slice (some ⟨ga,0,none⟩) M.n ca)
 p1:w.cell? ⟨gw,1,none⟩=some (.slice (some ⟨gn,0,none⟩) M.n cn)
 acc:∀i,i<M.n->w.cell? ⟨ga,i,none⟩=some (.bool (M.acc i))
 cel:∀i c,i<M.n->c<8->w.cell? ⟨gn,i*8+c,none⟩=some (.int .i64 (M.nxt i c))
def dc_ (w:World)(g n:Nat)(f:Nat->Nat):Prop:=∀i,i<n->w.cell? ⟨g,i,none⟩=some (.int .i64 (f i))
theorem gj_.below {gw ga ca gn cn:Nat}{M:γ}(h:gj_ w gw ga ca gn cn M)(hb:Bl w w'):gj_ w' gw ga ca gn cn M where
 p0:=by rw[(bc_ hb).1 _ _ (Ψ h.p0)];exact h.p0
 p1:=by rw[(bc_ hb).1 _ _ (Ψ h.p1)];exact h.p1
 acc i hi:=by rw[(bc_ hb).1 _ _ (Ψ (h.acc i hi))];exact h.acc i hi
 cel i c hi hc:=by rw[(bc_ hb).1 _ _ (Ψ (h.cel i c hi hc))];exact h.cel i c hi hc
theorem dc_.below (h:dc_ w g n f)(hb:Bl w w'):dc_ w' g n f:=
 fun i hi=>by rw[(bc_ hb).1 _ _ (Ψ (h i hi))];exact h i hi
theorem dc_.set (h:dc_ w g n f){p:Addr}(hp:g≠p.block)(u:Value):dc_ (w.setCell p u) g n f:=
 fun i hi=>by rw[is_ hp];exact h i hi
def hm_ (M:γ)(f:Nat->Nat)(i j:Nat):Nat->Bool
 |0=>true
 |k+1=>hm_ M f i j k&&(f (M.nxt i k)==f (M.nxt j k))
def dd_ (M:γ)(f:Nat->Nat)(i j:Nat):Bool:=(M.acc i==M.acc j)&&hm_ M f i j 8
theorem ze_ (M:γ)(f:Nat->Nat)(i j k:Nat):hm_ M f i j k=true↔∀c,c<k->f (M.nxt i c)=f (M.nxt j c):=by
 induction k with
 |zero=>simp[hm_]
 |succ k ih=>
  simp only[hm_,Bool.and_eq_true,ih,beq_iff_eq];constructor
  . rintro⟨h,a⟩ c hc;by_cases e:c=k
    . subst e;exact a
    . exact h c o_
  . intro h;exact⟨fun c hc=>h c o_,h k o_⟩
theorem akd_ (M:γ)(f:Nat->Nat)(i j k m:Nat)(hk:k<=m)(h:hm_ M f i j k=false):hm_ M f i j m=false:=by
 rw[Bool.eq_false_iff]at h ⊢;intro a;apply h;rw[ze_]at a ⊢;exact fun c hc=>a c o_
theorem kd_ (M:γ)(f:Nat->Nat)(i j:Nat):dd_ M f i j=true↔M.acc i=M.acc j/\∀c,c<8->f (M.nxt i c)=f (M.nxt j c):=by
 simp[dd_,ze_]
theorem ake_ (gw ga ca gn cn go co gh l ch:Nat)(ho:Option Addr)(M:γ)(f:Nat->Nat)(i j:Nat)(w:World)(hM:gj_ w gw ga ca gn cn M)(hf:dc_ w go M.n f)
 (hi:i<M.n) (hj:j<M.n) (hn:M.n<=100000000) (hnx:∀i c,i<M.n->c<8->M.nxt i c<M.n):
 Calls prog 187 #[.pointer (some ⟨gw,0,none⟩),.agg #[.slice (some ⟨go,0,none⟩) M.n co,.slice ho l ch],.int .i64 i,.int .i64 j] w
  fun e w'=>e= .returned (.bool (dd_ M f i j))/\Bl w w':=by
 have d:Bl w (w.alloc (.cells #[.slice (some ⟨go,0,none⟩) M.n co,.slice ho l ch] 215)):=
  μ.alloc ι _
 have a:=hM.below d;have m:=hf.below d;have B:=a.p0;have C:=a.p1;have s:=a.acc i hi;have t:=a.acc j hj;clear hM hf;by_cases b:M.acc i=M.acc j
 . have r:(M.acc i !=M.acc j)=false:=by simp[b]
   rw[show dd_ M f i j=hm_ M f i j 8 by simp[dd_,b]];rw[b]at s r;clear b;go_enter func187,ntmps187;go_wp2
   go_quiet (fail);go_wp2
   go_loopw [9] (fun k' wr=>∃k:Nat,∃q:Nat,k<=8/\k'= .int .i64 k/\hm_ M f i j k=true/\
    wr=(w.alloc (.cells #[.slice (some ⟨go,0,none⟩) M.n co,.slice ho l ch] 215)).drewN q)
    (fun k' _=>8 - (intOf k').toNat)
   case atStart=>exact⟨0,_,o_,rfl,rfl,rfl⟩
   case round=>
    obtain⟨k,q,A,rfl,h,rfl⟩:=hrel;clear s t r;by_cases p:k<8
    . have y:=a.cel i k hi p;have z:=a.cel j k hj p;have v:=hnx i k hi p;have x:=hnx j k hj p;have d1:=m _ v;have d2:=m _ x;by_cases o:f (M.nxt i k)=f (M.nxt j k)
      . have g:Hid (hm_ M f i j (k+1)=true):=by simp[Hid,hm_,h,o]
        have u:(((f (M.nxt j k):Nat):Int) !=((f (M.nxt j k):Nat):Int))=false:=i_;rw[o]at d1;clear h a m hnx o;go_wp2_with fail;go_quiet (fail);go_wp2
        go_roundw
        case rel=>exact⟨k+1,_,o_,by go_num,g.out,rfl⟩
        case measure=>exact c_
      . have g:Hid (hm_ M f i j 8=false):=akd_ M f i j (k+1) 8 o_ (by simp[hm_,o]);have u:(((f (M.nxt i k):Nat):Int)==((f (M.nxt j k):Nat):Int))=false:=s_;clear h a m hnx o;go_wp2_with fail;go_quiet (fail);go_wp2
        go_ret;exact⟨b6_ g.out.symm,below_drewN (below_drewN d _) _⟩
    . have e:k=8:=o_;subst e;have g:=α h;clear h a m hnx;go_wp2
      go_ret;exact⟨b6_ g.out.symm,below_drewN d _⟩
 . have r:(M.acc i==M.acc j)=false:=by simp[b]
   rw[show dd_ M f i j=false by simp[dd_,b]];clear b;go_enter func187,ntmps187;go_wp2
   go_quiet (fail);go_wp2
   go_ret;exact⟨rfl,below_drewN d _⟩
theorem akf_ (gw ga ca gn cn go co l0 c0 gh l ch:Nat)(h0 ho:Option Addr)(M:γ)(f hd:Nat->Nat)(i:Nat)(w:World)(hM:gj_ w gw ga ca gn cn M)(hf:dc_ w go M.n f)
 (hho:0<l->ho=some ⟨gh,0,none⟩) (hh:dc_ w gh l hd) (hl:l<=100000000) (hhd:∀c,c<l->hd c<M.n)
 (hi:i<M.n) (hn:M.n<=100000000) (hnx:∀i c,i<M.n->c<8->M.nxt i c<M.n):
 Calls prog 181 #[.pointer (some ⟨gw,0,none⟩),.agg #[.slice (some ⟨go,0,none⟩) M.n co,.slice h0 l0 c0],.slice ho l ch,.int .i64 i] w
  fun e w'=>(∃r:Nat,r<=l/\(∀c,c<r->dd_ M f (hd c) i=false)/\(r<l->dd_ M f (hd r) i=true)/\e= .returned (.int .i64 r))/\Bl w w':=by
 have s:Bl w (w.alloc (.cells #[.slice (some ⟨go,0,none⟩) M.n co,.slice h0 l0 c0] 215)):=
  μ.alloc ι _
 go_enter func181,ntmps181;go_wp2
 go_loopw [9,10,13] (fun _ _ k' wr=>∃k:Nat,k<=l/\k'= .int .i64 k/\(∀c,c<k->dd_ M f (hd c) i=false)/\
  Below (w.heap.size+1) (w.alloc (.cells #[.slice (some ⟨go,0,none⟩) M.n co,.slice h0 l0 c0] 215)) wr)
  (fun _ _ k' _=>l - (intOf k').toNat)
 case atStart=>exact⟨0,o_,rfl,by intro c v;omega,μ⟩
 case round=>
  obtain⟨k,A,rfl,j,a⟩:=hrel;have b:=η s a;have y:=a.cell (p:=⟨w.heap.size,0,none⟩) i_;have z:=a.cell (p:=⟨w.heap.size,1,none⟩) i_;simp at y z;by_cases q:k<l
  . obtain rfl:=hho o_;have B:=hh.below b k q;have x:=hhd k q;have d:=ake_ gw ga ca gn cn go co 0 l0 c0 h0 M f (hd k) i wr (hM.below b) (hf.below b) x hi hn hnx;have g:=α j;have t:=α a;have u:w.heap.size+1<=wr.heap.size:=by have:=a.size;simp at this;omega
    clear j a hh hhd hf hM hnx hho;cases hv:dd_ M f (hd k) i
    . rw[hv]at d;have m:=α hv;clear hv;go_wp2_with (go_at_call 187;refine d.mono ?_;rintro e w' ⟨rfl,o⟩);go_roundw
      case rel=>
       refine⟨k+1,o_,by go_num, ?_,t.out.trans (o.mono u)⟩;intro c v;by_cases e:c=k
       . subst e;exact m.out
       . exact g.out c o_
      case measure=>exact c_
    . rw[hv]at d;have m:=α hv;clear hv;go_wp2_with (go_at_call 187;refine d.mono ?_;rintro e w' ⟨rfl,o⟩);go_ret;exact⟨⟨k,o_,g.out,fun _=>m.out,rfl⟩,b.trans (o.mono o_)⟩
  . have e:k=l:=o_;subst e;have g:=α j;clear j a hh hhd hf hM hnx hho;go_wp2
    go_ret;exact⟨⟨k,o_,g.out,fun h=>absurd h o_,rfl⟩,b⟩
end Go.Proofs.YtpngikmcjkjdaaaGreatDoor
