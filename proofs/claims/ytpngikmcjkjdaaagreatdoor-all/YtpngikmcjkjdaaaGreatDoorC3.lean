import Derived.BigQuiet
import Derived.Deep.QuietTactic
import Derived.Test.YtpngikmcjkjdaaaGreatDoorC2
set_option linter.unusedVariables false
set_option linter.unusedSimpArgs false
set_option maxRecDepth 20000
set_option maxHeartbeats 80000000
namespace Go.Proofs.YtpngikmcjkjdaaaGreatDoor
open Go.RowKit Tryz List Nat
variable {how:Int} {a b hs hs' l os ps:List Nat} {L:List Nat->Bool} {c g i j k m n p q s t:Nat} {f f':Nat->Nat} {o:Obj} {w w':World}
structure gj_ (w:World)(gw ga ca gn cn:Nat)(M:γ):Prop where
 p0:w.cell? ⟨gw,0,none⟩=some (.slice (some ⟨ga,0,none⟩) M.n ca)
 p1:w.cell? ⟨gw,1,none⟩=some (.slice (some ⟨gn,0,none⟩) M.n cn)
 acc:∀i,i<M.n->w.cell? ⟨ga,i,none⟩=some (.bool (M.acc i))
 cT:∀i c,i<M.n->c<8->w.cell? ⟨gn,i*8+c,none⟩=some (.int .i64 (M.b7 i c))
def dc_ (w:World)(g n:Nat)(f:Nat->Nat):Prop:=∀i,i<n->w.cell? ⟨g,i,none⟩=some (.int .i64 (f i))
theorem gj_.below {gw ga ca gn cn:Nat}{M:γ}(h:gj_ w gw ga ca gn cn M)(hb:Bl w w'):gj_ w' gw ga ca gn cn M where
 p0:=by rw[(bc_ hb).1 _ _ (Χ h.p0)];exact h.p0
 p1:=by rw[(bc_ hb).1 _ _ (Χ h.p1)];exact h.p1
 acc i hi:=by rw[(bc_ hb).1 _ _ (Χ (h.acc i hi))];exact h.acc i hi
 cT i c hi hc:=by rw[(bc_ hb).1 _ _ (Χ (h.cT i c hi hc))];exact h.cT i c hi hc
theorem dc_.below (h:dc_ w g n f)(hb:Bl w w'):dc_ w' g n f:=
 fun i hi=>by rw[(bc_ hb).1 _ _ (Χ (h i hi))];exact h i hi
theorem dc_.set (h:dc_ w g n f){p:Addr}(hp:g≠p.block)(u:Value):dc_ (w.setCell p u) g n f:=
 fun i hi=>by rw[ir_ hp];exact h i hi
def hl_ (M:γ)(f:Nat->Nat)(i j:Nat):Nat->Bool
 |0=>true
 |k+1=>hl_ M f i j k&&(f (M.b7 i k)==f (M.b7 j k))
def dd_ (M:γ)(f:Nat->Nat)(i j:Nat):Bool:=(M.acc i==M.acc j)&&hl_ M f i j 8
theorem zc_ (M:γ)(f:Nat->Nat)(i j k:Nat):hl_ M f i j k=true↔∀c,c<k->f (M.b7 i c)=f (M.b7 j c):=by
 induction k with
 |zero=>simp[hl_]
 |succ k ih=>
  simp only[hl_,Bool.and_eq_true,ih,beq_iff_eq];constructor
  . rintro⟨h,a⟩ c hc;by_cases e:c=k
    . subst e;exact a
    . exact h c o_
  . intro h;exact⟨fun c hc=>h c o_,h k o_⟩
theorem akn_ (M:γ)(f:Nat->Nat)(i j k m:Nat)(hk:k<=m)(h:hl_ M f i j k=false):hl_ M f i j m=false:=by
 rw[Bool.eq_false_iff]at h ⊢;intro a;apply h;rw[zc_]at a ⊢;exact fun c hc=>a c o_
theorem kc_ (M:γ)(f:Nat->Nat)(i j:Nat):dd_ M f i j=true↔M.acc i=M.acc j/\∀c,c<8->f (M.b7 i c)=f (M.b7 j c):=by
 simp[dd_,zc_]
theorem ako_ (gw ga ca gn cn go co gh l ch:Nat)(ho:Option Addr)(M:γ)(f:Nat->Nat)(i j:Nat)(w:World)(hM:gj_ w gw ga ca gn cn M)(hf:dc_ w go M.n f)
 (hi:i<M.n) (hj:j<M.n) (hn:M.n<=100000000) (hnx:∀i c,i<M.n->c<8->M.b7 i c<M.n):
 Calls prog 187 #[.pointer (some ⟨gw,0,none⟩),.agg #[.slice (some ⟨go,0,none⟩) M.n co,.slice ho l ch],.int .i64 i,.int .i64 j] w
  fun e w'=>e= .returned (.bool (dd_ M f i j))/\Bl w w':=by
 have d:Bl w (w.alloc (.cells #[.slice (some ⟨go,0,none⟩) M.n co,.slice ho l ch] 215)):=
  μ.alloc ι _
 have a:=hM.below d;have m:=hf.below d;have B:=a.p0;have C:=a.p1;have s:=a.acc i hi;have t:=a.acc j hj;clear hM hf;by_cases b:M.acc i=M.acc j
 . have r:(M.acc i !=M.acc j)=false:=by simp[b]
   rw[show dd_ M f i j=hl_ M f i j 8 by simp[dd_,b]];rw[b]at s r;clear b;go_enter func187,ntmps187;go_wp2
   go_quiet (fail);go_wp2
   go_loopw [9] (fun k' wr=>∃k:Nat,∃q:Nat,k<=8/\k'= .int .i64 k/\hl_ M f i j k=true/\
    wr=(w.alloc (.cells #[.slice (some ⟨go,0,none⟩) M.n co,.slice ho l ch] 215)).drewN q)
    (fun k' _=>8 - (intOf k').toNat)
   case atStart=>exact⟨0,_,o_,rfl,rfl,rfl⟩
   case round=>
    obtain⟨k,q,A,rfl,h,rfl⟩:=hrel;clear s t r;by_cases p:k<8
    . have y:=a.cT i k hi p;have z:=a.cT j k hj p;have v:=hnx i k hi p;have x:=hnx j k hj p;have d1:=m _ v;have d2:=m _ x;by_cases o:f (M.b7 i k)=f (M.b7 j k)
      . have g:Hid (hl_ M f i j (k+1)=true):=by simp[Hid,hl_,h,o]
        have u:(((f (M.b7 j k):Nat):Int) !=((f (M.b7 j k):Nat):Int))=false:=i_;rw[o]at d1;clear h a m hnx o;go_wp2_with fail;go_quiet (fail);go_wp2
        go_roundw
        case rel=>exact⟨k+1,_,o_,by go_num,g.out,rfl⟩
        case measure=>exact c_
      . have g:Hid (hl_ M f i j 8=false):=akn_ M f i j (k+1) 8 o_ (by simp[hl_,o]);have u:(((f (M.b7 i k):Nat):Int)==((f (M.b7 j k):Nat):Int))=false:=s_;clear h a m hnx o;go_wp2_with fail;go_quiet (fail);go_wp2
        go_ret;exact⟨b6_ g.out.symm,below_drewN (below_drewN d _) _⟩
    . have e:k=8:=o_;subst e;have g:=α h;clear h a m hnx;go_wp2
      go_ret;exact⟨b6_ g.out.symm,below_drewN d _⟩
 . have r:(M.acc i==M.acc j)=false:=by simp[b]
   rw[show dd_ M f i j=false by simp[dd_,b]];clear b;go_enter func187,ntmps187;go_wp2
   go_quiet (fail);go_wp2
   go_ret;exact⟨rfl,below_drewN d _⟩
theorem akp_ (gw ga ca gn cn go co l0 c0 gh l ch:Nat)(h0 ho:Option Addr)(M:γ)(f hd:Nat->Nat)(i:Nat)(w:World)(hM:gj_ w gw ga ca gn cn M)(hf:dc_ w go M.n f)
 (hho:0<l->ho=some ⟨gh,0,none⟩) (hh:dc_ w gh l hd) (hl:l<=100000000) (hhd:∀c,c<l->hd c<M.n)
 (hi:i<M.n) (hn:M.n<=100000000) (hnx:∀i c,i<M.n->c<8->M.b7 i c<M.n):
 Calls prog 181 #[.pointer (some ⟨gw,0,none⟩),.agg #[.slice (some ⟨go,0,none⟩) M.n co,.slice h0 l0 c0],.slice ho l ch,.int .i64 i] w
  fun e w'=>(∃r:Nat,r<=l/\(∀c,c<r->dd_ M f (hd c) i=false)/\(r<l->dd_ M f (hd r) i=true)/\e= .returned (.int .i64 r))/\Bl w w':=by
 have s:Bl w (w.alloc (.cells #[.slice (some ⟨go,0,none⟩) M.n co,.slice h0 l0 c0] 215)):=
  μ.alloc ι _
 go_enter func181,ntmps181;go_wp2
 go_loopw [9,10,13] (fun _ _ k' wr=>∃k:Nat,k<=l/\k'= .int .i64 k/\(∀c,c<k->dd_ M f (hd c) i=false)/\
  Below (w.heap.size+1) (w.alloc (.cells #[.slice (some ⟨go,0,none⟩) M.n co,.slice h0 l0 c0] 215)) wr)
  (fun _ _ k' _=>l - (intOf k').toNat)
 case atStart=>exact⟨0,o_,rfl,by intro c v;omega,μ⟩
 case round=>
  obtain⟨k,A,rfl,j,a⟩:=hrel;have b:=η s a;have y:=a.cell (p:=⟨w.heap.size,0,none⟩) i_;have z:=a.cell (p:=⟨w.heap.size,1,none⟩) i_;simp at y z;by_cases q:k<l
  . obtain rfl:=hho o_;have B:=hh.below b k q;have x:=hhd k q;have d:=ako_ gw ga ca gn cn go co 0 l0 c0 h0 M f (hd k) i wr (hM.below b) (hf.below b) x hi hn hnx;have g:=α j;have t:=α a;have u:w.heap.size+1<=wr.heap.size:=by have:=a.size;simp at this;omega
    clear j a hh hhd hf hM hnx hho;cases hv:dd_ M f (hd k) i
    . rw[hv]at d;have m:=α hv;clear hv;go_wp2_with (go_at_call 187;refine d.mono ?_;rintro e w' ⟨rfl,o⟩);go_roundw
      case rel=>
       refine⟨k+1,o_,by go_num, ?_,t.out.trans (o.mono u)⟩;intro c v;by_cases e:c=k
       . subst e;exact m.out
       . exact g.out c o_
      case measure=>exact c_
    . rw[hv]at d;have m:=α hv;clear hv;go_wp2_with (go_at_call 187;refine d.mono ?_;rintro e w' ⟨rfl,o⟩);go_ret;exact⟨⟨k,o_,g.out,fun _=>m.out,rfl⟩,b.trans (o.mono o_)⟩
  . have e:k=l:=o_;subst e;have g:=α j;clear j a hh hhd hf hM hnx hho;go_wp2
    go_ret;exact⟨⟨k,o_,g.out,fun h=>absurd h o_,rfl⟩,b⟩
structure Cls (n:Nat)(f:Nat->Nat)(hs:List Nat):Prop where
 lt:∀i,i<n->f i<hs.length
 le:∀i,i<n->hs.getD (f i) 0<=i
 hd:∀c,c<hs.length->hs.getD c 0<n/\f (hs.getD c 0)=c
 inc:hs.Pairwise (·<·)
theorem akq_ (M:γ)(f:Nat->Nat)(i:Nat):dd_ M f i i=true:=by rw[kc_];exact⟨rfl,fun _ _=>rfl⟩
theorem zd_ {M:γ}(h:dd_ M f i j=true):dd_ M f j i=true:=by
 rw[kc_]at h ⊢;exact⟨h.1.symm,fun c hc=>(h.2 c hc).symm⟩
theorem sw_ {M:γ}(h:dd_ M f i j=true)(h':dd_ M f j k=true):dd_ M f i k=true:=by
 rw[kc_]at h h' ⊢;exact⟨h.1.trans h'.1,fun c hc=>(h.2 c hc).trans (h'.2 c hc)⟩
structure eu_ (M:γ)(f:Nat->Nat)(s:Nat)(os hs:List Nat):Prop where
 len:os.length=s
 cls:Cls s (fun i=>os.getD i 0) hs
 yes:∀i,i<s->dd_ M f (hs.getD (os.getD i 0) 0) i=true
 no:∀i c,i<s->c<os.getD i 0->dd_ M f (hs.getD c 0) i=false
theorem eu_.nil (M:γ)(f:Nat->Nat):eu_ M f 0 [] []:=by
 refine⟨rfl,⟨?_, ?_, ?_,i_⟩, ?_, ?_⟩<;>intros<;>first|omega|simp_all
theorem qb_ (l:List Nat)(x i:Nat)(h:i<l.length):(l++ [x]).getD i 0=l.getD i 0:=by
 simp[gd_,gl_ h]
theorem nx_ (l:List Nat)(x:Nat):(l++ [x]).getD l.length 0=x:=by
 simp[gd_]
theorem eu_.old {M:γ}(h:eu_ M f s os hs)(r:Nat)(hr:r<hs.length)(hy:dd_ M f (hs.getD r 0) s=true)(hn:∀c,c<r->dd_ M f (hs.getD c 0) s=false):
 eu_ M f (s+1) (os++ [r]) hs:=by
 have j:=h.len;have b:∀i,i<s->(os++ [r]).getD i 0=os.getD i 0:=fun i g=>qb_ os r i o_
 have d:(os++ [r]).getD s 0=r:=by rw[<-j];exact nx_ os r
 refine⟨by simp[j],⟨?_, ?_, ?_,h.cls.inc⟩, ?_, ?_⟩
 . intro i g;show(os++ [r]).getD i 0<_
   by_cases e:i=s
   . subst e;rw[d];exact hr
   . rw[b i o_];exact h.cls.lt i o_
 . intro i g;show hs.getD ((os++ [r]).getD i 0) 0<=i
   by_cases e:i=s
   . subst e;rw[d];have:=(h.cls.hd r hr).1;omega
   . rw[b i o_];exact h.cls.le i o_
 . intro c a;have:=h.cls.hd c a;refine⟨o_, ?_⟩;show(os++ [r]).getD (hs.getD c 0) 0=c
   rw[b _ this.1];exact this.2
 . intro i g;by_cases e:i=s
   . subst e;rw[d];exact hy
   . rw[b i o_];exact h.yes i o_
 . intro i c g a;by_cases e:i=s
   . subst e;rw[d]at a;exact hn c a
   . rw[b i o_]at a;exact h.no i c o_ a
theorem eu_.new {M:γ}(h:eu_ M f s os hs)(hn:∀c,c<hs.length->dd_ M f (hs.getD c 0) s=false):
 eu_ M f (s+1) (os++ [hs.length]) (hs++ [s]):=by
 have p:=h.len;have g:∀i,i<s->(os++ [hs.length]).getD i 0=os.getD i 0:=fun i l=>qb_ os _ i o_
 have j:(os++ [hs.length]).getD s 0=hs.length:=by rw[<-p];exact nx_ os _
 have k:∀c,c<hs.length->(hs++ [s]).getD c 0=hs.getD c 0:=fun c d=>qb_ hs s c d
 have m:(hs++ [s]).getD hs.length 0=s:=nx_ hs s;refine⟨by simp[p],⟨?_, ?_, ?_, ?_⟩, ?_, ?_⟩
 . intro i l;show(os++ [hs.length]).getD i 0<_
   by_cases e:i=s
   . subst e;rw[j];simp
   . rw[g i o_,Μ];have:os.getD i 0<hs.length:=h.cls.lt i o_;simp only[ls_];omega
 . intro i l;show(hs++ [s]).getD ((os++ [hs.length]).getD i 0) 0<=i
   by_cases e:i=s
   . subst e;rw[j,m];exact ι
   . rw[g i o_,k _ (h.cls.lt i o_)];exact h.cls.le i o_
 . intro c d;by_cases e:c=hs.length
   . subst e;rw[m];exact⟨o_,j⟩
   . have o:c<hs.length:=by simp at d;omega
     have:=h.cls.hd c o;rw[k c o];exact⟨o_,(g _ this.1).trans this.2⟩
 . rw[pairwise_append];refine⟨h.cls.inc,i_, ?_⟩;intro a q b n;simp at n;subst n;obtain⟨c,d,rfl⟩:=getElem_of_mem q;have:=(h.cls.hd c d).1;rw[gd_,ge_ d]at this;exact this
 . intro i l;by_cases e:i=s
   . subst e;rw[j,m];exact akq_ M f i
   . rw[g i o_,k _ (h.cls.lt i o_)];exact h.yes i o_
 . intro i c l d;by_cases e:i=s
   . subst e;rw[j]at d;rw[k c d];exact hn c d
   . rw[g i o_]at d;rw[k c (by have:=h.cls.lt i o_;omega)];exact h.no i c o_ d
theorem eu_.same {M:γ}(h:eu_ M f s os hs)(i j:Nat)(hi:i<s)(hj:j<s):os.getD i 0=os.getD j 0↔dd_ M f i j=true:=by
 constructor
 . intro e;have a:=h.yes i hi;have b:=h.yes j hj;rw[e]at a;exact sw_ (zd_ a) b
 . intro e;rcases Nat.lt_trichotomy (os.getD i 0) (os.getD j 0)with hlt|heq|hgt
   . have:=h.no j _ hj hlt;rw[sw_ (h.yes i hi) e]at this;cases this
   . exact heq
   . have:=h.no i _ hi hgt;rw[sw_ (h.yes j hj) (zd_ e)]at this;cases this
theorem eu_.ff {M:γ}(h:eu_ M f s os hs)(c d:Nat)(hcd:c<d)(hd:d<hs.length):dd_ M f (hs.getD c 0) (hs.getD d 0)=false:=by
 have:=h.cls.hd d hd;exact h.no _ c this.1 (by rw[this.2];exact hcd)
def du_ (l:List Nat):List Value:=l.map fun k:Nat=> .int .i64 (k:Int)
theorem ο (h:k=w.heap.size):(w.alloc o).heap[k]? =some o:=by subst h;exact heap_alloc_new w o
theorem φ {o':Obj}(h:w.heap[k]? =some o'):(w.alloc o).heap[k]? =some o':=by rw[Below.heap_alloc w o k (κ h)];exact h
theorem akr_ (w:World)(a:Addr)(u v:Value)(t:TypeId):∀j x,[v][j]? =some x->((w.setCell a u).alloc (.cells #[v] t)).cell? ((⟨w.heap.size,0,none⟩:Addr).add j)=some x:=by
 have h:=cell_one_new (w.setCell a u) v t;have b:(w.setCell a u).heap.size=w.heap.size:=by simp[World.setCell]
 rw[b]at h;exact h
theorem md_ (l:List Nat)(x:Nat):du_ l++ [.int .i64 (x:Int)]=du_ (l++ [x]):=by simp[du_]
theorem ld_ (hl:l.length=n)(h:∀j,j<n*1->w.cell? ⟨g,j,none⟩=(du_ l)[j]?):dc_ w g n (fun i=>l.getD i 0):=by
 intro i a;rw[h i o_];simp[du_,gd_,ge_ (show i<l.length by omega)]
theorem e9_:(prog.info? 3).map (fun i=>(i.zero,i.size,i.bytes))=some (some (.int .i64 0),1,8):=k_
def aks_ (M:γ)(f:Nat->Nat)(b8:Nat)(w:World)(e:Ending)(w':World):Prop:=
 Bl w w'/\∃vo gh ch os hs,e= .returned (.agg #[vo,.slice (some ⟨gh,0,none⟩) hs.length ch])/\w.heap.size<=gh/\dc_ w' gh hs.length (fun i=>hs.getD i 0)/\
  ((hs.length<=b8/\(∃go co,vo= .slice (some ⟨go,0,none⟩) M.n co/\w.heap.size<=go/\dc_ w' go M.n (fun i=>os.getD i 0))/\eu_ M f M.n os hs)\/
   (hs.length=b8+1/\(∃ao lo co,vo= .slice ao lo co)/\(∀c,c<hs.length->hs.getD c 0<M.n)/\∀c d,c<d->d<hs.length->dd_ M f (hs.getD c 0) (hs.getD d 0)=false))
theorem akt_ (gw ga ca gn cn go co l0 c0:Nat)(h0:Option Addr)(M:γ)(f:Nat->Nat)(b8:Nat)(w:World)(hM:gj_ w gw ga ca gn cn M)(hf:dc_ w go M.n f)
 (hm0:1<=b8) (hm1:b8<=40) (hn0:1<=M.n) (hn:M.n<=100000000) (hnx:∀i c,i<M.n->c<8->M.b7 i c<M.n):
 Calls prog 166 #[.pointer (some ⟨gw,0,none⟩),.agg #[.slice (some ⟨go,0,none⟩) M.n co,.slice h0 l0 c0],.int .i64 b8] w
  (aks_ M f b8 w):=by
 obtain⟨i0,I,S,T,U⟩:=info_parts e9_;obtain⟨W,O,V,-,k4,k5⟩:=fe_ w #[.slice (some ⟨go,0,none⟩) M.n co,.slice h0 l0 c0] 215 #[.slice none 0 0,.slice none 0 0] 215 #[.slice none 0 0,.slice none 0 0] 215
 have k2:W.cell? ⟨w.heap.size,0,none⟩=some (.slice (some ⟨go,0,none⟩) M.n co):=by rw[O];simp[go_sem]
 have k3:W.cell? ⟨w.heap.size,1,none⟩=some (.slice h0 l0 c0):=by rw[O];simp[go_sem]
 go_enter func166,ntmps166;go_wp2
 rw[<-O];clear O;have T0:cd_ W (w.heap.size+1+1) 215 3 1 3 1 W (.slice none 0 0) (.slice none 0 0) 0 0 [] []:=
  ⟨μ,k5,a8_,a8_,by intro g h;simp[Value.ownBlock]at h⟩
 go_loopw [8,9] (fun st _ wr=>∃s:Nat,∃l b:List Nat,∃vo vh:Value,s<=M.n/\st= .int .i64 s/\b.length<=b8/\eu_ M f s l b/\
  cd_ W (w.heap.size+1+1) 215 3 1 3 1 wr vo vh s b.length (du_ l) (du_ b))
  (fun st _ _=>M.n - (intOf st).toNat)
 case atStart=>exact⟨0,[],[],_,_,o_,rfl,i_,eu_.nil M f,T0⟩
 case round=>
  obtain⟨s,l,b,vo,vh,aH,rfl,aq,hrel,C⟩:=hrel;clear T0;have L:Below (w.heap.size+1+1) W wr:=C.cz;have P:=η V L;have x0:=(hM.below P).p0;have x2:=(L.cell (p:=⟨w.heap.size,0,none⟩) l_).trans k2;have x3:=(L.cell (p:=⟨w.heap.size,1,none⟩) l_).trans k3;obtain⟨y0,y1,z0,z1⟩:=β C.cg;have hq:wr.heap[w.heap.size+1]? =some (.cells #[.slice none 0 0,.slice none 0 0] 215 (0,0)):=(L.block _ o_).trans k4;obtain⟨q0,q1,p0,p1⟩:=β hq;obtain⟨q,x,rfl,ac⟩:=Β C.cA;obtain⟨t,o,rfl,an⟩:=Β C.cB;have hl:=hrel.cls.hd;by_cases aA:s<M.n
  . obtain⟨G,ae⟩:∃G,(0<b.length->q=some ⟨G,0,none⟩)/\dc_ wr G b.length (fun i=>b.getD i 0):=by
     by_cases h0:0<b.length
     . obtain⟨g,N,D⟩:=ac h0;exact⟨g,fun _=>N,ld_ rfl D⟩
     . exact⟨0,fun h=>absurd h h0,fun i I=>absurd I o_⟩
    have HC:=akp_ gw ga ca gn cn go co l0 c0 G b.length x h0 q M f (fun i=>b.getD i 0) s wr (hM.below P) (hf.below P) ae.1 ae.2 o_ (fun c D=>by have:=(hl c D).1;omega) aA hn hnx;have y:=α C;have E:Hid (eu_ M f s l b):=hrel;clear C hrel hM hf hnx ac an hl ae;go_wp2_with fail;refine HC.mono ?_;rintro e H ⟨⟨r,hr,ar,av,rfl⟩,hb1⟩;clear HC x0 x2 x3 y0 y1 z0 z1 hq q0 q1 p0 p1;have K:=y.out.below hb1;have ad:Below (w.heap.size+1+1) W H:=K.cz;have X:=α ar;have aw:=α av;clear ar av y;have x2:=(ad.cell (p:=⟨w.heap.size,0,none⟩) l_).trans k2;have x3:=(ad.cell (p:=⟨w.heap.size,1,none⟩) l_).trans k3;obtain⟨y0,y1,z0,z1⟩:=β K.cg;have aI:=κ K.cg;have y:=α K;clear K hb1 ad P L;by_cases au:r<b.length
    . have aF:((r:Int)==(b.length:Int))=false:=s_;have F:=y.out.below (μ.alloc ι (.cells #[.int .i64 (r:Int)] 3));have Q:=F.cB;have ax:w.heap.size+1+1+1<=(H.alloc (.cells #[.int .i64 (r:Int)] 3)).heap.size:=s_;have z:=α F;clear F;go_wp2_with (at_builtin;refine Υ underlying24 I S T U Q ?_;intro g d k B m A;obtain⟨af,ag,ai,aj⟩:=β (z.out.cM m));go_roundw
      case rel=>
       have J:=z.out.eE B m A;rw[show du_ l++ [.int .i64 (r:Int)]=du_ (l++ [r])from md_ l r]at J;exact⟨s+1,l++ [r],b,_,_,o_,by go_num,aq,E.out.old r au (aw.out au) X.out,J⟩
      case measure=>exact c_
    . have aC:r=b.length:=o_;subst aC;have F:=y.out.below (μ.alloc ι (.cells #[.int .i64 (s:Int)] 3));have Q:=F.cA;have ax:w.heap.size+1+1+1<=(H.alloc (.cells #[.int .i64 (s:Int)] 3)).heap.size:=s_;have z:=α F;clear F;have Y:∀g d k,k.ownsRow (w.heap.size+1+1+1) 3 1 (.slice (some ⟨g,0,none⟩) (b.length+1) d) (b.length+1) (du_ b++ [.int .i64 (s:Int)])->
       (H.alloc (.cells #[.int .i64 (s:Int)] 3)).grownBy k (Value.slice q b.length x).ownBlock->((Value.slice q b.length x).ownBlock=some g\/g=(H.alloc (.cells #[.int .i64 (s:Int)] 3)).heap.size)->
       Hid (cd_ W (w.heap.size+1+1) 215 3 1 3 1 ((k.setCell ⟨w.heap.size+1+1,1,none⟩ (.slice (some ⟨g,0,none⟩) (b.length+1) d)).alloc (.cells #[.int .i64 (b.length:Int)] 3))
        (.slice t s o) (.slice (some ⟨g,0,none⟩) (b.length+1) d) s (b.length+1) (du_ l) (du_ b++ [.int .i64 (s:Int)])):=fun g d k ho N hf=>
       (z.out.eD ho N hf).below ξ
      have q2:∀g d k,k.ownsRow (w.heap.size+1+1+1) 3 1 (.slice (some ⟨g,0,none⟩) (b.length+1) d) (b.length+1) (du_ b++ [.int .i64 (s:Int)])->
       (H.alloc (.cells #[.int .i64 (s:Int)] 3)).grownBy k (Value.slice q b.length x).ownBlock->((Value.slice q b.length x).ownBlock=some g\/g=(H.alloc (.cells #[.int .i64 (s:Int)] 3)).heap.size)->
       k.heap[w.heap.size+1]? =some (.cells #[.slice none 0 0,.slice none 0 0] 215 (0,0)):=fun g d k ho N hf=>by
       have h1:=N.block (w.heap.size+1) s_ (fun e=>by have:=(z.out.cA.lt _ e.symm).1;omega);rw[h1,z.out.cz.block _ o_];exact k4
      by_cases aG:b.length+1<=b8
      . go_wp2_with (first|(at_builtin;refine Υ underlying24 I S T U Q ?_;intro g d k B m A;obtain⟨af,ag,ai,aj⟩:=β (z.out.cN m);have R:=q2 g d k B m A;obtain⟨q0,q1,p0,p1⟩:=β R)|(at_builtin;refine jh_ _ rfl _ _ 24 rfl (w.heap.size+1+1+1) 3 i0 (.int .i64 0) 1 8 underlying24 I S T U rfl d_ _ s (du_ l) rfl (Y g d k B m A).out.cB ⟨k.heap.size,0,none⟩ 1 1 [.int .i64 (b.length:Int)] rfl rfl (akr_ _ _ _ _ _) (gt_ rfl) d_ u_ o_ (by have:=m.size;simp at this ⊢;omega) ?_;intro g2 aE w3 aB ap ay;obtain⟨af,ag,ai,aj⟩:=β ((Y g d k B m A).out.cM ap)));go_roundw
        case rel=>
         have J:=(Y g d k B m A).out.eE aB ap ay;rw[show du_ l++ [.int .i64 (b.length:Int)]=du_ (l++ [b.length])from md_ l _,show du_ b++ [.int .i64 (s:Int)]=du_ (b++ [s])from md_ b _]at J;exact⟨s+1,l++ [b.length],b++ [s],_,_,o_,by go_num,s_,E.out.new X.out,by simpa using J⟩
        case measure=>exact c_
      . go_wp2_with (at_builtin;refine Υ underlying24 I S T U Q ?_;intro g d k B m A;obtain⟨af,ag,ai,aj⟩:=β (z.out.cN m);have R:=q2 g d k B m A;obtain⟨q0,q1,p0,p1⟩:=β R);obtain⟨r1,r2,r3⟩:=Φ (u:= .slice t s o) (v:= .slice (some ⟨g,0,none⟩) (b.length+1) d) (a3_ (a:=⟨w.heap.size+1+1,1,none⟩) (u:= .slice (some ⟨g,0,none⟩) (b.length+1) d) R i_);refine bodyPost_ret (v:= .agg #[.slice t s o,.slice (some ⟨g,0,none⟩) (b.length+1) d]) (by simp[results,results166,go_sem,r1,r2]) rfl ?_;have ab:=z.out.eD B m A;have Z:=(ab.cz.mono (B':=w.heap.size+1) o_).setCell (p:=⟨w.heap.size+1,0,none⟩) ι (.slice t s o);have aa:=Z.setCell (p:=⟨w.heap.size+1,1,none⟩) ι (.slice (some ⟨g,0,none⟩) (b.length+1) d);have hO:=ownsRow_setCell_below (ownsRow_setCell_below ab.cA (a:=⟨w.heap.size+1,0,none⟩) i_ (.slice t s o)) (a:=⟨w.heap.size+1,1,none⟩) i_ (.slice (some ⟨g,0,none⟩) (b.length+1) d);have hN:=E.out.new X.out;have D:=hO.cellAt;rw[md_]at D;refine⟨V.trans (aa.mono o_),.slice t s o,g,d,l,b++ [s],i_,by have:=(ab.cA.lt g rfl).1;omega, ?_,.inr ⟨s_,⟨_,_,_,rfl⟩,fun c D=> ?_,hN.ff⟩⟩
        . exact ld_ rfl (fun j hj=>D j (by simpa using hj))
        . have:=(hN.cls.hd c D).1;omega
  . have aD:s=M.n:=o_;subst aD;have y:=α C;have E:Hid (eu_ M f M.n l b):=hrel;clear C hrel hM hf hnx hl;go_wp2
    obtain⟨r1,r2,r3⟩:=Φ (u:= .slice t M.n o) (v:= .slice q b.length x) hq;refine bodyPost_ret (v:= .agg #[.slice t M.n o,.slice q b.length x]) (by simp[results,results166,go_sem,r1,r2]) rfl ?_;have Z:=(y.out.cz.mono (B':=w.heap.size+1) o_).setCell (p:=⟨w.heap.size+1,0,none⟩) ι (.slice t M.n o);have aa:=Z.setCell (p:=⟨w.heap.size+1,1,none⟩) ι (.slice q b.length x);have al:=ownsRow_setCell_below (ownsRow_setCell_below y.out.cB (a:=⟨w.heap.size+1,0,none⟩) i_ (.slice t M.n o)) (a:=⟨w.heap.size+1,1,none⟩) i_ (.slice q b.length x);have am:=ownsRow_setCell_below (ownsRow_setCell_below y.out.cA (a:=⟨w.heap.size+1,0,none⟩) i_ (.slice t M.n o)) (a:=⟨w.heap.size+1,1,none⟩) i_ (.slice q b.length x);have az:0<b.length:=by have:=E.out.cls.lt 0 o_;omega
    obtain⟨G,rfl,_⟩:=ac az;obtain⟨ak,rfl,_⟩:=an o_;exact⟨V.trans (aa.mono o_),_,G,x,l,b,rfl,by have:=(am.lt G rfl).1;omega,ld_ rfl (fun j hj=>am.cellAt j hj),.inl ⟨aq,⟨ak,o,rfl,by have:=(al.lt ak rfl).1;omega,ld_ E.out.len (fun j hj=>al.cellAt j hj)⟩,E.out⟩⟩
theorem ze_:∀(l' l:List Nat),l.Pairwise (·<·)->l'.Pairwise (·<·)->(∀a∈l,a∈l')->l.Sublist l':=by
 intro l';induction l' with
 |nil=>intro l _ _ h;cases l with
  |nil=>exact List.Sublist.slnil
  |cons a s=>exact absurd (h a i_) i_
 |cons b t ih=>
  intro l c f h;cases l with
  |nil=>exact nil_sublist _
  |cons a s=>
   rw[pairwise_cons]at c f;by_cases e:a=b
   . subst e;refine List.Sublist.cons_cons a (ih s c.2 f.2 ?_);intro x d;have:=h x (by simp[d]);rcases mc_.1 this with rfl|h'
     . exact absurd (c.1 _ d) o_
     . exact h'
   . refine List.Sublist.cons b (ih (a::s) (pairwise_cons.2 c) f.2 ?_);have g:a∈t:=by
      rcases mc_.1 (h a i_)with h'|h'
      . exact absurd h' e
      . exact h'
     have i:=f.1 a g;intro x d;rcases mc_.1 (h x d)with h'|h'
     . subst h';rcases mc_.1 d with h''|h''
       . omega
       . have:=c.1 x h'';omega
     . exact h'
theorem fj_ (l:List Nat)(c:Nat)(h:c<l.length):l.getD c 0∈l:=by
 rw[gd_,ge_ h];exact getElem_mem h
theorem sx_ {a:Nat}(h:a∈l):∃c,c<l.length/\l.getD c 0=a:=by
 obtain⟨c,b,rfl⟩:=getElem_of_mem h;exact⟨c,b,by rw[gd_,ge_ b];rfl⟩
theorem Cls.sub (h:Cls n f hs)(h':Cls n f' hs')(hr:∀i j,i<n->j<n->f' i=f' j->f i=f j):∀a∈hs,a∈hs':=by
 intro a l;obtain⟨c,m,rfl⟩:=sx_ l;have b:=h.hd c m;have e:=h'.lt _ b.1;have o:=h'.le _ b.1;have d:=h'.hd _ e;have g:=hr _ _ d.1 b.1 d.2;have k:=h.le _ d.1;rw[g,b.2]at k;have:hs'.getD (f' (hs.getD c 0)) 0=hs.getD c 0:=o_;rw[<-this];exact fj_ _ _ e
theorem Cls.eR (h:Cls n f hs)(h':Cls n f' hs')(hr:∀i j,i<n->j<n->f' i=f' j->f i=f j):hs.length<=hs'.length:=
 (ze_ hs' hs h.inc h'.inc (h.sub h' hr)).length_le
theorem Cls.dS (h:Cls n f hs)(h':Cls n f' hs')(hr:∀i j,i<n->j<n->f' i=f' j->f i=f j)(hl:hs.length=hs'.length):
 hs=hs'/\∀i,i<n->f i=f' i:=by
 have e:=(ze_ hs' hs h.inc h'.inc (h.sub h' hr)).eq_of_length hl;subst e;refine⟨rfl,fun i hi=> ?_⟩;have a:=h'.hd _ (h'.lt i hi);have b:=hr _ _ a.1 hi a.2;rw[<-b];exact(h.hd _ (h'.lt i hi)).2
theorem aku_ {x:List Nat}(hc:c<8)(hx:Γ x):Γ (c::x):=by
 intro d a;rcases mc_.1 a with h|h
 . omega
 . exact hx d h
def e5_ (M:γ)(i j:Nat):Prop:=∃x,Γ x/\M.acc (M.read i x)≠M.acc (M.read j x)
structure Mid (M:γ)(f:Nat->Nat)(hs:List Nat):Prop where
 cls:Cls M.n f hs
 apart:∀i j,i<M.n->j<M.n->f i≠f j->e5_ M i j
theorem zf_ {M:γ}(hnx:∀i c,i<M.n->c<8->M.b7 i c<M.n)(hap:∀i j,i<M.n->j<M.n->f i≠f j->e5_ M i j)(i j:Nat)(hi:i<M.n)(hj:j<M.n)(h:dd_ M f i j=false):e5_ M i j:=by
 rw[Bool.eq_false_iff]at h;by_cases d:M.acc i=M.acc j
 . have:¬∀c,c<8->f (M.b7 i c)=f (M.b7 j c):=fun a=>h ((kc_ M f i j).2 ⟨d,a⟩)
   have:∃c,c<8/\f (M.b7 i c)≠f (M.b7 j c):=cc_ fun hn=>this fun c a=>cc_ fun b=>hn ⟨c,a,b⟩
   obtain⟨c,a,b⟩:=this;obtain⟨x,g,e⟩:=hap _ _ (hnx i c hi a) (hnx j c hj a) b;exact⟨c::x,aku_ a g,by simpa [γ.read] using e⟩
 . exact⟨[],by intro c a;simp at a,by simpa [γ.read] using d⟩
theorem Mid.step {M:γ}(hnx:∀i c,i<M.n->c<8->M.b7 i c<M.n)(h:Mid M f hs)(h':eu_ M f M.n os hs'):Mid M (fun i=>os.getD i 0) hs' where
 cls:=h'.cls
 apart i j hi hj hne:=zf_ hnx h.apart i j hi hj (by
  rw[Bool.eq_false_iff];intro e;exact hne ((h'.same i j hi hj).2 e))
theorem Mid.first {M:γ}(hn:1<=M.n):Mid M (fun _=>0) [0] where
 cls:=⟨fun _ _=>i_,fun i _=>i_,fun c hc=>by
  have:c=0:=by simp at hc;omega
  subst this;exact⟨s_,rfl⟩,i_⟩
 apart i j _ _ h:=absurd rfl h
def i1_ (M:γ)(f:Nat->Nat):Prop:=∀i j,i<M.n->j<M.n->dd_ M f i j=true->f i=f j
theorem i1_.first (M:γ):i1_ M (fun _=>0):=fun _ _ _ _ _=>rfl
theorem i1_.step {M:γ}(hnx:∀i c,i<M.n->c<8->M.b7 i c<M.n)(h:i1_ M f)(h':eu_ M f M.n os hs'):i1_ M (fun i=>os.getD i 0):=by
 intro i j b d a;show os.getD i 0=os.getD j 0
 rw[h'.same i j b d,kc_];rw[kc_]at a;refine⟨a.1,fun c hc=> ?_⟩;have:=a.2 c hc;have:=(h'.same _ _ (hnx i c b hc) (hnx j c d hc)).1 this;exact h _ _ (hnx i c b hc) (hnx j c d hc) this
theorem akv_ {M:γ}(h:Mid M f hs)(hf:i1_ M f)(h':eu_ M f M.n os hs'):hs.length<=hs'.length:=
 h.cls.eR h'.cls fun i j hi hj e=>hf i j hi hj ((h'.same i j hi hj).1 e)
structure ii_ (M:γ)(f:Nat->Nat)(hs:List Nat):Prop where
 dm:Mid M f hs
 acc:∀i j,i<M.n->j<M.n->f i=f j->M.acc i=M.acc j
 b7:∀i j c,i<M.n->j<M.n->c<8->f i=f j->f (M.b7 i c)=f (M.b7 j c)
theorem akw_ {M:γ}(hnx:∀i c,i<M.n->c<8->M.b7 i c<M.n)(h:Mid M f hs)(hf:i1_ M f)(h':eu_ M f M.n os hs')(hl:hs'.length=hs.length):
 ii_ M (fun i=>os.getD i 0) hs':=by
 obtain⟨e,hs⟩:=h.cls.dS h'.cls (fun i j hi hj e=>hf i j hi hj ((h'.same i j hi hj).1 e)) hl.symm;refine⟨h.step hnx h',fun i j hi hj e=> ?_,fun i j c hi hj hc e=> ?_⟩
 . exact((kc_ M f i j).1 ((h'.same i j hi hj).1 e)).1
 . have:=((kc_ M f i j).1 ((h'.same i j hi hj).1 e)).2 c hc;rw[hs _ (hnx i c hi hc),hs _ (hnx j c hj hc)]at this;exact this
def fk_ (M:γ)(f:Nat->Nat)(hs:List Nat):γ where
 n:=hs.length
 acc k:=M.acc (hs.getD k 0)
 b7 k c:=f (M.b7 (hs.getD k 0) c)
theorem sy_ {M:γ}(hnx:∀i c,i<M.n->c<8->M.b7 i c<M.n)(h:ii_ M f hs)(i:Nat)(hi:i<M.n)(x:List Nat)(hx:Γ x):
 (fk_ M f hs).read (f i) x=f (M.read i x)/\M.read i x<M.n:=by
 induction x generalizing i with
 |nil=>exact⟨rfl,hi⟩
 |cons c x ih=>
  have b:c<8:=hx c i_;have g:Γ x:=fun d hd=>hx d (by simp[hd])
  have a:=h.dm.cls.hd _ (h.dm.cls.lt i hi);have e:(fk_ M f hs).b7 (f i) c=f (M.b7 i c):=h.b7 _ _ c a.1 hi b a.2;simp only[γ.read,foldl_cons,e];exact ih _ (hnx i c hi b) g
theorem sz_ {M:γ}(h:ii_ M f hs)(i:Nat)(hi:i<M.n):(fk_ M f hs).acc (f i)=M.acc i:=by
 have a:=h.dm.cls.hd _ (h.dm.cls.lt i hi);exact h.acc _ _ a.1 hi a.2
theorem zg_ (h:Cls n f hs)(hn:1<=n):f 0=0/\hs.getD 0 0=0:=by
 have b:=h.lt 0 o_;have d:=h.le 0 o_;have c:0<hs.length:=o_;have e:hs.getD (f 0) 0=0:=o_;by_cases a:f 0=0
 . rw[a]at e;exact⟨a,e⟩
 . have:=(pairwise_iff_getElem.1 h.inc) 0 (f 0) c b o_;rw[gd_,ge_ b]at e;simp at e;omega
theorem akx_ {M:γ}(hnx:∀i c,i<M.n->c<8->M.b7 i c<M.n)(h:ii_ M f hs)(hn:1<=M.n)(x:List Nat)(hx:Γ x):(fk_ M f hs).b6 x=M.b6 x:=by
 have b:=(zg_ h.dm.cls hn).1;have a:=sy_ hnx h 0 o_ x hx;rw[b]at a;rw[γ.b6,a.1,sz_ h _ a.2,γ.b6]
theorem aky_ {M:γ}(hnx:∀i c,i<M.n->c<8->M.b7 i c<M.n)(h:ii_ M f hs)(k l:Nat)(hk:k<hs.length)(hl:l<hs.length)(hne:k≠l):e5_ (fk_ M f hs) k l:=by
 have a:=h.dm.cls.hd k hk;have b:=h.dm.cls.hd l hl;obtain⟨x,d,j⟩:=h.dm.apart _ _ a.1 b.1 (by rw[a.2,b.2];exact hne);have e:=sy_ hnx h _ a.1 x d;have g:=sy_ hnx h _ b.1 x d;rw[a.2]at e;rw[b.2]at g;refine⟨x,d, ?_⟩;rw[e.1,g.1,sz_ h _ e.2,sz_ h _ g.2];exact j
def ab_ (X:Nat->Nat->Nat):Nat->Nat
 |0=>1
 |p+1=>max (ab_ X p) (X (p/8) (p%8)+1)
theorem s0_ (X:Nat->Nat->Nat)(h:p<=q):ab_ X p<=ab_ X q:=by
 induction q with
 |zero=>
  have:p=0:=o_;subst this;exact ι
 |succ q ih=>
  by_cases e:p=q+1
  . subst e;exact ι
  . exact Nat.le_trans (ih o_) (by simp only[ab_];exact Nat.le_max_left _ _)
theorem zh_ (X:Nat->Nat->Nat)(h:p<q):X (p/8) (p%8)<ab_ X q:=by
 have:ab_ X (p+1)<=ab_ X q:=s0_ X h;simp only[ab_]at this;have:=Nat.le_max_right (ab_ X p) (X (p/8) (p%8)+1);omega
theorem zi_ (X:Nat->Nat->Nat)(p:Nat):1<=ab_ X p:=s0_ X (zero_le p)
structure d4_ (M:γ):Prop where
 pos:1<=M.n
 nx:∀i c,i<M.n->c<8->M.b7 i c<M.n
 step:∀p,p<8*M.n->M.b7 (p/8) (p%8)<=ab_ M.b7 p
 row:∀i,i<M.n->i<ab_ M.b7 (8*i)
 all:ab_ M.b7 (8*M.n)=M.n
theorem akz_ {M:γ}(h:d4_ M):∀p,p<=8*M.n->ab_ M.b7 p<=M.n:=by
 intro p a;rw[<-h.all];exact s0_ _ a
theorem d4_.first {M:γ}(h:d4_ M)(s:Nat)(h0:0<s)(hs:s<M.n):∃p,p<8*s/\M.b7 (p/8) (p%8)=s/\ab_ M.b7 p=s:=by
 have e:=h.row s hs;have:∀q,q<=8*s->s<ab_ M.b7 q->∃p,p<q/\M.b7 (p/8) (p%8)=s/\ab_ M.b7 p=s:=by
  intro q;induction q with
  |zero=>intro _ a;simp[ab_]at a;omega
  |succ q ih=>
   intro g a;by_cases d:s<ab_ M.b7 q
   . obtain⟨p,f,b,c⟩:=ih o_ d;exact⟨p,o_,b,c⟩
   . have i:=h.step q o_;simp only[ab_]at a;have:M.b7 (q/8) (q%8)=s/\ab_ M.b7 q=s:=o_;exact⟨q,o_,this.1,this.2⟩
 exact this (8*s) ι e
theorem d4_.reach {M:γ}(h:d4_ M):∀s,s<M.n->∃x,Γ x/\M.read 0 x=s:=by
 intro s;induction s using Nat.strongRecOn with
 |_ s ih=>
  intro f;by_cases b:s=0
  . subst b;exact⟨[],by intro c a;simp at a,rfl⟩
  . obtain⟨p,i,d,_⟩:=h.first s o_ f
    obtain⟨x,g,e⟩:=ih (p/8) o_ o_;refine⟨x++ [p%8], ?_, ?_⟩
    . intro c a;rcases mp_.1 a with h'|h'
      . exact g c h'
      . simp at h';omega
    . rw[γ.cE,e,d]
theorem d4_.cU {M:γ}(h:d4_ M)(s:Nat)(hs:s<M.n)(x:List Nat)(hx:Γ x):M.read s x<M.n:=by
 induction x generalizing s with
 |nil=>exact hs
 |cons c x ih=>
  simp only[γ.read,foldl_cons];exact ih (M.b7 s c) (h.nx s c hs (hx c i_)) (fun d hd=>hx d (by simp[hd]))
structure ch_ (M:γ)(L:List Nat->Bool):Prop where
 num:d4_ M
 apart:∀i j,i<M.n->j<M.n->i≠j->e5_ M i j
 lang:∀x,Γ x->M.b6 x=L x
structure ak0_ (M N:γ):Prop where
 n:M.n=N.n
 acc:∀i,i<M.n->M.acc i=N.acc i
 b7:∀i c,i<M.n->c<8->M.b7 i c=N.b7 i c
theorem zj_ {X Y:Nat->Nat->Nat}(q:Nat)(h:∀p,p<q->X (p/8) (p%8)=Y (p/8) (p%8)):ab_ X q=ab_ Y q:=by
 induction q with
 |zero=>rfl
 |succ q ih=>simp only[ab_];rw[ih (fun p hp=>h p o_),h q o_]
section
variable {M N:γ} {L:List Nat->Bool}
theorem zk_ (hM:ch_ M L)(hN:ch_ N L)(x:List Nat)(hx:Γ x)(y:List Nat)(hy:Γ y):M.acc (M.read (M.read 0 x) y)=N.acc (N.read (N.read 0 x) y):=by
 have d:Γ (x++y):=fun c hc=>by
  rcases mp_.1 hc with h|h
  . exact hx c h
  . exact hy c h
 have a:=hM.lang _ d;have b:=hN.lang _ d;simp only[γ.b6,γ.cL]at a b;rw[a,b]
theorem s1_ (hM:ch_ M L)(hN:ch_ N L)(x y:List Nat)(hx:Γ x)(hy:Γ y)(h:M.read 0 x=M.read 0 y):N.read 0 x=N.read 0 y:=by
 apply cc_;intro c;obtain⟨z,a,b⟩:=hN.apart _ _ (hN.num.cU 0 hN.num.pos x hx) (hN.num.cU 0 hN.num.pos y hy) c;apply b;rw[<-zk_ hM hN x hx z a,<-zk_ hM hN y hy z a,h]
theorem zl_ (hM:ch_ M L)(hN:ch_ N L):∀s,s<M.n->s<N.n/\∀x,Γ x->M.read 0 x=s->N.read 0 x=s:=by
 intro s;induction s using Nat.strongRecOn with
 |_ s ih=>
  intro z;by_cases r:s=0
  . subst r;exact⟨hN.num.pos,fun x a h=>s1_ hM hN x [] a (by intro c b;simp at b) h⟩
  . obtain⟨p,E,t,u⟩:=hM.num.first s o_ z
    have B:∀q,q<p->M.b7 (q/8) (q%8)=N.b7 (q/8) (q%8):=by
     intro q w;have j:M.b7 (q/8) (q%8)<s:=by have:=zh_ M.b7 w;omega
     obtain⟨x,a,d⟩:=hM.num.reach (q/8) o_;have k:=(ih (q/8) o_ o_).2 x a d;have f:Γ (x++ [q%8]):=fun c b=>by
      rcases mp_.1 b with h|h
      . exact a c h
      . simp at h;omega
     have e:=(ih _ j o_).2 (x++ [q%8]) f (by rw[γ.cE,d]);rw[γ.cE,k]at e;exact e.symm
    obtain⟨x,a,d⟩:=hM.num.reach (p/8) o_;have v:=ih (p/8) o_ o_;have k:=v.2 x a d;have f:Γ (x++ [p%8]):=fun c b=>by
     rcases mp_.1 b with h|h
     . exact a c h
     . simp at h;omega
    have m:M.read 0 (x++ [p%8])=s:=by rw[γ.cE,d,t]
    have l:N.read 0 (x++ [p%8])=N.b7 (p/8) (p%8):=by rw[γ.cE,k]
    have C:ab_ N.b7 p=s:=by rw[<-zj_ p B];exact u
    have D:N.b7 (p/8) (p%8)<=s:=by
     have:=hN.num.step p o_;omega
    have o:N.b7 (p/8) (p%8)=s:=by
     rcases Nat.lt_or_ge (N.b7 (p/8) (p%8)) s with j|hge
     . exfalso;obtain⟨y,i,g⟩:=hM.num.reach (N.b7 (p/8) (p%8)) o_;have A:=(ih _ j o_).2 y i g;have:=s1_ hN hM (x++ [p%8]) y f i (by rw[l,A]);rw[m,g]at this;omega
     . omega
    refine⟨?_,fun y i g=> ?_⟩
    . have:=hN.num.cU 0 hN.num.pos _ f;rw[l,o]at this;exact this
    . have:=s1_ hM hN y (x++ [p%8]) i f (by rw[g,m]);rw[this,l,o]
theorem qc_ (hM:ch_ M L)(hN:ch_ N L):ak0_ M N:=by
 have a:=zl_ hM hN;have b:=zl_ hN hM;have l:M.n=N.n:=by
  apply Nat.le_antisymm
  . apply Nat.le_of_not_lt;intro h;have:=(a N.n h).1;omega
  . apply Nat.le_of_not_lt;intro h;have:=(b M.n h).1;omega
 refine⟨l,fun i hi=> ?_,fun i c hi hc=> ?_⟩
 . obtain⟨x,f,g⟩:=hM.num.reach i hi;have j:=hM.lang x f;have k:=hN.lang x f;rw[γ.b6,g]at j;rw[γ.b6,(a i hi).2 x f g]at k;rw[j,k]
 . obtain⟨x,f,g⟩:=hM.num.reach i hi;have m:Γ (x++ [c]):=fun d hd=>by
    rcases mp_.1 hd with h|h
    . exact f d h
    . simp at h;omega
   have e:=(a _ (hM.num.nx i c hi hc)).2 (x++ [c]) m (by rw[γ.cE,g]);rw[γ.cE,(a i hi).2 x f g]at e;exact e.symm
end
def gm (f:Nat->Nat):Nat->Nat
 |0=>0
 |m+1=>max (gm f m) (f m+1)
theorem ak1_ (f:Nat->Nat)(h:p<=q):gm f p<=gm f q:=by
 induction q with
 |zero=>
  have:p=0:=o_;subst this;exact ι
 |succ q ih=>
  by_cases e:p=q+1
  . subst e;exact ι
  . exact Nat.le_trans (ih o_) (by simp only[gm];exact Nat.le_max_left _ _)
theorem le_ (f:Nat->Nat)(h:s<m):f s<gm f m:=by
 have:gm f (s+1)<=gm f m:=ak1_ f h;simp only[gm]at this;have:=Nat.le_max_right (gm f s) (f s+1);omega
theorem zm_ (f:Nat->Nat)(h:k<gm f m):∃s,s<m/\k<=f s:=by
 induction m with
 |zero=>simp[gm]at h
 |succ m ih=>
  by_cases e:k<gm f m
  . obtain⟨s,b,a⟩:=ih e;exact⟨s,o_,a⟩
  . simp only[gm]at h;exact⟨m,o_,o_⟩
section
variable {n:Nat} {f:Nat->Nat} {hs:List Nat}
theorem Cls.sorted (h:Cls n f hs){d:Nat}(hcd:c<d)(hd:d<hs.length):hs.getD c 0<hs.getD d 0:=by
 have:=(pairwise_iff_getElem.1 h.inc) c d o_ hd hcd;rw[gd_,ge_ o_,gd_,ge_ hd];exact this
theorem Cls.dV (h:Cls n f hs)(s:Nat)(hs':s<n):f s<=gm f s:=by
 by_cases e:f s=0
 . omega
 . have b:=h.lt s hs';have g:=h.sorted (c:=f s - 1) (d:=f s) o_ b;have i:=h.le s hs';have a:=h.hd (f s - 1) o_;have:=le_ f (s:=hs.getD (f s - 1) 0) (m:=s) o_;rw[a.2]at this;omega
theorem Cls.head (h:Cls n f hs)(s:Nat)(hs':s<n)(e:hs.getD (f s) 0=s):f s=gm f s:=by
 have:=h.dV s hs';apply Nat.le_antisymm this;apply Nat.le_of_not_lt;intro c;obtain⟨a,d,g⟩:=zm_ f c;have b:=h.le a o_;rcases Nat.lt_or_ge (f s) (f a)with hl|hge
 . have:=h.sorted hl (h.lt a o_);omega
 . have:f a=f s:=o_;rw[this]at b;omega
theorem Cls.eO (h:Cls n f hs)(s:Nat)(hs':s<n)(e:hs.getD (f s) 0≠s):f s<gm f s:=by
 have b:=h.le s hs';have a:=h.hd _ (h.lt s hs');have:=le_ f (s:=hs.getD (f s) 0) (m:=s) o_;rw[a.2]at this;exact this
theorem Cls.total (h:Cls n f hs):gm f n=hs.length:=by
 apply Nat.le_antisymm
 . apply Nat.le_of_not_lt;intro a;obtain⟨s,c,d⟩:=zm_ f a;have:=h.lt s c;omega
 . apply Nat.le_of_not_lt;intro a;have b:=h.hd _ a;have:=le_ f b.1;rw[b.2]at this;omega
end
theorem zn_ {M:γ}(hM:d4_ M)(h:ii_ M f hs)(s:Nat)(hs':s<M.n)(hh:hs.getD (f s) 0=s)(h0:ab_ (fk_ M f hs).b7 (8*f s)=gm f (ab_ M.b7 (8*s))):
 ∀c,c<=8->ab_ (fk_ M f hs).b7 (8*f s+c)=gm f (ab_ M.b7 (8*s+c)):=by
 intro c;induction c with
 |zero=>intro _;exact h0
 |succ c ih=>
  intro k;have i:=ih o_;have a:(8*f s+c)/8=f s:=o_;have b:(8*f s+c)%8=c:=o_;have d:(8*s+c)/8=s:=o_;have e:(8*s+c)%8=c:=o_;have g:=hM.step (8*s+c) o_;rw[<-Nat.add_assoc,<-Nat.add_assoc];simp only[ab_,a,b,d,e]at g ⊢;rw[i];have:(fk_ M f hs).b7 (f s) c=f (M.b7 s c):=by simp only[fk_];rw[hh]
  rw[this];generalize ab_ M.b7 (8*s+c)=m at*;generalize M.b7 s c=x at*;rcases Nat.lt_or_ge x m with hl|hge
  . have j:=le_ f hl;rw[show max m (x+1)=m by omega];omega
  . have:x=m:=o_;subst this;rw[show max x (x+1)=x+1 by omega];simp only[gm]
theorem ak2_ {M:γ}(hM:d4_ M)(h:ii_ M f hs)(s:Nat)(hs':s<M.n)(hh:hs.getD (f s) 0≠s):
 ∀c,c<=8->gm f (ab_ M.b7 (8*s+c))=gm f (ab_ M.b7 (8*s)):=by
 intro c;induction c with
 |zero=>intro _;rfl
 |succ c ih=>
  intro k;have j:=ih o_;have d:(8*s+c)/8=s:=o_;have e:(8*s+c)%8=c:=o_;have i:=hM.step (8*s+c) o_;have l:=h.dm.cls.le s hs';have b:=h.dm.cls.hd _ (h.dm.cls.lt s hs');have g:M.b7 (hs.getD (f s) 0) c<ab_ M.b7 (8*s):=by
   have:=zh_ M.b7 (p:=8*hs.getD (f s) 0+c) (q:=8*s) o_;rw[show(8*hs.getD (f s) 0+c)/8=hs.getD (f s) 0 by omega,show(8*hs.getD (f s) 0+c)%8=c by omega]at this;exact this
  have a:=le_ f g;rw[h.b7 _ _ c b.1 hs' o_ b.2]at a;rw[<-Nat.add_assoc];simp only[ab_,d,e]at i ⊢;rw[<-j]at a ⊢;generalize ab_ M.b7 (8*s+c)=m at*;generalize M.b7 s c=x at*;rcases Nat.lt_or_ge x m with hl|hge
  . rw[show max m (x+1)=m by omega]
  . have:x=m:=o_;subst this;rw[show max x (x+1)=x+1 by omega];simp only[gm];omega
theorem zo_ {M:γ}(hM:d4_ M)(h:ii_ M f hs):∀s,s<=M.n->ab_ (fk_ M f hs).b7 (8*gm f s)=gm f (ab_ M.b7 (8*s)):=by
 intro s;induction s with
 |zero=>intro _;have:=(zg_ h.dm.cls hM.pos).1;simp[gm,ab_,this]
 |succ s ih=>
  intro d;have c:=ih o_;by_cases a:hs.getD (f s) 0=s
  . have e:=h.dm.cls.head s o_ a;have b:gm f (s+1)=f s+1:=by simp only[gm];omega
    rw[<-e]at c;have:=zn_ hM h s o_ a c 8 ι;rw[b,show 8*(f s+1)=8*f s+8 by omega,show 8*(s+1)=8*s+8 by omega];exact this
  . have e:=h.dm.cls.eO s o_ a;have b:gm f (s+1)=gm f s:=by simp only[gm];omega
    rw[b,c,show 8*(s+1)=8*s+8 by omega];exact(ak2_ hM h s o_ a 8 ι).symm
theorem ak3_ {M:γ}(hM:d4_ M)(h:ii_ M f hs):d4_ (fk_ M f hs):=by
 have b:=h.dm.cls;have l:∀k,k<hs.length->∀c,c<=8->ab_ (fk_ M f hs).b7 (8*k+c)=gm f (ab_ M.b7 (8*hs.getD k 0+c)):=by
  intro k d c g;have a:=b.hd k d;have j:hs.getD (f (hs.getD k 0)) 0=hs.getD k 0:=by rw[a.2]
  have e:=b.head _ a.1 j;have i:=zo_ hM h (hs.getD k 0) o_;rw[<-e]at i;have:=zn_ hM h _ a.1 j i c g;rw[a.2]at this;exact this
 refine⟨?_, ?_, ?_, ?_, ?_⟩
 . have:=b.lt 0 hM.pos;show 1<=hs.length;omega
 . intro k c d g;have a:=b.hd k d;exact b.lt _ (hM.nx _ c a.1 g)
 . intro p q;have d:p/8<hs.length:=by have:p<8*hs.length:=q;omega
   have a:=b.hd _ d;have e:=l (p/8) d (p%8) o_;rw[show 8*(p/8)+p%8=p by omega]at e;rw[e];have r:=hM.step (8*hs.getD (p/8) 0+p%8) o_;rw[show(8*hs.getD (p/8) 0+p%8)/8=hs.getD (p/8) 0 by omega,show(8*hs.getD (p/8) 0+p%8)%8=p%8 by omega]at r;have o:=hM.nx _ (p%8) a.1 o_;show f (M.b7 (hs.getD (p/8) 0) (p%8))<=_
   generalize ab_ M.b7 (8*hs.getD (p/8) 0+p%8)=m at*;generalize M.b7 (hs.getD (p/8) 0) (p%8)=x at*;rcases Nat.lt_or_ge x m with hl|hge
   . have:=le_ f hl;omega
   . have:x=m:=o_;subst this;exact b.dV _ o
 . intro k d;have a:=b.hd k d;have e:=l k d 0 o_;simp only[Nat.add_zero]at e;rw[e];have:=le_ f (hM.row _ a.1);rw[a.2]at this;exact this
 . have:=zo_ hM h M.n ι;rw[b.total,hM.all,b.total]at this;exact this
theorem ak4_ {M:γ}(hM:d4_ M)(h:ii_ M f hs)(hL:∀x,Γ x->M.b6 x=L x):ch_ (fk_ M f hs) L where
 num:=ak3_ hM h
 apart k l hk hl hne:=aky_ hM.nx h k l hk hl hne
 lang x hx:=by rw[akx_ hM.nx h hM.pos x hx];exact hL x hx
theorem i2_:∀(N:Nat) (l:List Nat),l.Nodup->(∀x∈l,x<N)->l.length<=N:=by
 intro N;induction N with
 |zero=>
  intro l _ h;cases l with
  |nil=>simp
  |cons a s=>exact absurd (h a i_) o_
 |succ N ih=>
  intro l b h;have c:=ih (l.erase N) (b.erase N) (fun x hx=>by
   have:=(b.mem_erase_iff).1 hx;have:=h x this.2;omega)
  have d:l.length<=(l.erase N).length+1:=by rw[length_erase];split<;>omega
  omega
def pn (S:Nat->Nat->Nat)(ps:List Nat)(k c:Nat):Nat:=ps.idxOf (S (ps.getD k 0) c)
structure Κ (good:Nat->Prop)(S:Nat->Nat->Nat)(ps:List Nat)(p:Nat):Prop where
 len:1<=ps.length
 hd:ps.getD 0 0=0
 nd:ps.Nodup
 inr:∀q∈ps,good q
 dt:∀r,r<p->r/8<ps.length/\S (ps.getD (r/8) 0) (r%8)∈ps
 num:∀r,r<p->pn S ps (r/8) (r%8)<=ab_ (pn S ps) r
 row:∀i,8*i<p->i<ab_ (pn S ps) (8*i)
 cm:ab_ (pn S ps) p=ps.length
section
variable {good:Nat->Prop} {S:Nat->Nat->Nat} {ps:List Nat} {p:Nat}
theorem Κ.start (h:good 0):Κ good S [0] 0:=
 ⟨i_,rfl,i_,by intro q hq;simp at hq;subst hq;exact h,fun r hr=>absurd hr o_,fun r hr=>absurd hr o_,fun i hi=>absurd hi o_,rfl⟩
theorem Κ.old (h:Κ good S ps p)(hk:p/8<ps.length)(hq:S (ps.getD (p/8) 0) (p%8)∈ps):Κ good S ps (p+1) where
 len:=h.len
 hd:=h.hd
 nd:=h.nd
 inr:=h.inr
 dt r hr:=by
  by_cases e:r=p
  . subst e;exact⟨hk,hq⟩
  . exact h.dt r o_
 num r hr:=by
  by_cases e:r=p
  . subst e;have:=ix_ hq;rw[h.cm];exact Nat.le_of_lt this
  . exact h.num r o_
 row i hi:=by
  by_cases e:8*i=p
  . rw[e,h.cm];have:p/8=i:=o_;omega
  . exact h.row i o_
 cm:=by
  have a:pn S ps (p/8) (p%8)<ps.length:=ix_ hq;simp only[ab_,h.cm];exact Nat.max_eq_left a
theorem b8_ (l:List Nat)(x i:Nat)(h:i<l.length):(l++ [x]).getD i 0=l.getD i 0:=qb_ l x i h
theorem Κ.new (h:Κ good S ps p)(hk:p/8<ps.length)(hq:S (ps.getD (p/8) 0) (p%8)∉ps)(hg:good (S (ps.getD (p/8) 0) (p%8))):
 Κ good S (ps++ [S (ps.getD (p/8) 0) (p%8)]) (p+1):=by
 have l:∀r,r<p->pn S (ps++ [S (ps.getD (p/8) 0) (p%8)]) (r/8) (r%8)=pn S ps (r/8) (r%8):=by
  intro r f;have c:=h.dt r f;simp only[pn];rw[b8_ _ _ _ c.1,idxOf_append,if_pos c.2]
 have j:pn S (ps++ [S (ps.getD (p/8) 0) (p%8)]) (p/8) (p%8)=ps.length:=by
  simp only[pn];rw[b8_ _ _ _ hk,idxOf_append,if_neg hq];simp
 have d:∀r,r<=p->ab_ (pn S (ps++ [S (ps.getD (p/8) 0) (p%8)])) r=ab_ (pn S ps) r:=fun r f=>zj_ r (fun q k=>l q o_)
 refine⟨i_, ?_, ?_, ?_, ?_, ?_, ?_, ?_⟩
 . rw[b8_ _ _ _ h.len];exact h.hd
 . rw[nodup_append];refine⟨h.nd,i_, ?_⟩;intro a m b g e;simp at g;subst g;subst e;exact hq m
 . intro q k;rcases mp_.1 k with h'|h'
   . exact h.inr q h'
   . simp at h';subst h';exact hg
 . intro r f;by_cases e:r=p
   . subst e;rw[b8_ _ _ _ hk];exact⟨s_,i_⟩
   . have c:=h.dt r o_;rw[b8_ _ _ _ c.1];exact⟨s_,mem_append_left _ c.2⟩
 . intro r f;by_cases e:r=p
   . subst e;rw[j,d r ι,h.cm];exact ι
   . rw[l r o_,d r o_];exact h.num r o_
 . intro i n;by_cases e:8*i=p
   . rw[d _ o_,e,h.cm];have:p/8=i:=o_;omega
   . rw[d _ o_];exact h.row i o_
 . simp only[ab_,d p ι,h.cm,j,Μ,ls_];exact Nat.max_eq_right (le_succ _)
end
def fa_ (how:Int)(a b:Bool):Bool:=if how=0 then a&&b else if how=1 then a||b else if how=2 then a&& !b else a !=b
def Ν (M N:γ)(q c:Nat):Nat:=M.b7 (q/40) c*40+N.b7 (q%40) c
def fw_ (M N:γ)(q:Nat):Prop:=q/40<M.n/\q%40<N.n
def be_ (M N:γ)(how:Int)(ps:List Nat):γ where
 n:=ps.length
 acc k:=fa_ how (M.acc (ps.getD k 0/40)) (N.acc (ps.getD k 0%40))
 b7:=pn (Ν M N) ps
theorem zp_ {M N:γ}(hM:M.Ok)(hN:N.Ok)(h:fw_ M N q)(hc:c<8):fw_ M N (Ν M N q c)/\Ν M N q c/40=M.b7 (q/40) c/\Ν M N q c%40=N.b7 (q%40) c:=by
 have d:=hM.nx _ c h.1 hc;have e:=hN.nx _ c h.2 hc;have f:=hN.hi;have a:Ν M N q c/40=M.b7 (q/40) c:=by unfold Ν;omega
 have b:Ν M N q c%40=N.b7 (q%40) c:=by unfold Ν;omega
 exact⟨⟨by rw[a];exact d,by rw[b];exact e⟩,a,b⟩
theorem Κ.bound {M N:γ}(hN:N.Ok)(h:Κ (fw_ M N) (Ν M N) ps p):ps.length<=M.n*N.n:=by
 have c:=i2_ (M.n*N.n) (ps.map fun q=>q/40*N.n+q%40) ?_ ?_
 . simpa using c
 . rw[List.Nodup,pairwise_map];refine List.Pairwise.imp_of_mem ?_ h.nd
   . intro a b m o r e;have c:=h.inr a m;have d:=h.inr b o;apply r;have k:=c.2;have l:=d.2;have g:(a/40*N.n+a%40)/N.n=a/40:=by
      rw[Nat.mul_comm,mul_add_div o_,div_eq_of_lt k];omega
     have i:(b/40*N.n+b%40)/N.n=b/40:=by
      rw[Nat.mul_comm,mul_add_div o_,div_eq_of_lt l];omega
     have j:a/40=b/40:=by rw[<-g,<-i,e]
     rw[j]at e;omega
 . intro x f;simp only[mem_map]at f;obtain⟨q,s,rfl⟩:=f;have c:=h.inr q s;have:(q/40+1)*N.n<=M.n*N.n:=mul_le_mul_right _ c.1;have d:=c.2;rw[Nat.add_mul]at this;omega
theorem s2_ {M N:γ}(h:Κ (fw_ M N) (Ν M N) ps (8*ps.length)):d4_ (be_ M N how ps) where
 pos:=h.len
 nx i c hi hc:=by
  have:=(h.dt (8*i+c) (by have:i<ps.length:=hi;omega)).2;rw[show(8*i+c)/8=i by omega,show(8*i+c)%8=c by omega]at this;exact ix_ this
 step p hp:=h.num p hp
 row i hi:=h.row i (by have:i<ps.length:=hi;omega)
 all:=h.cm
theorem i3_ (ps:List Nat)(q:Nat)(h:q∈ps):ps.getD (ps.idxOf q) 0=q:=by
 have a:=ix_ h;rw[gd_,ge_ a];simp[getElem_idxOf]
theorem ak5_ {M N:γ}(hM:M.Ok)(hN:N.Ok)(h:Κ (fw_ M N) (Ν M N) ps (8*ps.length))(k:Nat)(hk:k<ps.length)(x:List Nat)(hx:Γ x):
 (be_ M N how ps).read k x<ps.length/\ps.getD ((be_ M N how ps).read k x) 0/40=M.read (ps.getD k 0/40) x/\ps.getD ((be_ M N how ps).read k x) 0%40=N.read (ps.getD k 0%40) x:=by
 induction x generalizing k with
 |nil=>exact⟨hk,rfl,rfl⟩
 |cons c x ih=>
  have e:c<8:=hx c i_;have i:Γ x:=fun d hd=>hx d (by simp[hd])
  have a:=(h.dt (8*k+c) o_).2;rw[show(8*k+c)/8=k by omega,show(8*k+c)%8=c by omega]at a;have g:(be_ M N how ps).b7 k c<ps.length:=ix_ a;have b:=zp_ hM hN (h.inr _ (fj_ ps k hk)) e;have f:ps.getD ((be_ M N how ps).b7 k c) 0=Ν M N (ps.getD k 0) c:=i3_ ps _ a;simp only[γ.read,foldl_cons];have:=ih _ g i;rw[f,b.2.1,b.2.2]at this;exact this
theorem zq_ {M N:γ}(hM:M.Ok)(hN:N.Ok)(h:Κ (fw_ M N) (Ν M N) ps (8*ps.length))(x:List Nat)(hx:Γ x):
 (be_ M N how ps).b6 x=fa_ how (M.b6 x) (N.b6 x):=by
 have:=ak5_ hM hN (how:=how) h 0 h.len x hx;rw[h.hd]at this;simp only[γ.b6];show fa_ how (M.acc (ps.getD ((be_ M N how ps).read 0 x) 0/40)) (N.acc (ps.getD ((be_ M N how ps).read 0 x) 0%40))=_
 rw[this.2.1,this.2.2]
theorem aou_ {M N:γ}(hM:ch_ M L)(hN:N.Ok)(hL:∀x,Γ x->N.b6 x=L x):M.n<=N.n:=by
 have r:∀s,∃x,s<M.n->Γ x/\M.read 0 x=s:=fun s=>by
  by_cases i:s<M.n
  . obtain⟨x,h⟩:=hM.num.reach s i;exact⟨x,fun _=>h⟩
  . exact⟨[],fun h=>absurd h i⟩
 let g:=fun s=>Classical.choose (r s)
 have o:∀s,s<M.n->Γ (g s)/\M.read 0 (g s)=s:=fun s=>Classical.choose_spec (r s)
 have t:=i2_ N.n ((List.range M.n).map fun s=>N.read 0 (g s)) ?_ ?_
 . simpa using t
 . refine List.Pairwise.map _ (fun a b h=>h) (List.Pairwise.imp_of_mem ?_ (nodup_range (n:=M.n)));intro a b p q v e;have l:=o a (by simpa using p);have m:=o b (by simpa using q);obtain⟨z,w,u⟩:=hM.apart a b (by simpa using p) (by simpa using q) v;apply u;have k:∀x,Γ x->Γ (x++z):=fun x j c hc=>by
    rcases mp_.1 hc with h|h
    . exact j c h
    . exact w c h
   have d:=hM.lang _ (k _ l.1);have f:=hM.lang _ (k _ m.1);rw[<-hL _ (k _ l.1)]at d;rw[<-hL _ (k _ m.1)]at f;simp only[γ.b6,γ.cL]at d f;rw[l.2]at d;rw[m.2]at f;rw[d,f,e]
 . intro x j;simp only[mem_map,mem_range]at j;obtain⟨s,i,rfl⟩:=j;exact γ.cU hN 0 hN.lo _ (o s i).1
theorem ak6_ {M N:γ}(hM:ch_ M L)(hN:d4_ N)(hL:∀x,Γ x->N.b6 x=L x)(hs:List Nat)(hlt:∀c,c<hs.length->hs.getD c 0<N.n)
 (hap:∀c d,c<d->d<hs.length->e5_ N (hs.getD c 0) (hs.getD d 0)):hs.length<=M.n:=by
 have u:∀s,∃x,s<N.n->Γ x/\N.read 0 x=s:=fun s=>by
  by_cases hs:s<N.n
  . obtain⟨x,h⟩:=hN.reach s hs;exact⟨x,fun _=>h⟩
  . exact⟨[],fun h=>absurd h hs⟩
 let g:=fun s=>Classical.choose (u s)
 have r:∀s,s<N.n->Γ (g s)/\N.read 0 (g s)=s:=fun s=>Classical.choose_spec (u s)
 have D:∀c d,c<d->d<hs.length->M.read 0 (g (hs.getD c 0))≠M.read 0 (g (hs.getD d 0)):=by
  intro c d w t e;obtain⟨z,C,y⟩:=hap c d w t;apply y;have o:=r _ (hlt c o_);have p:=r _ (hlt d t);have m:∀x,Γ x->Γ (x++z):=fun x l c q=>by
   rcases mp_.1 q with h|h
   . exact l c h
   . exact C c h
  have f:=hM.lang _ (m _ o.1);have k:=hM.lang _ (m _ p.1);rw[<-hL _ (m _ o.1)]at f;rw[<-hL _ (m _ p.1)]at k;simp only[γ.b6,γ.cL]at f k;rw[o.2]at f;rw[p.2]at k;rw[<-f,<-k,e]
 have v:=i2_ M.n ((List.range hs.length).map fun c=>M.read 0 (g (hs.getD c 0))) ?_ ?_
 . simpa using v
 . refine List.Pairwise.map _ (fun a b h=>h) ?_;rw[pairwise_iff_getElem];intro i j E B A;simp only[getElem_range];exact D i j A (by simpa using B)
 . intro x l;simp only[mem_map,mem_range]at l;obtain⟨c,q,rfl⟩:=l;exact hM.num.cU 0 hM.num.pos _ (r _ (hlt c q)).1
def Eqv (M:γ)(i j:Nat):Prop:=∀x,Γ x->M.acc (M.read i x)=M.acc (M.read j x)
theorem Eqv.refl (M:γ)(i:Nat):Eqv M i i:=fun _ _=>rfl
theorem Eqv.symm {M:γ}(h:Eqv M i j):Eqv M j i:=fun x hx=>(h x hx).symm
theorem Eqv.trans {M:γ}(h:Eqv M i j)(h':Eqv M j k):Eqv M i k:=fun x hx=>(h x hx).trans (h' x hx)
theorem Eqv.b7 {M:γ}(h:Eqv M i j)(c:Nat)(hc:c<8):Eqv M (M.b7 i c) (M.b7 j c):=fun x hx=>h (c::x) (by
 intro d hd;simp only[mc_]at hd;rcases hd with rfl|hd
 . exact hc
 . exact hx d hd)
theorem Eqv.acc {M:γ}(h:Eqv M i j):M.acc i=M.acc j:=h [] (by intro d hd;simp at hd)
theorem zr_ {M:γ}:Eqv M i j↔¬e5_ M i j:=by
 constructor
 . rintro h ⟨x,b,a⟩;exact a (h x b)
 . intro h x b;apply cc_;intro a;exact h ⟨x,b,a⟩
noncomputable def kd_ (M:γ)(s:Nat):Nat->Nat
 |0=>s
 |k+1=> @ite _ (Eqv M (s - (k+1)) s) (Classical.propDecidable _) (min (s - (k+1)) (kd_ M s k)) (kd_ M s k)
noncomputable def cr (M:γ)(s:Nat):Nat:=kd_ M s s
theorem s3_ (M:γ)(s:Nat):∀k,k<=s->kd_ M s k<=s/\Eqv M (kd_ M s k) s/\∀t,s - k<=t->t<=s->Eqv M t s->kd_ M s k<=t:=by
 intro k;induction k with
 |zero=>intro _;exact⟨ι,Eqv.refl _ _,fun t h1 h2 _=>h1⟩
 |succ k ih=>
  intro d;obtain⟨a,b,c⟩:=ih o_;simp only[kd_];by_cases e:Eqv M (s - (k+1)) s
  . rw[if_pos e];refine⟨o_, ?_,fun t h1 h2 h3=> ?_⟩
    . by_cases h:s - (k+1)<=kd_ M s k
      . rw[Nat.min_eq_left h];exact e
      . rw[Nat.min_eq_right o_];exact b
    . by_cases h:t=s - (k+1)
      . subst h;exact Nat.min_le_left _ _
      . have:=c t o_ h2 h3;exact Nat.le_trans (Nat.min_le_right _ _) this
  . rw[if_neg e];refine⟨a,b,fun t h1 h2 h3=> ?_⟩;by_cases h:t=s - (k+1)
    . subst h;exact absurd h3 e
    . exact c t o_ h2 h3
theorem me_ (M:γ)(s:Nat):cr M s<=s:=(s3_ M s s ι).1
theorem ke_ (M:γ)(s:Nat):Eqv M (cr M s) s:=(s3_ M s s ι).2.1
theorem zs_ (M:γ)(s t:Nat)(h:t<=s)(he:Eqv M t s):cr M s<=t:=(s3_ M s s ι).2.2 t o_ h he
theorem qd_ {M:γ}(h:Eqv M s t):cr M s=cr M t:=by
 have b:=ke_ M s;have c:=ke_ M t;have d:=me_ M s;have e:=me_ M t;apply Nat.le_antisymm
 . by_cases a:cr M t<=s
   . exact zs_ M s _ a (c.trans h.symm)
   . omega
 . by_cases a:cr M s<=t
   . exact zs_ M t _ a (b.trans h)
   . omega
theorem ak7_ {M:γ}(h:cr M s=cr M t):Eqv M s t:=by
 have a:=ke_ M s;rw[h]at a;exact a.symm.trans (ke_ M t)
theorem zt_ (M:γ)(s:Nat):cr M (cr M s)=cr M s:=qd_ (ke_ M s)
noncomputable def crS (M:γ)(q c:Nat):Nat:=cr M (M.b7 q c)
noncomputable def hm_ (M:γ)(ps:List Nat):γ where
 n:=ps.length
 acc k:=M.acc (ps.getD k 0)
 b7:=pn (crS M) ps
def h2_ (M:γ)(q:Nat):Prop:=q<M.n/\cr M q=q
theorem ak8_ {M:γ}(h:Κ (h2_ M) (crS M) ps (8*ps.length)):d4_ (hm_ M ps) where
 pos:=h.len
 nx i c hi hc:=by
  have:=(h.dt (8*i+c) (by have:i<ps.length:=hi;omega)).2;rw[show(8*i+c)/8=i by omega,show(8*i+c)%8=c by omega]at this;exact ix_ this
 step p hp:=h.num p hp
 row i hi:=h.row i (by have:i<ps.length:=hi;omega)
 all:=h.cm
theorem s4_ {M:γ}(h:Κ (h2_ M) (crS M) ps (8*ps.length))(k:Nat)(hk:k<ps.length)(x:List Nat)(hx:Γ x):
 (hm_ M ps).read k x<ps.length/\Eqv M (ps.getD ((hm_ M ps).read k x) 0) (M.read (ps.getD k 0) x):=by
 induction x generalizing k with
 |nil=>exact⟨hk,Eqv.refl _ _⟩
 |cons c x ih=>
  have l:c<8:=hx c i_;have e:Γ x:=fun d a=>hx d (by simp[a])
  have b:=(h.dt (8*k+c) o_).2;rw[show(8*k+c)/8=k by omega,show(8*k+c)%8=c by omega]at b;have g:(hm_ M ps).b7 k c<ps.length:=ix_ b;have f:ps.getD ((hm_ M ps).b7 k c) 0=crS M (ps.getD k 0) c:=i3_ ps _ b;simp only[γ.read,foldl_cons];have:=ih _ g e;rw[f]at this;refine⟨this.1,this.2.trans ?_⟩;intro y j;have i:Eqv M (crS M (ps.getD k 0) c) (M.b7 (ps.getD k 0) c):=ke_ M _;have:=i (x++y) (by
   intro d a;simp only[mp_]at a;rcases a with a|a
   . exact e d a
   . exact j d a)
  rw[γ.cL,γ.cL]at this;exact this
theorem zu_ {M:γ}(h:Κ (h2_ M) (crS M) ps (8*ps.length)):ch_ (hm_ M ps) M.b6 where
 num:=ak8_ h
 apart i j hi hj hij:=by
  have a:i<ps.length:=hi;have b:j<ps.length:=hj;have f:=h.inr _ (fj_ ps i a);have g:=h.inr _ (fj_ ps j b);have n:ps.getD i 0≠ps.getD j 0:=by
   intro e;apply hij;have d:=h.nd;rw[List.Nodup,pairwise_iff_getElem]at d;rw[gd_,ge_ a,gd_,ge_ b]at e;simp only[Option.getD_some]at e;rcases Nat.lt_trichotomy i j with hlt|heq|hlt
   . exact absurd e (d i j a b hlt)
   . exact heq
   . exact absurd e.symm (d j i b a hlt)
  have k:¬Eqv M (ps.getD i 0) (ps.getD j 0):=by
   intro e;have:=qd_ e;rw[f.2,g.2]at this;exact n this
  apply cc_;intro m;apply k;intro x c;have o:=(s4_ h i a x c).2.acc;have p:=(s4_ h j b x c).2.acc;rw[<-o,<-p];apply cc_;intro l;exact m ⟨x,c,l⟩
 lang x c:=by
  have:=(s4_ h 0 h.len x c).2.acc;rw[h.hd]at this;exact this
theorem ak9_:∀(l:List Nat) (a k:Nat) (h:k<l.length),l[k]=a->l.idxOf a<=k:=by
 intro l;induction l with
 |nil=>intro a k h;simp at h
 |cons x l ih=>
  intro a k h e;rw[idxOf_cons];by_cases b:x=a
  . simp[b]
  . cases k with
    |zero=>exact absurd e b
    |succ k=>
     have:=ih a k (by simpa using h) (by simpa using e);have c:(x==a)=false:=by simp[b]
     rw[c];simpa using this
theorem s5_ (M:γ)(fs:List Nat)(k:Nat)(h:k<fs.length):(fs.map (cr M)).getD k 0=cr M (fs.getD k 0):=by
 simp[gd_,h]
theorem zv_ (M:γ)(fs:List Nat)(k c:Nat)(h:k<fs.length)(hc:c<8):crS M ((fs.map (cr M)).getD k 0) c=cr M (M.b7 (fs.getD k 0) c):=by
 rw[s5_ M fs k h];exact qd_ ((ke_ M _).b7 c hc)
theorem zw_ {M:γ}{fs:List Nat}{D:Nat->Nat->Bool}(hD:∀x y,x<M.n->y<M.n->(D x y=true↔e5_ M x y))(hfs:∀i,i<fs.length->fs.getD i 0<M.n)(hs:s<M.n):
 (∀k,k<fs.length->D (fs.getD k 0) s=false->(∀j,j<k->D (fs.getD j 0) s=true)->cr M s∈fs.map (cr M)/\(fs.map (cr M)).idxOf (cr M s)=k)/\
 ((∀j,j<fs.length->D (fs.getD j 0) s=true)->cr M s∉fs.map (cr M)):=by
 have e:∀j,j<fs.length->(D (fs.getD j 0) s=false↔(fs.map (cr M)).getD j 0=cr M s):=by
  intro j c;rw[s5_ M fs j c];have g:=hD _ _ (hfs j c) hs;constructor
  . intro a;apply qd_;rw[zr_];intro r;rw[g.2 r]at a;cases a
  . intro d;have:=zr_.1 (ak7_ d);cases a:D (fs.getD j 0) s with
    |false=>rfl
    |true=>exact absurd (g.1 a) this
 refine⟨fun k hk a hno=> ?_,fun hno b=> ?_⟩
 . have f:k<(fs.map (cr M)).length:=by simpa using hk
   have l:=(e k hk).1 a;have m:(fs.map (cr M))[k]=cr M s:=by
    rw[gd_,ge_ f]at l;simpa using l
   have b:cr M s∈fs.map (cr M):=by rw[<-m];exact getElem_mem f
   refine⟨b, ?_⟩;have t:=ix_ b;have u:=i3_ (fs.map (cr M)) (cr M s) b;apply Nat.le_antisymm
   . apply Nat.le_of_not_lt;intro p;have:List.idxOf (cr M s) (fs.map (cr M))<=k:=by
      exact ak9_ _ _ k f m
     omega
   . apply Nat.le_of_not_lt;intro p;have q:=hno _ p;have h:=(e _ (by simpa using t)).2 u;rw[q]at h;cases h
 . obtain⟨j,c,d⟩:=sx_ b;have o:j<fs.length:=by simpa using c
   have:=(e j o).2 d;rw[hno j o]at this;cases this
def hn_:List Nat->List Nat->Prop
 |x::a,y::b=>x<y\/(x=y/\hn_ a b)
 |_,_=>False
def sl (a b:List Nat):Prop:=a.length<b.length\/(a.length=b.length/\hn_ a b)
def sle (a b:List Nat):Prop:=a=b\/sl a b
theorem zx_:∀ {a b c:List Nat},hn_ a b->hn_ b c->hn_ a c
 | [],_,_,h,_=>by cases h
 |_::_,[],_,h,_=>by cases h
 |_::_,_::_,[],_,h=>by cases h
 |x::a,y::b,z::c,h,h'=>by
  simp only[hn_]at h h' ⊢;rcases h with h|⟨rfl,h⟩
  . rcases h' with h'|⟨rfl,h'⟩
    . left;omega
    . left;exact h
  . rcases h' with h'|⟨rfl,h'⟩
    . left;exact h'
    . exact .inr ⟨rfl,zx_ h h'⟩
theorem zy_ {c:List Nat}(h:sl a b)(h':sl b c):sl a c:=by
 rcases h with h|⟨e,h⟩
 . rcases h' with h'|⟨d,h'⟩
   . left;omega
   . left;omega
 . rcases h' with h'|⟨d,h'⟩
   . left;omega
   . exact .inr ⟨o_,zx_ h h'⟩
theorem zz_:∀a:List Nat,¬hn_ a a
 | [],h=>h
 |x::a,h=>by
  simp only[hn_]at h;rcases h with h|⟨_,h⟩
  . omega
  . exact zz_ a h
theorem ala_ (a:List Nat):¬sl a a:=by
 rintro(h|⟨_,h⟩)
 . omega
 . exact zz_ a h
theorem ny_ {c:List Nat}(h:sle a b)(h':sle b c):sle a c:=by
 rcases h with rfl|h
 . exact h'
 . rcases h' with rfl|h'
   . exact .inr h
   . exact .inr (zy_ h h')
theorem s6_:∀ {a b:List Nat} (c d:Nat),a.length=b.length->hn_ a b->hn_ (a++ [c]) (b++ [d])
 | [],_,_,_,_,h=>by cases h
 |_::_,[],_,_,_,h=>by cases h
 |x::a,y::b,c,d,hl,h=>by
  simp only[hn_,cons_append]at h ⊢;rcases h with h|⟨rfl,h⟩
  . exact .inl h
  . exact .inr ⟨rfl,s6_ c d (by simpa using hl) h⟩
theorem s7_:∀(a:List Nat) (c d:Nat),c<d->hn_ (a++ [c]) (a++ [d])
 | [],c,d,h=> .inl h
 |x::a,c,d,h=> .inr ⟨rfl,s7_ a c d h⟩
theorem z0_ (c d:Nat)(h:sl a b):sl (a++ [c]) (b++ [d]):=by
 rcases h with h|⟨e,h⟩
 . left;simp;exact h
 . exact .inr ⟨by simp[e],s6_ c d e h⟩
theorem z1_ (a:List Nat)(c d:Nat)(h:c<d):sl (a++ [c]) (a++ [d]):= .inr ⟨i_,s7_ a c d h⟩
theorem alb_ (c d:Nat)(h:sle a b)(hcd:c<=d):sle (a++ [c]) (b++ [d]):=by
 rcases h with rfl|h
 . by_cases e:c=d
   . subst e;exact .inl rfl
   . exact .inr (z1_ a c d o_)
 . exact .inr (z0_ c d h)
theorem z2_ (a:List Nat)(c:Nat):sl a (a++ [c]):= .inl i_
structure fl_ (M:γ)(ps:List Nat)(tx:List (List Nat))(p:Nat):Prop where
 rel:Κ (fun q=>q<M.n) M.b7 ps p
 len:tx.length=ps.length
 t0:tx.getD 0 []=[]
 rd:∀j,j<ps.length->Γ (tx.getD j [])/\M.read 0 (tx.getD j [])=ps.getD j 0/\(tx.getD j []).length<=j
 inc:∀i j,i<j->j<ps.length->sl (tx.getD i []) (tx.getD j [])
 /- a place that has been looked at: its state has a text that is not behind this one -/
 low:∀r,r<p->sle (tx.getD (pn M.b7 ps (r/8) (r%8)) []) (tx.getD (r/8) []++ [r%8])
 /- the last texts ab_ from the places looked at -/
 fp:∀j,0<j->j<ps.length->∃r,r<p/\tx.getD j []=tx.getD (r/8) []++ [r%8]/\r/8<ps.length
theorem alc_ (l:List (List Nat))(x:List Nat)(i:Nat)(h:i<l.length):(l++ [x]).getD i []=l.getD i []:=by
 simp[gd_,gl_ h]
theorem ald_ (l:List (List Nat))(x:List Nat):(l++ [x]).getD l.length []=x:=by
 simp[gd_]
theorem fl_.start {M:γ}(hM:M.Ok):fl_ M [0] [[]] 0:=by
 refine⟨Κ.start hM.lo,rfl,rfl, ?_, ?_,fun r hr=>absurd hr o_, ?_⟩
 . intro j a;have:j=0:=by simp at a;omega
   subst this;exact⟨by intro c b;simp at b,rfl,i_⟩
 . intro i j e a;simp at a;omega
 . intro j d a;simp at a;omega
theorem fl_.ahead {M:γ}{tx:List (List Nat)}(h:fl_ M ps tx p)(hk:p/8<ps.length)(j:Nat)(hj:j<ps.length):sl (tx.getD j []) (tx.getD (p/8) []++ [p%8]):=by
 by_cases b:j=0
 . subst b;rw[h.t0];left;simp
 . obtain⟨r,c,e,d⟩:=h.fp j o_ hj;rw[e];by_cases a:r/8=p/8
   . rw[a];exact z1_ _ _ _ o_
   . exact z0_ _ _ (h.inc _ _ o_ hk)
theorem fl_.old {M:γ}{tx:List (List Nat)}(h:fl_ M ps tx p)(hk:p/8<ps.length)(hq:M.b7 (ps.getD (p/8) 0) (p%8)∈ps):fl_ M ps tx (p+1) where
 rel:=h.rel.old hk hq
 len:=h.len
 t0:=h.t0
 rd:=h.rd
 inc:=h.inc
 low r hr:=by
  by_cases e:r=p
  . subst e;exact .inr (h.ahead hk _ (ix_ hq))
  . exact h.low r o_
 fp j h0 hj:=by
  obtain⟨r,hr,e⟩:=h.fp j h0 hj;exact⟨r,o_,e⟩
theorem fl_.new {M:γ}(hM:M.Ok){tx:List (List Nat)}(h:fl_ M ps tx p)(hk:p/8<ps.length)(hq:M.b7 (ps.getD (p/8) 0) (p%8)∉ps):
 fl_ M (ps++ [M.b7 (ps.getD (p/8) 0) (p%8)]) (tx++ [tx.getD (p/8) []++ [p%8]]) (p+1):=by
 have m:=h.len;have v:=h.rel.inr _ (fj_ ps _ hk);have n:=h.rd _ hk;have t:=hM.nx _ _ v (show p%8<8 by omega);have w:∀r,r<p->pn M.b7 (ps++ [M.b7 (ps.getD (p/8) 0) (p%8)]) (r/8) (r%8)=pn M.b7 ps (r/8) (r%8):=by
  intro r l;have d:=h.rel.dt r l;simp only[pn];rw[b8_ _ _ _ d.1,idxOf_append,if_pos d.2]
 have u:pn M.b7 (ps++ [M.b7 (ps.getD (p/8) 0) (p%8)]) (p/8) (p%8)=ps.length:=by
  simp only[pn];rw[b8_ _ _ _ hk,idxOf_append,if_neg hq];simp
 have a:∀j,j<ps.length->(tx++ [tx.getD (p/8) []++ [p%8]]).getD j []=tx.getD j []:=fun j f=>alc_ _ _ _ o_
 have g:(tx++ [tx.getD (p/8) []++ [p%8]]).getD ps.length []=tx.getD (p/8) []++ [p%8]:=by rw[<-m];exact ald_ _ _
 refine⟨h.rel.new hk hq t,by simp[m], ?_, ?_, ?_, ?_, ?_⟩
 . rw[a 0 h.rel.len];exact h.t0
 . intro j f;by_cases e:j=ps.length
   . subst e;rw[g];refine⟨?_, ?_, ?_⟩
     . intro c d;rcases mp_.1 d with h'|h'
       . exact n.1 c h'
       . simp at h';omega
     . rw[γ.cE,n.2.1];have:=nx_ ps (M.b7 (ps.getD (p/8) 0) (p%8));rw[this]
     . rw[Μ,ls_];omega
   . have b:j<ps.length:=by simp at f;omega
     rw[a j b,b8_ _ _ _ b];exact h.rd j b
 . intro i j k f;by_cases e:j=ps.length
   . subst e;rw[g,a i k];exact h.ahead hk i k
   . have b:j<ps.length:=by simp at f;omega
     rw[a i o_,a j b];exact h.inc i j k b
 . intro r l;by_cases e:r=p
   . subst e;rw[u,g,a _ hk];exact .inl rfl
   . have d:=h.rel.dt r o_;rw[w r o_,a (pn M.b7 ps (r/8) (r%8)) (ix_ d.2),a _ d.1];exact h.low r o_
 . intro j s f;by_cases e:j=ps.length
   . subst e;exact⟨p,o_,by rw[g,a _ hk],s_⟩
   . have b:j<ps.length:=by simp at f;omega
     obtain⟨r,l,o,q⟩:=h.fp j s b;exact⟨r,o_,by rw[a j b,a _ q];exact o,s_⟩
theorem fl_.cover {M:γ}{tx:List (List Nat)}(h:fl_ M ps tx (8*k))(y:List Nat)(hy:Γ y):
 (∃j,j<ps.length/\M.read 0 y=ps.getD j 0/\sle (tx.getD j []) y)\/(k<ps.length/\sle (tx.getD k []) y):=by
 have:∀n (y:List Nat),y.length=n->Γ y->(∃j,j<ps.length/\M.read 0 y=ps.getD j 0/\sle (tx.getD j []) y)\/(k<ps.length/\sle (tx.getD k []) y):=by
  intro n;induction n with
  |zero=>
   intro y a _;have:y=[]:=length_eq_zero_iff.1 a;subst this;exact .inl ⟨0,h.rel.len,by rw[h.rel.hd];rfl,.inl h.t0⟩
  |succ n ih=>
   intro y a hy;obtain⟨f,c,rfl⟩:∃f c,y=f++ [c]:=by
    have l:y≠ []:=by intro e;subst e;simp at a
    exact⟨y.dropLast,y.getLast l,(dropLast_concat_getLast l).symm⟩
   have r:Γ f:=fun d hd=>hy d (mem_append_left _ hd)
   have s:c<8:=hy c i_;rcases ih f (by simp at a;exact a) r with ⟨j,o,q,b⟩|⟨p,b⟩
   . by_cases t:j<k
     . have g:=h.rel.dt (8*j+c) o_;have i:=h.low (8*j+c) o_;rw[show(8*j+c)/8=j by omega,show(8*j+c)%8=c by omega]at g i;refine .inl ⟨pn M.b7 ps j c,ix_ g.2, ?_,ny_ i (alb_ c c b ι)⟩;rw[γ.cE,q];exact(i3_ ps _ g.2).symm
     . have m:sle (tx.getD k []) (tx.getD j []):=by
        by_cases e:k=j
        . subst e;exact .inl rfl
        . exact .inr (h.inc k j o_ o)
       exact .inr ⟨o_,ny_ m (ny_ b (.inr (z2_ _ _)))⟩
   . exact .inr ⟨p,ny_ b (.inr (z2_ _ _))⟩
 exact this y.length y rfl hy
theorem fl_.found {M:γ}{tx:List (List Nat)}(h:fl_ M ps tx (8*k))(hk:k<ps.length)(hno:∀j,j<k->M.acc (ps.getD j 0)=false)(y:List Nat)(hy:Γ y)(ha:M.b6 y=true):sle (tx.getD k []) y:=by
 rcases h.cover y hy with ⟨j,c,d,a⟩|⟨_,a⟩
 . rw[γ.b6,d]at ha;have b:¬j<k:=fun b=>by rw[hno j b]at ha;cases ha
   by_cases e:k=j
   . subst e;exact a
   . exact ny_ (.inr (h.inc k j o_ c)) a
 . exact a
theorem fl_.none {M:γ}{tx:List (List Nat)}(h:fl_ M ps tx (8*ps.length))(hno:∀j,j<ps.length->M.acc (ps.getD j 0)=false)(y:List Nat)(hy:Γ y):M.b6 y=false:=by
 rcases h.cover y hy with ⟨j,a,b,d⟩|⟨c,_⟩
 . rw[γ.b6,b];exact hno j a
 . omega
end Go.Proofs.YtpngikmcjkjdaaaGreatDoor
