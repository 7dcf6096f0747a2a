import Derived.Test.YtpngikmcjkjdaaaGreatDoorG0
import Derived.BigQuiet
import Derived.Deep.QuietTactic
import Derived.Test.YtpngikmcjkjdaaaGreatDoorG2
set_option linter.unusedVariables false
set_option linter.unusedSimpArgs false
set_option maxRecDepth 20000
set_option maxHeartbeats 80000000
namespace Go.Proofs.YtpngikmcjkjdaaaGreatDoor
open Go.RowKit Tryz
structure ez_ (w:World)(gw ga ca gn cn:Nat)(M:Tab):Prop where
 p0:w.cell? ⟨gw,0,none⟩=some (.slice (some ⟨ga,0,none⟩) M.n ca)
 p1:w.cell? ⟨gw,1,none⟩=some (.slice (some ⟨gn,0,none⟩) M.n cn)
 acc:∀i,i<M.n->w.cell? ⟨ga,i,none⟩=some (.bool (M.acc i))
 cel:∀i c,i<M.n->c<8->w.cell? ⟨gn,i*8+c,none⟩=some (.int .i64 (M.nxt i c))
def ch_ (w:World)(g n:Nat)(f:Nat->Nat):Prop:=∀i,i<n->w.cell? ⟨g,i,none⟩=some (.int .i64 (f i))
theorem ez_.below {w w':World}{gw ga ca gn cn:Nat}{M:Tab}(h:ez_ w gw ga ca gn cn M)(hb:Below w.heap.size w w'):ez_ w' gw ga ca gn cn M where
 p0:=by rw[(cu_ hb).1 _ _ (an_ h.p0)];exact h.p0
 p1:=by rw[(cu_ hb).1 _ _ (an_ h.p1)];exact h.p1
 acc i hi:=by rw[(cu_ hb).1 _ _ (an_ (h.acc i hi))];exact h.acc i hi
 cel i c hi hc:=by rw[(cu_ hb).1 _ _ (an_ (h.cel i c hi hc))];exact h.cel i c hi hc
theorem ch_.below {w w':World}{g n:Nat}{f:Nat->Nat}(h:ch_ w g n f)(hb:Below w.heap.size w w'):ch_ w' g n f:=
 fun i hi=>by rw[(cu_ hb).1 _ _ (an_ (h i hi))];exact h i hi
theorem ch_.set {w:World}{g n:Nat}{f:Nat->Nat}(h:ch_ w g n f){p:Addr}(hp:g≠p.block)(u:Value):ch_ (w.setCell p u) g n f:=
 fun i hi=>by rw[c6_ hp];exact h i hi
def d8_ (M:Tab)(f:Nat->Nat)(i j:Nat):Nat->Bool
 |0=>true
 |k+1=>d8_ M f i j k&&(f (M.nxt i k)==f (M.nxt j k))
def b1_ (M:Tab)(f:Nat->Nat)(i j:Nat):Bool:=(M.acc i==M.acc j)&&d8_ M f i j 8
theorem nd_ (M:Tab)(f:Nat->Nat)(i j k:Nat):d8_ M f i j k=true↔∀c,c<k->f (M.nxt i c)=f (M.nxt j c):=by
 induction k with
 |zero=>simp[d8_]
 |succ k ih=>
  simp only[d8_,Bool.and_eq_true,ih,beq_iff_eq];constructor
  . rintro⟨h,h1⟩ c hc;by_cases e:c=k
    . subst e;exact h1
    . exact h c o_
  . intro h;exact⟨fun c hc=>h c o_,h k o_⟩
theorem tj_ (M:Tab)(f:Nat->Nat)(i j k m:Nat)(hk:k<=m)(h:d8_ M f i j k=false):d8_ M f i j m=false:=by
 rw[Bool.eq_false_iff]at h ⊢;intro hm;apply h;rw[nd_]at hm ⊢;exact fun c hc=>hm c o_
theorem e0_ (M:Tab)(f:Nat->Nat)(i j:Nat):b1_ M f i j=true↔M.acc i=M.acc j/\∀c,c<8->f (M.nxt i c)=f (M.nxt j c):=by
 simp[b1_,nd_]
theorem act_ (gw ga ca gn cn go co gh l ch:Nat)(ho:Option Addr)(M:Tab)(f:Nat->Nat)(i j:Nat)(w:World)(hM:ez_ w gw ga ca gn cn M)(hf:ch_ w go M.n f)
 (hi:i<M.n) (hj:j<M.n) (hn:M.n<=100000000) (hnx:∀i c,i<M.n->c<8->M.nxt i c<M.n):
 Calls prog 187 #[.pointer (some ⟨gw,0,none⟩),.agg #[.slice (some ⟨go,0,none⟩) M.n co,.slice ho l ch],.int .i64 i,.int .i64 j] w
  fun e w'=>e= .returned (.bool (b1_ M f i j))/\Below w.heap.size w w':=by
 have B2:Below w.heap.size w (w.alloc (.cells #[.slice (some ⟨go,0,none⟩) M.n co,.slice ho l ch] 215)):=
  br__.alloc lr__ _
 have hM2:=hM.below B2;have hf2:=hf.below B2;have p0:=hM2.p0;have p1:=hM2.p1;have hai:=hM2.acc i hi;have haj:=hM2.acc j hj;clear hM hf;by_cases hacc:M.acc i=M.acc j
 . have hb:(M.acc i !=M.acc j)=false:=by simp[hacc]
   rw[show b1_ M f i j=d8_ M f i j 8 by simp[b1_,hacc]];rw[hacc]at hai hb;clear hacc;go_enter func187,ntmps187;go_wp2
   go_quiet (fail);go_wp2
   go_loopw [9] (fun k' wr=>∃k:Nat,∃q:Nat,k<=8/\k'= .int .i64 k/\d8_ M f i j k=true/\
    wr=(w.alloc (.cells #[.slice (some ⟨go,0,none⟩) M.n co,.slice ho l ch] 215)).drewN q)
    (fun k' _=>8 - (intOf k').toNat)
   case atStart=>exact⟨0,_,o_,rfl,rfl,rfl⟩
   case round=>
    obtain⟨k,q,hk,rfl,hal,rfl⟩:=hrel;clear hai haj hb;by_cases hlt:k<8
    . have c1:=hM2.cel i k hi hlt;have c2:=hM2.cel j k hj hlt;have n1:=hnx i k hi hlt;have n2:=hnx j k hj hlt;have d1:=hf2 _ n1;have d2:=hf2 _ n2;by_cases hne:f (M.nxt i k)=f (M.nxt j k)
      . have HA:Hid (d8_ M f i j (k+1)=true):=by simp[Hid,d8_,hal,hne]
        have hbn:(((f (M.nxt j k):Nat):Int) !=((f (M.nxt j k):Nat):Int))=false:=i_;rw[hne]at d1;clear hal hM2 hf2 hnx hne;go_wp2_with fail;go_quiet (fail);go_wp2
        go_roundw
        case rel=>exact⟨k+1,_,o_,by go_num,HA.out,rfl⟩
        case measure=>simp[intOf];omega
      . have HA:Hid (d8_ M f i j 8=false):=tj_ M f i j (k+1) 8 o_ (by simp[d8_,hne]);have hbn:(((f (M.nxt i k):Nat):Int)==((f (M.nxt j k):Nat):Int))=false:=s_;clear hal hM2 hf2 hnx hne;go_wp2_with fail;go_quiet (fail);go_wp2
        go_ret;exact⟨bh_ HA.out.symm,below_drewN (below_drewN B2 _) _⟩
    . have e:k=8:=o_;subst e;have HA:Hid (d8_ M f i j 8=true):=hal;clear hal hM2 hf2 hnx;go_wp2
      go_ret;exact⟨bh_ HA.out.symm,below_drewN B2 _⟩
 . have hb:(M.acc i==M.acc j)=false:=by simp[hacc]
   rw[show b1_ M f i j=false by simp[b1_,hacc]];clear hacc;go_enter func187,ntmps187;go_wp2
   go_quiet (fail);go_wp2
   go_ret;exact⟨rfl,below_drewN B2 _⟩
theorem aeq_ (gw ga ca gn cn go co l0 c0 gh l ch:Nat)(h0 ho:Option Addr)(M:Tab)(f hd:Nat->Nat)(i:Nat)(w:World)(hM:ez_ w gw ga ca gn cn M)(hf:ch_ w go M.n f)
 (hho:0<l->ho=some ⟨gh,0,none⟩) (hh:ch_ w gh l hd) (hl:l<=100000000) (hhd:∀c,c<l->hd c<M.n)
 (hi:i<M.n) (hn:M.n<=100000000) (hnx:∀i c,i<M.n->c<8->M.nxt i c<M.n):
 Calls prog 181 #[.pointer (some ⟨gw,0,none⟩),.agg #[.slice (some ⟨go,0,none⟩) M.n co,.slice h0 l0 c0],.slice ho l ch,.int .i64 i] w
  fun e w'=>(∃r:Nat,r<=l/\(∀c,c<r->b1_ M f (hd c) i=false)/\(r<l->b1_ M f (hd r) i=true)/\e= .returned (.int .i64 r))/\Below w.heap.size w w':=by
 have B2:Below w.heap.size w (w.alloc (.cells #[.slice (some ⟨go,0,none⟩) M.n co,.slice h0 l0 c0] 215)):=
  br__.alloc lr__ _
 go_enter func181,ntmps181;go_wp2
 go_loopw [9,10,13] (fun _ _ k' wr=>∃k:Nat,k<=l/\k'= .int .i64 k/\(∀c,c<k->b1_ M f (hd c) i=false)/\
  Below (w.heap.size+1) (w.alloc (.cells #[.slice (some ⟨go,0,none⟩) M.n co,.slice h0 l0 c0] 215)) wr)
  (fun _ _ k' _=>l - (intOf k').toNat)
 case atStart=>exact⟨0,o_,rfl,by intro c hc;omega,br__⟩
 case round=>
  obtain⟨k,hk,rfl,hal,hb⟩:=hrel;have hbw:Below w.heap.size w wr:=B2.trans (hb.mono o_);have y0:=hb.cell (p:=⟨w.heap.size,0,none⟩) i_;have y1:=hb.cell (p:=⟨w.heap.size,1,none⟩) i_;simp at y0 y1;by_cases hlt:k<l
  . obtain rfl:=hho o_;have hk2:=hh.below hbw k hlt;have hdk:=hhd k hlt;have HC:=act_ gw ga ca gn cn go co 0 l0 c0 h0 M f (hd k) i wr (hM.below hbw) (hf.below hbw) hdk hi hn hnx;have HR:Hid (∀c,c<k->b1_ M f (hd c) i=false):=hal;have HB:Hid (Below (w.heap.size+1) (w.alloc (.cells #[.slice (some ⟨go,0,none⟩) M.n co,.slice h0 l0 c0] 215)) wr):=hb;have hbs:w.heap.size+1<=wr.heap.size:=by have:=hb.size;simp at this;omega
    clear hal hb hh hhd hf hM hnx hho;cases hv:b1_ M f (hd k) i
    . rw[hv]at HC;have HV:Hid (b1_ M f (hd k) i=false):=hv;clear hv;go_wp2_with (go_at_call 187;refine HC.mono ?_;rintro e w' ⟨rfl,hb'⟩);go_roundw
      case rel=>
       refine⟨k+1,o_,by go_num, ?_,HB.out.trans (hb'.mono hbs)⟩;intro c hc;by_cases e:c=k
       . subst e;exact HV.out
       . exact HR.out c o_
      case measure=>simp[intOf];omega
    . rw[hv]at HC;have HV:Hid (b1_ M f (hd k) i=true):=hv;clear hv;go_wp2_with (go_at_call 187;refine HC.mono ?_;rintro e w' ⟨rfl,hb'⟩);go_ret;exact⟨⟨k,o_,HR.out,fun _=>HV.out,rfl⟩,hbw.trans (hb'.mono o_)⟩
  . have e:k=l:=o_;subst e;have HR:Hid (∀c,c<k->b1_ M f (hd c) i=false):=hal;clear hal hb hh hhd hf hM hnx hho;go_wp2
    go_ret;exact⟨⟨k,o_,HR.out,fun h=>absurd h o_,rfl⟩,hbw⟩
structure Cls (n:Nat)(f:Nat->Nat)(hs:List Nat):Prop where
 lt:∀i,i<n->f i<hs.length
 le:∀i,i<n->hs.getD (f i) 0<=i
 hd:∀c,c<hs.length->hs.getD c 0<n/\f (hs.getD c 0)=c
 inc:hs.Pairwise (·<·)
theorem uv_ (M:Tab)(f:Nat->Nat)(i:Nat):b1_ M f i i=true:=by rw[e0_];exact⟨rfl,fun _ _=>rfl⟩
theorem ne_ {M:Tab}{f:Nat->Nat}{i j:Nat}(h:b1_ M f i j=true):b1_ M f j i=true:=by
 rw[e0_]at h ⊢;exact⟨h.1.symm,fun c hc=>(h.2 c hc).symm⟩
theorem iw_ {M:Tab}{f:Nat->Nat}{i j k:Nat}(h:b1_ M f i j=true)(h':b1_ M f j k=true):b1_ M f i k=true:=by
 rw[e0_]at h h' ⊢;exact⟨h.1.trans h'.1,fun c hc=>(h.2 c hc).trans (h'.2 c hc)⟩
structure cj_ (M:Tab)(f:Nat->Nat)(s:Nat)(os hs:List Nat):Prop where
 len:os.length=s
 cls:Cls s (fun i=>os.getD i 0) hs
 yes:∀i,i<s->b1_ M f (hs.getD (os.getD i 0) 0) i=true
 no:∀i c,i<s->c<os.getD i 0->b1_ M f (hs.getD c 0) i=false
theorem cj_.nil (M:Tab)(f:Nat->Nat):cj_ M f 0 [] []:=by
 refine⟨rfl,⟨?_, ?_, ?_,i_⟩, ?_, ?_⟩<;>intros<;>first|omega|simp_all
theorem g5_ (l:List Nat)(x i:Nat)(h:i<l.length):(l++ [x]).getD i 0=l.getD i 0:=by
 simp[List.getD_eq_getElem?_getD,List.getElem?_append_left h]
theorem ix_ (l:List Nat)(x:Nat):(l++ [x]).getD l.length 0=x:=by
 simp[List.getD_eq_getElem?_getD]
theorem cj_.old {M:Tab}{f:Nat->Nat}{s:Nat}{os hs:List Nat}(h:cj_ M f s os hs)(r:Nat)(hr:r<hs.length)(hy:b1_ M f (hs.getD r 0) s=true)(hn:∀c,c<r->b1_ M f (hs.getD c 0) s=false):
 cj_ M f (s+1) (os++ [r]) hs:=by
 have hl:=h.len;have e1:∀i,i<s->(os++ [r]).getD i 0=os.getD i 0:=fun i hi=>g5_ os r i o_
 have e2:(os++ [r]).getD s 0=r:=by rw[<-hl];exact ix_ os r
 refine⟨by simp[hl],⟨?_, ?_, ?_,h.cls.inc⟩, ?_, ?_⟩
 . intro i hi;show(os++ [r]).getD i 0<_
   by_cases e:i=s
   . subst e;rw[e2];exact hr
   . rw[e1 i o_];exact h.cls.lt i o_
 . intro i hi;show hs.getD ((os++ [r]).getD i 0) 0<=i
   by_cases e:i=s
   . subst e;rw[e2];have:=(h.cls.hd r hr).1;omega
   . rw[e1 i o_];exact h.cls.le i o_
 . intro c hc;have:=h.cls.hd c hc;refine⟨o_, ?_⟩;show(os++ [r]).getD (hs.getD c 0) 0=c
   rw[e1 _ this.1];exact this.2
 . intro i hi;by_cases e:i=s
   . subst e;rw[e2];exact hy
   . rw[e1 i o_];exact h.yes i o_
 . intro i c hi hc;by_cases e:i=s
   . subst e;rw[e2]at hc;exact hn c hc
   . rw[e1 i o_]at hc;exact h.no i c o_ hc
theorem cj_.new {M:Tab}{f:Nat->Nat}{s:Nat}{os hs:List Nat}(h:cj_ M f s os hs)(hn:∀c,c<hs.length->b1_ M f (hs.getD c 0) s=false):
 cj_ M f (s+1) (os++ [hs.length]) (hs++ [s]):=by
 have hl:=h.len;have e1:∀i,i<s->(os++ [hs.length]).getD i 0=os.getD i 0:=fun i hi=>g5_ os _ i o_
 have e2:(os++ [hs.length]).getD s 0=hs.length:=by rw[<-hl];exact ix_ os _
 have e3:∀c,c<hs.length->(hs++ [s]).getD c 0=hs.getD c 0:=fun c hc=>g5_ hs s c hc
 have e4:(hs++ [s]).getD hs.length 0=s:=ix_ hs s;refine⟨by simp[hl],⟨?_, ?_, ?_, ?_⟩, ?_, ?_⟩
 . intro i hi;show(os++ [hs.length]).getD i 0<_
   by_cases e:i=s
   . subst e;rw[e2];simp
   . rw[e1 i o_,List.length_append];have:os.getD i 0<hs.length:=h.cls.lt i o_;simp only[List.length_singleton];omega
 . intro i hi;show(hs++ [s]).getD ((os++ [hs.length]).getD i 0) 0<=i
   by_cases e:i=s
   . subst e;rw[e2,e4];exact lr__
   . rw[e1 i o_,e3 _ (h.cls.lt i o_)];exact h.cls.le i o_
 . intro c hc;by_cases e:c=hs.length
   . subst e;rw[e4];exact⟨o_,e2⟩
   . have hc':c<hs.length:=by simp at hc;omega
     have:=h.cls.hd c hc';rw[e3 c hc'];exact⟨o_,(e1 _ this.1).trans this.2⟩
 . rw[List.pairwise_append];refine⟨h.cls.inc,i_, ?_⟩;intro a ha b hb;simp at hb;subst hb;obtain⟨c,hc,rfl⟩:=List.getElem_of_mem ha;have:=(h.cls.hd c hc).1;rw[List.getD_eq_getElem?_getD,List.getElem?_eq_getElem hc]at this;exact this
 . intro i hi;by_cases e:i=s
   . subst e;rw[e2,e4];exact uv_ M f i
   . rw[e1 i o_,e3 _ (h.cls.lt i o_)];exact h.yes i o_
 . intro i c hi hc;by_cases e:i=s
   . subst e;rw[e2]at hc;rw[e3 c hc];exact hn c hc
   . rw[e1 i o_]at hc;rw[e3 c (by have:=h.cls.lt i o_;omega)];exact h.no i c o_ hc
theorem cj_.same {M:Tab}{f:Nat->Nat}{s:Nat}{os hs:List Nat}(h:cj_ M f s os hs)(i j:Nat)(hi:i<s)(hj:j<s):os.getD i 0=os.getD j 0↔b1_ M f i j=true:=by
 constructor
 . intro e;have h1:=h.yes i hi;have h2:=h.yes j hj;rw[e]at h1;exact iw_ (ne_ h1) h2
 . intro e;rcases Nat.lt_trichotomy (os.getD i 0) (os.getD j 0)with hlt|heq|hgt
   . have:=h.no j _ hj hlt;rw[iw_ (h.yes i hi) e]at this;cases this
   . exact heq
   . have:=h.no i _ hi hgt;rw[iw_ (h.yes j hj) (ne_ e)]at this;cases this
theorem cj_.heads {M:Tab}{f:Nat->Nat}{s:Nat}{os hs:List Nat}(h:cj_ M f s os hs)(c d:Nat)(hcd:c<d)(hd:d<hs.length):b1_ M f (hs.getD c 0) (hs.getD d 0)=false:=by
 have:=h.cls.hd d hd;exact h.no _ c this.1 (by rw[this.2];exact hcd)
def ints (l:List Nat):List Value:=l.map fun k:Nat=> .int .i64 (k:Int)
theorem ag_ {w:World}{o:Obj}{k:Nat}(h:k=w.heap.size):(w.alloc o).heap[k]? =some o:=by subst h;exact heap_alloc_new w o
theorem ah_ {w:World}{o o':Obj}{k:Nat}(h:w.heap[k]? =some o'):(w.alloc o).heap[k]? =some o':=by rw[Below.heap_alloc w o k (ac_ h)];exact h
theorem tk_ (w:World)(a:Addr)(u v:Value)(t:TypeId):∀j x,[v][j]? =some x->((w.setCell a u).alloc (.cells #[v] t)).cell? ((⟨w.heap.size,0,none⟩:Addr).add j)=some x:=by
 have h:=cell_one_new (w.setCell a u) v t;have hs:(w.setCell a u).heap.size=w.heap.size:=by simp[World.setCell]
 rw[hs]at h;exact h
theorem hz_ (l:List Nat)(x:Nat):ints l++ [.int .i64 (x:Int)]=ints (l++ [x]):=by simp[ints]
theorem if_ {w:World}{g n:Nat}{l:List Nat}(hl:l.length=n)(h:∀j,j<n*1->w.cell? ⟨g,j,none⟩=(ints l)[j]?):ch_ w g n (fun i=>l.getD i 0):=by
 intro i hi;rw[h i o_];simp[ints,List.getD_eq_getElem?_getD,List.getElem?_eq_getElem (show i<l.length by omega)]
theorem du_:(prog.info? 3).map (fun i=>(i.zero,i.size,i.bytes))=some (some (.int .i64 0),1,8):=k_
def zz_ (M:Tab)(f:Nat->Nat)(most:Nat)(w:World)(e:Ending)(w':World):Prop:=
 Below w.heap.size w w'/\∃vo gh ch os hs,e= .returned (.agg #[vo,.slice (some ⟨gh,0,none⟩) hs.length ch])/\w.heap.size<=gh/\ch_ w' gh hs.length (fun i=>hs.getD i 0)/\
  ((hs.length<=most/\(∃go co,vo= .slice (some ⟨go,0,none⟩) M.n co/\w.heap.size<=go/\ch_ w' go M.n (fun i=>os.getD i 0))/\cj_ M f M.n os hs)\/
   (hs.length=most+1/\(∃ao lo co,vo= .slice ao lo co)/\(∀c,c<hs.length->hs.getD c 0<M.n)/\∀c d,c<d->d<hs.length->b1_ M f (hs.getD c 0) (hs.getD d 0)=false))
theorem acu_ (gw ga ca gn cn go co l0 c0:Nat)(h0:Option Addr)(M:Tab)(f:Nat->Nat)(most:Nat)(w:World)(hM:ez_ w gw ga ca gn cn M)(hf:ch_ w go M.n f)
 (hm0:1<=most) (hm1:most<=40) (hn0:1<=M.n) (hn:M.n<=100000000) (hnx:∀i c,i<M.n->c<8->M.nxt i c<M.n):
 Calls prog 166 #[.pointer (some ⟨gw,0,none⟩),.agg #[.slice (some ⟨go,0,none⟩) M.n co,.slice h0 l0 c0],.int .i64 most] w
  (zz_ M f most w):=by
 obtain⟨i0,hi,hz0,hz1,hz2⟩:=info_parts du_;obtain⟨W,hW,BW,-,k4,k5⟩:=n3__ w #[.slice (some ⟨go,0,none⟩) M.n co,.slice h0 l0 c0] 215 #[.slice none 0 0,.slice none 0 0] 215 #[.slice none 0 0,.slice none 0 0] 215;have hWs:W.heap.size=w.heap.size+3:=by rw[hW];simp
 have k2:W.cell? ⟨w.heap.size,0,none⟩=some (.slice (some ⟨go,0,none⟩) M.n co):=by rw[hW];simp[go_sem]
 have k3:W.cell? ⟨w.heap.size,1,none⟩=some (.slice h0 l0 c0):=by rw[hW];simp[go_sem]
 have HW:=hW;go_enter func166,ntmps166;go_wp2
 rw[<-hW];clear hW HW;have T0:bd_ W (w.heap.size+1+1) 215 3 1 3 1 W (.slice none 0 0) (.slice none 0 0) 0 0 [] []:=
  ⟨br__,k5,on__,on__,by intro g h;simp[Value.ownBlock]at h⟩
 go_loopw [8,9] (fun st _ wr=>∃s:Nat,∃os hs:List Nat,∃vo vh:Value,s<=M.n/\st= .int .i64 s/\hs.length<=most/\cj_ M f s os hs/\
  bd_ W (w.heap.size+1+1) 215 3 1 3 1 wr vo vh s hs.length (ints os) (ints hs))
  (fun st _ _=>M.n - (intOf st).toNat)
 case atStart=>exact⟨0,[],[],_,_,o_,rfl,i_,cj_.nil M f,T0⟩
 case round=>
  obtain⟨s,os,hs,vo,vh,hs1,rfl,hhm,hrel,hT⟩:=hrel;clear T0;have hbW:Below (w.heap.size+1+1) W wr:=hT.blw;have hbw:Below w.heap.size w wr:=BW.trans (hbW.mono o_);have x0:=(hM.below hbw).p0;have x2:=(hbW.cell (p:=⟨w.heap.size,0,none⟩) l_).trans k2;have x3:=(hbW.cell (p:=⟨w.heap.size,1,none⟩) l_).trans k3;obtain⟨y0,y1,z0,z1⟩:=aa_ hT.blk;have hq:wr.heap[w.heap.size+1]? =some (.cells #[.slice none 0 0,.slice none 0 0] 215 (0,0)):=(hbW.block _ o_).trans k4;obtain⟨q0,q1,p0,p1⟩:=aa_ hq;obtain⟨ah,ch,rfl,hah⟩:=af_ hT.own1;obtain⟨ao,co',rfl,hao⟩:=af_ hT.own0;have hl:=hrel.cls.hd;by_cases hlt:s<M.n
  . obtain⟨gh,hgh⟩:∃gh,(0<hs.length->ah=some ⟨gh,0,none⟩)/\ch_ wr gh hs.length (fun i=>hs.getD i 0):=by
     by_cases h0:0<hs.length
     . obtain⟨g,hg,hc⟩:=hah h0;exact⟨g,fun _=>hg,if_ rfl hc⟩
     . exact⟨0,fun h=>absurd h h0,fun i hi=>absurd hi o_⟩
    have HC:=aeq_ gw ga ca gn cn go co l0 c0 gh hs.length ch h0 ah M f (fun i=>hs.getD i 0) s wr (hM.below hbw) (hf.below hbw) hgh.1 hgh.2 o_ (fun c hc=>by have:=(hl c hc).1;omega) hlt hn hnx;have HT:Hid (bd_ W (w.heap.size+1+1) 215 3 1 3 1 wr (.slice ao s co') (.slice ah hs.length ch) s hs.length (ints os) (ints hs)):=hT;have HR:Hid (cj_ M f s os hs):=hrel;clear hT hrel hM hf hnx hah hao hl hgh;go_wp2_with fail;refine HC.mono ?_;rintro e w1 ⟨⟨r,hr,hno,hyes,rfl⟩,hb1⟩;clear HC x0 x2 x3 y0 y1 z0 z1 hq q0 q1 p0 p1;have hT1:=HT.out.below hb1;have hbW1:Below (w.heap.size+1+1) W w1:=hT1.blw;have HNO:Hid (∀c,c<r->b1_ M f (hs.getD c 0) s=false):=hno;have HYES:Hid (r<hs.length->b1_ M f (hs.getD r 0) s=true):=hyes;clear hno hyes HT;have x2:=(hbW1.cell (p:=⟨w.heap.size,0,none⟩) l_).trans k2;have x3:=(hbW1.cell (p:=⟨w.heap.size,1,none⟩) l_).trans k3;obtain⟨y0,y1,z0,z1⟩:=aa_ hT1.blk;have hsz:=ac_ hT1.blk;have HT:Hid (bd_ W (w.heap.size+1+1) 215 3 1 3 1 w1 (.slice ao s co') (.slice ah hs.length ch) s hs.length (ints os) (ints hs)):=hT1;have HB1:Hid (Below wr.heap.size wr w1):=hb1;have HBW:=hi__ hbw;clear hT1 hb1 hbW1 hbw hbW;by_cases hrl:r<hs.length
    . have hbn:((r:Int)==(hs.length:Int))=false:=s_;have HTa:=HT.out.below (br__.alloc lr__ (.cells #[.int .i64 (r:Int)] 3));have hna:=HTa.own0;have hbo:w.heap.size+1+1+1<=(w1.alloc (.cells #[.int .i64 (r:Int)] 3)).heap.size:=s_;have HTA:Hid (bd_ W (w.heap.size+1+1) 215 3 1 3 1 (w1.alloc (.cells #[.int .i64 (r:Int)] 3)) (.slice ao s co') (.slice ah hs.length ch) s hs.length (ints os) (ints hs)):=HTa;clear HTa;go_wp2_with (at_builtin;refine ae_ _ rfl _ _ 24 rfl (w.heap.size+1+1+1) 3 i0 (.int .i64 0) 1 8 underlying24 hi hz0 hz1 hz2 rfl d_ _ s (ints os) rfl hna ⟨w1.heap.size,0,none⟩ 1 1 [.int .i64 (r:Int)] rfl rfl (cell_one_new _ _ _) (oc__ rfl) d_ u_ o_ hbo ?_;intro g cap w2 hown hgr hfr;obtain⟨y0',y1',z0',z1'⟩:=aa_ (HTA.out.grown0 hgr));go_roundw
      case rel=>
       have hP:=HTA.out.put0 hown hgr hfr;rw[show ints os++ [.int .i64 (r:Int)]=ints (os++ [r])from hz_ os r]at hP;exact⟨s+1,os++ [r],hs,_,_,o_,by go_num,hhm,HR.out.old r hrl (HYES.out hrl) HNO.out,hP⟩
      case measure=>simp[intOf];omega
    . have hre:r=hs.length:=o_;subst hre;have HTa:=HT.out.below (br__.alloc lr__ (.cells #[.int .i64 (s:Int)] 3));have hna:=HTa.own1;have hbo:w.heap.size+1+1+1<=(w1.alloc (.cells #[.int .i64 (s:Int)] 3)).heap.size:=s_;have HTA:Hid (bd_ W (w.heap.size+1+1) 215 3 1 3 1 (w1.alloc (.cells #[.int .i64 (s:Int)] 3)) (.slice ao s co') (.slice ah hs.length ch) s hs.length (ints os) (ints hs)):=HTa;clear HTa;have HT2:∀g cap w2,w2.ownsRow (w.heap.size+1+1+1) 3 1 (.slice (some ⟨g,0,none⟩) (hs.length+1) cap) (hs.length+1) (ints hs++ [.int .i64 (s:Int)])->
       (w1.alloc (.cells #[.int .i64 (s:Int)] 3)).grownBy w2 (Value.slice ah hs.length ch).ownBlock->((Value.slice ah hs.length ch).ownBlock=some g\/g=(w1.alloc (.cells #[.int .i64 (s:Int)] 3)).heap.size)->
       Hid (bd_ W (w.heap.size+1+1) 215 3 1 3 1 ((w2.setCell ⟨w.heap.size+1+1,1,none⟩ (.slice (some ⟨g,0,none⟩) (hs.length+1) cap)).alloc (.cells #[.int .i64 (hs.length:Int)] 3))
        (.slice ao s co') (.slice (some ⟨g,0,none⟩) (hs.length+1) cap) s (hs.length+1) (ints os) (ints hs++ [.int .i64 (s:Int)])):=fun g cap w2 ho hg hf=>
       (HTA.out.put1 ho hg hf).below ba__
      have q2:∀g cap w2,w2.ownsRow (w.heap.size+1+1+1) 3 1 (.slice (some ⟨g,0,none⟩) (hs.length+1) cap) (hs.length+1) (ints hs++ [.int .i64 (s:Int)])->
       (w1.alloc (.cells #[.int .i64 (s:Int)] 3)).grownBy w2 (Value.slice ah hs.length ch).ownBlock->((Value.slice ah hs.length ch).ownBlock=some g\/g=(w1.alloc (.cells #[.int .i64 (s:Int)] 3)).heap.size)->
       w2.heap[w.heap.size+1]? =some (.cells #[.slice none 0 0,.slice none 0 0] 215 (0,0)):=fun g cap w2 ho hg hf=>by
       have h1:=hg.block (w.heap.size+1) s_ (fun e=>by have:=(HTA.out.own1.lt _ e.symm).1;omega);rw[h1,HTA.out.blw.block _ o_];exact k4
      by_cases hmo:hs.length+1<=most
      . have HNO2:=HNO;go_wp2_with (first|(at_builtin;refine ae_ _ rfl _ _ 24 rfl (w.heap.size+1+1+1) 3 i0 (.int .i64 0) 1 8 underlying24 hi hz0 hz1 hz2 rfl d_ _ hs.length (ints hs) rfl hna ⟨w1.heap.size,0,none⟩ 1 1 [.int .i64 (s:Int)] rfl rfl (cell_one_new _ _ _) (oc__ rfl) d_ u_ o_ hbo ?_;intro g cap w2 hown hgr hfr;obtain⟨y0',y1',z0',z1'⟩:=aa_ (HTA.out.grown1 hgr);have hq2:=q2 g cap w2 hown hgr hfr;obtain⟨q0,q1,p0,p1⟩:=aa_ hq2)|(at_builtin;refine ae_ _ rfl _ _ 24 rfl (w.heap.size+1+1+1) 3 i0 (.int .i64 0) 1 8 underlying24 hi hz0 hz1 hz2 rfl d_ _ s (ints os) rfl (HT2 g cap w2 hown hgr hfr).out.own0 ⟨w2.heap.size,0,none⟩ 1 1 [.int .i64 (hs.length:Int)] rfl rfl (tk_ _ _ _ _ _) (oc__ rfl) d_ u_ o_ (by have:=hgr.size;simp at this ⊢;omega) ?_;intro g2 cap2 w3 hown2 hgr2 hfr2;obtain⟨y0',y1',z0',z1'⟩:=aa_ ((HT2 g cap w2 hown hgr hfr).out.grown0 hgr2)));go_roundw
        case rel=>
         have hP:=(HT2 g cap w2 hown hgr hfr).out.put0 hown2 hgr2 hfr2;rw[show ints os++ [.int .i64 (hs.length:Int)]=ints (os++ [hs.length])from hz_ os _,show ints hs++ [.int .i64 (s:Int)]=ints (hs++ [s])from hz_ hs _]at hP;exact⟨s+1,os++ [hs.length],hs++ [s],_,_,o_,by go_num,s_,HR.out.new HNO.out,by simpa using hP⟩
        case measure=>simp[intOf];omega
      . go_wp2_with (at_builtin;refine ae_ _ rfl _ _ 24 rfl (w.heap.size+1+1+1) 3 i0 (.int .i64 0) 1 8 underlying24 hi hz0 hz1 hz2 rfl d_ _ hs.length (ints hs) rfl hna ⟨w1.heap.size,0,none⟩ 1 1 [.int .i64 (s:Int)] rfl rfl (cell_one_new _ _ _) (oc__ rfl) d_ u_ o_ hbo ?_;intro g cap w2 hown hgr hfr;obtain⟨y0',y1',z0',z1'⟩:=aa_ (HTA.out.grown1 hgr);have hq2:=q2 g cap w2 hown hgr hfr;obtain⟨q0,q1,p0,p1⟩:=aa_ hq2);obtain⟨r1,r2,r3⟩:=a7_ (u:= .slice ao s co') (v:= .slice (some ⟨g,0,none⟩) (hs.length+1) cap) (aj_ (a:=⟨w.heap.size+1+1,1,none⟩) (u:= .slice (some ⟨g,0,none⟩) (hs.length+1) cap) hq2 i_);refine bodyPost_ret (v:= .agg #[.slice ao s co',.slice (some ⟨g,0,none⟩) (hs.length+1) cap]) (by simp[results,results166,go_sem,r1,r2]) rfl ?_;have hT2:=HTA.out.put1 hown hgr hfr;have hB:=(hT2.blw.mono (B':=w.heap.size+1) o_).setCell (p:=⟨w.heap.size+1,0,none⟩) lr__ (.slice ao s co');have hB2:=hB.setCell (p:=⟨w.heap.size+1,1,none⟩) lr__ (.slice (some ⟨g,0,none⟩) (hs.length+1) cap);have hO:=ownsRow_setCell_below (ownsRow_setCell_below hT2.own1 (a:=⟨w.heap.size+1,0,none⟩) i_ (.slice ao s co')) (a:=⟨w.heap.size+1,1,none⟩) i_ (.slice (some ⟨g,0,none⟩) (hs.length+1) cap);have hN:=HR.out.new HNO.out;have hc:=hO.cellAt;rw[hz_]at hc;refine⟨BW.trans (hB2.mono o_),.slice ao s co',g,cap,os,hs++ [s],i_,by have:=(hT2.own1.lt g rfl).1;omega, ?_,.inr ⟨s_,⟨_,_,_,rfl⟩,fun c hc=> ?_,hN.heads⟩⟩
        . exact if_ rfl (fun j hj=>hc j (by simpa using hj))
        . have:=(hN.cls.hd c hc).1;omega
  . have hse:s=M.n:=o_;subst hse;have HT:Hid (bd_ W (w.heap.size+1+1) 215 3 1 3 1 wr (.slice ao M.n co') (.slice ah hs.length ch) M.n hs.length (ints os) (ints hs)):=hT;have HR:Hid (cj_ M f M.n os hs):=hrel;clear hT hrel hM hf hnx hl;go_wp2
    obtain⟨r1,r2,r3⟩:=a7_ (u:= .slice ao M.n co') (v:= .slice ah hs.length ch) hq;refine bodyPost_ret (v:= .agg #[.slice ao M.n co',.slice ah hs.length ch]) (by simp[results,results166,go_sem,r1,r2]) rfl ?_;have hB:=(HT.out.blw.mono (B':=w.heap.size+1) o_).setCell (p:=⟨w.heap.size+1,0,none⟩) lr__ (.slice ao M.n co');have hB2:=hB.setCell (p:=⟨w.heap.size+1,1,none⟩) lr__ (.slice ah hs.length ch);have hO0:=ownsRow_setCell_below (ownsRow_setCell_below HT.out.own0 (a:=⟨w.heap.size+1,0,none⟩) i_ (.slice ao M.n co')) (a:=⟨w.heap.size+1,1,none⟩) i_ (.slice ah hs.length ch);have hO1:=ownsRow_setCell_below (ownsRow_setCell_below HT.out.own1 (a:=⟨w.heap.size+1,0,none⟩) i_ (.slice ao M.n co')) (a:=⟨w.heap.size+1,1,none⟩) i_ (.slice ah hs.length ch);have hlen:0<hs.length:=by have:=HR.out.cls.lt 0 o_;omega
    obtain⟨gh,rfl,_⟩:=hah hlen;obtain⟨go',rfl,_⟩:=hao o_;exact⟨BW.trans (hB2.mono o_),_,gh,ch,os,hs,rfl,by have:=(hO1.lt gh rfl).1;omega,if_ rfl (fun j hj=>hO1.cellAt j hj),.inl ⟨hhm,⟨go',co',rfl,by have:=(hO0.lt go' rfl).1;omega,if_ HR.out.len (fun j hj=>hO0.cellAt j hj)⟩,HR.out⟩⟩
theorem lk_:∀(l' l:List Nat),l.Pairwise (·<·)->l'.Pairwise (·<·)->(∀a∈l,a∈l')->l.Sublist l':=by
 intro l';induction l' with
 |nil=>intro l _ _ h;cases l with
  |nil=>exact List.Sublist.slnil
  |cons a s=>exact absurd (h a i_) i_
 |cons b t ih=>
  intro l hl hl' h;cases l with
  |nil=>exact List.nil_sublist _
  |cons a s=>
   rw[List.pairwise_cons]at hl hl';by_cases e:a=b
   . subst e;refine List.Sublist.cons_cons a (ih s hl.2 hl'.2 ?_);intro x hx;have:=h x (by simp[hx]);rcases List.mem_cons.1 this with rfl|h'
     . exact absurd (hl.1 _ hx) o_
     . exact h'
   . refine List.Sublist.cons b (ih (a::s) (List.pairwise_cons.2 hl) hl'.2 ?_);have ha:a∈t:=by
      rcases List.mem_cons.1 (h a i_)with h'|h'
      . exact absurd h' e
      . exact h'
     have hba:=hl'.1 a ha;intro x hx;rcases List.mem_cons.1 (h x hx)with h'|h'
     . subst h';rcases List.mem_cons.1 hx with h''|h''
       . omega
       . have:=hl.1 x h'';omega
     . exact h'
theorem ds_ (l:List Nat)(c:Nat)(h:c<l.length):l.getD c 0∈l:=by
 rw[List.getD_eq_getElem?_getD,List.getElem?_eq_getElem h];exact List.getElem_mem h
theorem ny_ {l:List Nat}{a:Nat}(h:a∈l):∃c,c<l.length/\l.getD c 0=a:=by
 obtain⟨c,hc,rfl⟩:=List.getElem_of_mem h;exact⟨c,hc,by rw[List.getD_eq_getElem?_getD,List.getElem?_eq_getElem hc];rfl⟩
theorem Cls.sub {n:Nat}{f f':Nat->Nat}{hs hs':List Nat}(h:Cls n f hs)(h':Cls n f' hs')(hr:∀i j,i<n->j<n->f' i=f' j->f i=f j):∀a∈hs,a∈hs':=by
 intro a ha;obtain⟨c,hc,rfl⟩:=ny_ ha;have h1:=h.hd c hc;have hlt:=h'.lt _ h1.1;have hle:=h'.le _ h1.1;have h2:=h'.hd _ hlt;have h3:=hr _ _ h2.1 h1.1 h2.2;have h4:=h.le _ h2.1;rw[h3,h1.2]at h4;have:hs'.getD (f' (hs.getD c 0)) 0=hs.getD c 0:=o_;rw[<-this];exact ds_ _ _ hlt
theorem Cls.len_le {n:Nat}{f f':Nat->Nat}{hs hs':List Nat}(h:Cls n f hs)(h':Cls n f' hs')(hr:∀i j,i<n->j<n->f' i=f' j->f i=f j):hs.length<=hs'.length:=
 (lk_ hs' hs h.inc h'.inc (h.sub h' hr)).length_le
theorem Cls.eq_of_len {n:Nat}{f f':Nat->Nat}{hs hs':List Nat}(h:Cls n f hs)(h':Cls n f' hs')(hr:∀i j,i<n->j<n->f' i=f' j->f i=f j)(hl:hs.length=hs'.length):
 hs=hs'/\∀i,i<n->f i=f' i:=by
 have e:=(lk_ hs' hs h.inc h'.inc (h.sub h' hr)).eq_of_length hl;subst e;refine⟨rfl,fun i hi=> ?_⟩;have h1:=h'.hd _ (h'.lt i hi);have h2:=hr _ _ h1.1 hi h1.2;rw[<-h2];exact(h.hd _ (h'.lt i hi)).2
theorem w9_ {c:Nat}{x:List Nat}(hc:c<8)(hx:ax_ x):ax_ (c::x):=by
 intro d hd;rcases List.mem_cons.1 hd with h|h
 . omega
 . exact hx d h
def d9_ (M:Tab)(i j:Nat):Prop:=∃x,ax_ x/\M.acc (M.read i x)≠M.acc (M.read j x)
structure Mid (M:Tab)(f:Nat->Nat)(hs:List Nat):Prop where
 cls:Cls M.n f hs
 apart:∀i j,i<M.n->j<M.n->f i≠f j->d9_ M i j
theorem h0_ {M:Tab}{f:Nat->Nat}(hnx:∀i c,i<M.n->c<8->M.nxt i c<M.n)(hap:∀i j,i<M.n->j<M.n->f i≠f j->d9_ M i j)(i j:Nat)(hi:i<M.n)(hj:j<M.n)(h:b1_ M f i j=false):d9_ M i j:=by
 rw[Bool.eq_false_iff]at h;by_cases ha:M.acc i=M.acc j
 . have:¬∀c,c<8->f (M.nxt i c)=f (M.nxt j c):=fun hc=>h ((e0_ M f i j).2 ⟨ha,hc⟩)
   have:∃c,c<8/\f (M.nxt i c)≠f (M.nxt j c):=Classical.byContradiction fun hn=>this fun c hc=>Classical.byContradiction fun hne=>hn ⟨c,hc,hne⟩
   obtain⟨c,hc,hne⟩:=this;obtain⟨x,hx,hd⟩:=hap _ _ (hnx i c hi hc) (hnx j c hj hc) hne;exact⟨c::x,w9_ hc hx,by simpa [Tab.read] using hd⟩
 . exact⟨[],by intro c hc;simp at hc,by simpa [Tab.read] using ha⟩
theorem Mid.step {M:Tab}{f:Nat->Nat}{hs os hs':List Nat}(hnx:∀i c,i<M.n->c<8->M.nxt i c<M.n)(h:Mid M f hs)(h':cj_ M f M.n os hs'):Mid M (fun i=>os.getD i 0) hs' where
 cls:=h'.cls
 apart i j hi hj hne:=h0_ hnx h.apart i j hi hj (by
  rw[Bool.eq_false_iff];intro e;exact hne ((h'.same i j hi hj).2 e))
theorem Mid.first {M:Tab}(hn:1<=M.n):Mid M (fun _=>0) [0] where
 cls:=⟨fun _ _=>i_,fun i _=>i_,fun c hc=>by
  have:c=0:=by simp at hc;omega
  subst this;exact⟨s_,rfl⟩,i_⟩
 apart i j _ _ h:=absurd rfl h
def Fine (M:Tab)(f:Nat->Nat):Prop:=∀i j,i<M.n->j<M.n->b1_ M f i j=true->f i=f j
theorem Fine.first (M:Tab):Fine M (fun _=>0):=fun _ _ _ _ _=>rfl
theorem Fine.step {M:Tab}{f:Nat->Nat}{os hs':List Nat}(hnx:∀i c,i<M.n->c<8->M.nxt i c<M.n)(h:Fine M f)(h':cj_ M f M.n os hs'):Fine M (fun i=>os.getD i 0):=by
 intro i j hi hj ha;show os.getD i 0=os.getD j 0
 rw[h'.same i j hi hj,e0_];rw[e0_]at ha;refine⟨ha.1,fun c hc=> ?_⟩;have:=ha.2 c hc;have:=(h'.same _ _ (hnx i c hi hc) (hnx j c hj hc)).1 this;exact h _ _ (hnx i c hi hc) (hnx j c hj hc) this
theorem mf_ {M:Tab}{f:Nat->Nat}{hs os hs':List Nat}(h:Mid M f hs)(hf:Fine M f)(h':cj_ M f M.n os hs'):hs.length<=hs'.length:=
 h.cls.len_le h'.cls fun i j hi hj e=>hf i j hi hj ((h'.same i j hi hj).1 e)
structure fo_ (M:Tab)(f:Nat->Nat)(hs:List Nat):Prop where
 mid:Mid M f hs
 acc:∀i j,i<M.n->j<M.n->f i=f j->M.acc i=M.acc j
 nxt:∀i j c,i<M.n->j<M.n->c<8->f i=f j->f (M.nxt i c)=f (M.nxt j c)
theorem rc_ {M:Tab}{f:Nat->Nat}{hs os hs':List Nat}(hnx:∀i c,i<M.n->c<8->M.nxt i c<M.n)(h:Mid M f hs)(hf:Fine M f)(h':cj_ M f M.n os hs')(hl:hs'.length=hs.length):
 fo_ M (fun i=>os.getD i 0) hs':=by
 obtain⟨e,hs⟩:=h.cls.eq_of_len h'.cls (fun i j hi hj e=>hf i j hi hj ((h'.same i j hi hj).1 e)) hl.symm;refine⟨h.step hnx h',fun i j hi hj e=> ?_,fun i j c hi hj hc e=> ?_⟩
 . exact((e0_ M f i j).1 ((h'.same i j hi hj).1 e)).1
 . have:=((e0_ M f i j).1 ((h'.same i j hi hj).1 e)).2 c hc;rw[hs _ (hnx i c hi hc),hs _ (hnx j c hj hc)]at this;exact this
def dy_ (M:Tab)(f:Nat->Nat)(hs:List Nat):Tab where
 n:=hs.length
 acc k:=M.acc (hs.getD k 0)
 nxt k c:=f (M.nxt (hs.getD k 0) c)
theorem j1_ {M:Tab}{f:Nat->Nat}{hs:List Nat}(hnx:∀i c,i<M.n->c<8->M.nxt i c<M.n)(h:fo_ M f hs)(i:Nat)(hi:i<M.n)(x:List Nat)(hx:ax_ x):
 (dy_ M f hs).read (f i) x=f (M.read i x)/\M.read i x<M.n:=by
 induction x generalizing i with
 |nil=>exact⟨rfl,hi⟩
 |cons c x ih=>
  have hc:c<8:=hx c i_;have hx':ax_ x:=fun d hd=>hx d (by simp[hd])
  have h1:=h.mid.cls.hd _ (h.mid.cls.lt i hi);have e:(dy_ M f hs).nxt (f i) c=f (M.nxt i c):=h.nxt _ _ c h1.1 hi hc h1.2;simp only[Tab.read,List.foldl_cons,e];exact ih _ (hnx i c hi hc) hx'
theorem la_ {M:Tab}{f:Nat->Nat}{hs:List Nat}(h:fo_ M f hs)(i:Nat)(hi:i<M.n):(dy_ M f hs).acc (f i)=M.acc i:=by
 have h1:=h.mid.cls.hd _ (h.mid.cls.lt i hi);exact h.acc _ _ h1.1 hi h1.2
theorem tl_ {n:Nat}{f:Nat->Nat}{hs:List Nat}(h:Cls n f hs)(hn:1<=n):f 0=0/\hs.getD 0 0=0:=by
 have hl:=h.lt 0 o_;have hle:=h.le 0 o_;have hpos:0<hs.length:=o_;have h0:=h.hd 0 hpos;have e:hs.getD (f 0) 0=0:=o_;by_cases hf:f 0=0
 . rw[hf]at e;exact⟨hf,e⟩
 . have:=(List.pairwise_iff_getElem.1 h.inc) 0 (f 0) hpos hl o_;rw[List.getD_eq_getElem?_getD,List.getElem?_eq_getElem hl]at e;simp at e;omega
theorem pq_ {M:Tab}{f:Nat->Nat}{hs:List Nat}(hnx:∀i c,i<M.n->c<8->M.nxt i c<M.n)(h:fo_ M f hs)(hn:1<=M.n)(x:List Nat)(hx:ax_ x):(dy_ M f hs).accepts x=M.accepts x:=by
 have h0:=(tl_ h.mid.cls hn).1;have h1:=j1_ hnx h 0 o_ x hx;rw[h0]at h1;rw[Tab.accepts,h1.1,la_ h _ h1.2,Tab.accepts]
theorem tm_ {M:Tab}{f:Nat->Nat}{hs:List Nat}(hnx:∀i c,i<M.n->c<8->M.nxt i c<M.n)(h:fo_ M f hs)(k l:Nat)(hk:k<hs.length)(hl:l<hs.length)(hne:k≠l):d9_ (dy_ M f hs) k l:=by
 have h1:=h.mid.cls.hd k hk;have h2:=h.mid.cls.hd l hl;obtain⟨x,hx,hd⟩:=h.mid.apart _ _ h1.1 h2.1 (by rw[h1.2,h2.2];exact hne);have r1:=j1_ hnx h _ h1.1 x hx;have r2:=j1_ hnx h _ h2.1 x hx;rw[h1.2]at r1;rw[h2.2]at r2;refine⟨x,hx, ?_⟩;rw[r1.1,r2.1,la_ h _ r1.2,la_ h _ r2.2];exact hd
end Go.Proofs.YtpngikmcjkjdaaaGreatDoor
