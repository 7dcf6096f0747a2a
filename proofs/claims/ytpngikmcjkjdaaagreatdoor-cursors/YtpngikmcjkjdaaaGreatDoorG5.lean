import Derived.Test.YtpngikmcjkjdaaaGreatDoorG0
import Derived.Test.YtpngikmcjkjdaaaGreatDoorG4
set_option linter.unusedVariables false
set_option linter.unusedSimpArgs false
set_option maxRecDepth 20000
set_option maxHeartbeats 80000000
namespace Go.Proofs.YtpngikmcjkjdaaaGreatDoor
open Go.RowKit Tryz
def come (X:Nat->Nat->Nat):Nat->Nat
 |0=>1
 |p+1=>max (come X p) (X (p/8) (p%8)+1)
theorem mh_ (X:Nat->Nat->Nat){p q:Nat}(h:p<=q):come X p<=come X q:=by
 induction q with
 |zero=>
  have:p=0:=o_;subst this;exact lr__
 |succ q ih=>
  by_cases e:p=q+1
  . subst e;exact lr__
  . exact Nat.le_trans (ih o_) (by simp only[come];exact Nat.le_max_left _ _)
theorem vu_ (X:Nat->Nat->Nat){p q:Nat}(h:p<q):X (p/8) (p%8)<come X q:=by
 have:come X (p+1)<=come X q:=mh_ X h;simp only[come]at this;have:=Nat.le_max_right (come X p) (X (p/8) (p%8)+1);omega
theorem tv_ (X:Nat->Nat->Nat)(p:Nat):1<=come X p:=mh_ X (Nat.zero_le p)
structure cd_ (M:Tab):Prop where
 pos:1<=M.n
 nx:∀i c,i<M.n->c<8->M.nxt i c<M.n
 step:∀p,p<8*M.n->M.nxt (p/8) (p%8)<=come M.nxt p
 row:∀i,i<M.n->i<come M.nxt (8*i)
 all:come M.nxt (8*M.n)=M.n
theorem aew_ {M:Tab}(h:cd_ M):∀p,p<=8*M.n->come M.nxt p<=M.n:=by
 intro p hp;rw[<-h.all];exact mh_ _ hp
theorem cd_.first {M:Tab}(h:cd_ M)(s:Nat)(h0:0<s)(hs:s<M.n):∃p,p<8*s/\M.nxt (p/8) (p%8)=s/\come M.nxt p=s:=by
 have hrow:=h.row s hs;have:∀q,q<=8*s->s<come M.nxt q->∃p,p<q/\M.nxt (p/8) (p%8)=s/\come M.nxt p=s:=by
  intro q;induction q with
  |zero=>intro _ hc;simp[come]at hc;omega
  |succ q ih=>
   intro hq hc;by_cases hlt:s<come M.nxt q
   . obtain⟨p,hp,h1,h2⟩:=ih o_ hlt;exact⟨p,o_,h1,h2⟩
   . have hst:=h.step q o_;simp only[come]at hc;have:M.nxt (q/8) (q%8)=s/\come M.nxt q=s:=o_;exact⟨q,o_,this.1,this.2⟩
 exact this (8*s) lr__ hrow
theorem cd_.reach {M:Tab}(h:cd_ M):∀s,s<M.n->∃x,ax_ x/\M.read 0 x=s:=by
 intro s;induction s using Nat.strongRecOn with
 |_ s ih=>
  intro hs;by_cases h0:s=0
  . subst h0;exact⟨[],by intro c hc;simp at hc,rfl⟩
  . obtain⟨p,hp,h1,_⟩:=h.first s o_ hs
    obtain⟨x,hx,hr⟩:=ih (p/8) o_ o_;refine⟨x++ [p%8], ?_, ?_⟩
    . intro c hc;rcases List.mem_append.1 hc with h'|h'
      . exact hx c h'
      . simp at h';omega
    . rw[Tab.read_snoc,hr,h1]
theorem cd_.read_lt {M:Tab}(h:cd_ M)(s:Nat)(hs:s<M.n)(x:List Nat)(hx:ax_ x):M.read s x<M.n:=by
 induction x generalizing s with
 |nil=>exact hs
 |cons c x ih=>
  simp only[Tab.read,List.foldl_cons];exact ih (M.nxt s c) (h.nx s c hs (hx c i_)) (fun d hd=>hx d (by simp[hd]))
structure b8_ (M:Tab)(L:List Nat->Bool):Prop where
 num:cd_ M
 apart:∀i j,i<M.n->j<M.n->i≠j->d9_ M i j
 lang:∀x,ax_ x->M.accepts x=L x
structure aex_ (M N:Tab):Prop where
 n:M.n=N.n
 acc:∀i,i<M.n->M.acc i=N.acc i
 nxt:∀i c,i<M.n->c<8->M.nxt i c=N.nxt i c
theorem o4_ {X Y:Nat->Nat->Nat}(q:Nat)(h:∀p,p<q->X (p/8) (p%8)=Y (p/8) (p%8)):come X q=come Y q:=by
 induction q with
 |zero=>rfl
 |succ q ih=>simp only[come];rw[ih (fun p hp=>h p o_),h q o_]
section
variable {M N:Tab} {L:List Nat->Bool}
theorem o5_ (hM:b8_ M L)(hN:b8_ N L)(x:List Nat)(hx:ax_ x)(y:List Nat)(hy:ax_ y):M.acc (M.read (M.read 0 x) y)=N.acc (N.read (N.read 0 x) y):=by
 have hxy:ax_ (x++y):=fun c hc=>by
  rcases List.mem_append.1 hc with h|h
  . exact hx c h
  . exact hy c h
 have h1:=hM.lang _ hxy;have h2:=hN.lang _ hxy;simp only[Tab.accepts,Tab.read_append]at h1 h2;rw[h1,h2]
theorem meet (hM:b8_ M L)(hN:b8_ N L)(x y:List Nat)(hx:ax_ x)(hy:ax_ y)(h:M.read 0 x=M.read 0 y):N.read 0 x=N.read 0 y:=by
 apply Classical.byContradiction;intro hne;obtain⟨z,hz,hd⟩:=hN.apart _ _ (hN.num.read_lt 0 hN.num.pos x hx) (hN.num.read_lt 0 hN.num.pos y hy) hne;apply hd;rw[<-o5_ hM hN x hx z hz,<-o5_ hM hN y hy z hz,h]
theorem lm_ (hM:b8_ M L)(hN:b8_ N L):∀s,s<M.n->s<N.n/\∀x,ax_ x->M.read 0 x=s->N.read 0 x=s:=by
 intro s;induction s using Nat.strongRecOn with
 |_ s ih=>
  intro hs;by_cases h0:s=0
  . subst h0;exact⟨hN.num.pos,fun x hx h=>meet hM hN x [] hx (by intro c hc;simp at hc) h⟩
  . obtain⟨p,hp,h1,h2⟩:=hM.num.first s o_ hs
    have same:∀q,q<p->M.nxt (q/8) (q%8)=N.nxt (q/8) (q%8):=by
     intro q hq;have hlt:M.nxt (q/8) (q%8)<s:=by have:=vu_ M.nxt hq;omega
     obtain⟨x,hx,hr⟩:=hM.num.reach (q/8) o_;have hr':=(ih (q/8) o_ o_).2 x hx hr;have hx':ax_ (x++ [q%8]):=fun c hc=>by
      rcases List.mem_append.1 hc with h|h
      . exact hx c h
      . simp at h;omega
     have e:=(ih _ hlt o_).2 (x++ [q%8]) hx' (by rw[Tab.read_snoc,hr]);rw[Tab.read_snoc,hr']at e;exact e.symm
    obtain⟨x,hx,hr⟩:=hM.num.reach (p/8) o_;have hp8:=ih (p/8) o_ o_;have hr':=hp8.2 x hx hr;have hx':ax_ (x++ [p%8]):=fun c hc=>by
     rcases List.mem_append.1 hc with h|h
     . exact hx c h
     . simp at h;omega
    have hread:M.read 0 (x++ [p%8])=s:=by rw[Tab.read_snoc,hr,h1]
    have hreadN:N.read 0 (x++ [p%8])=N.nxt (p/8) (p%8):=by rw[Tab.read_snoc,hr']
    have hcome:come N.nxt p=s:=by rw[<-o4_ p same];exact h2
    have hle:N.nxt (p/8) (p%8)<=s:=by
     have:=hN.num.step p o_;omega
    have hval:N.nxt (p/8) (p%8)=s:=by
     rcases Nat.lt_or_ge (N.nxt (p/8) (p%8)) s with hlt|hge
     . exfalso;obtain⟨y,hy,hry⟩:=hM.num.reach (N.nxt (p/8) (p%8)) o_;have hyN:=(ih _ hlt o_).2 y hy hry;have:=meet hN hM (x++ [p%8]) y hx' hy (by rw[hreadN,hyN]);rw[hread,hry]at this;omega
     . omega
    refine⟨?_,fun y hy hry=> ?_⟩
    . have:=hN.num.read_lt 0 hN.num.pos _ hx';rw[hreadN,hval]at this;exact this
    . have:=meet hM hN y (x++ [p%8]) hy hx' (by rw[hry,hread]);rw[this,hreadN,hval]
theorem i1_ (hM:b8_ M L)(hN:b8_ N L):aex_ M N:=by
 have a:=lm_ hM hN;have b:=lm_ hN hM;have hn:M.n=N.n:=by
  apply Nat.le_antisymm
  . apply Nat.le_of_not_lt;intro h;have:=(a N.n h).1;omega
  . apply Nat.le_of_not_lt;intro h;have:=(b M.n h).1;omega
 refine⟨hn,fun i hi=> ?_,fun i c hi hc=> ?_⟩
 . obtain⟨x,hx,hr⟩:=hM.num.reach i hi;have h1:=hM.lang x hx;have h2:=hN.lang x hx;rw[Tab.accepts,hr]at h1;rw[Tab.accepts,(a i hi).2 x hx hr]at h2;rw[h1,h2]
 . obtain⟨x,hx,hr⟩:=hM.num.reach i hi;have hx':ax_ (x++ [c]):=fun d hd=>by
    rcases List.mem_append.1 hd with h|h
    . exact hx d h
    . simp at h;omega
   have e:=(a _ (hM.num.nx i c hi hc)).2 (x++ [c]) hx' (by rw[Tab.read_snoc,hr]);rw[Tab.read_snoc,(a i hi).2 x hx hr]at e;exact e.symm
end
def gm (f:Nat->Nat):Nat->Nat
 |0=>0
 |m+1=>max (gm f m) (f m+1)
theorem aey_ (f:Nat->Nat){p q:Nat}(h:p<=q):gm f p<=gm f q:=by
 induction q with
 |zero=>
  have:p=0:=o_;subst this;exact lr__
 |succ q ih=>
  by_cases e:p=q+1
  . subst e;exact lr__
  . exact Nat.le_trans (ih o_) (by simp only[gm];exact Nat.le_max_left _ _)
theorem lf_ (f:Nat->Nat){s m:Nat}(h:s<m):f s<gm f m:=by
 have:gm f (s+1)<=gm f m:=aey_ f h;simp only[gm]at this;have:=Nat.le_max_right (gm f s) (f s+1);omega
theorem adi_ (f:Nat->Nat){m k:Nat}(h:k<gm f m):∃s,s<m/\k<=f s:=by
 induction m with
 |zero=>simp[gm]at h
 |succ m ih=>
  by_cases e:k<gm f m
  . obtain⟨s,hs,hk⟩:=ih e;exact⟨s,o_,hk⟩
  . simp only[gm]at h;exact⟨m,o_,o_⟩
section
variable {n:Nat} {f:Nat->Nat} {hs:List Nat}
theorem Cls.sorted (h:Cls n f hs){c d:Nat}(hcd:c<d)(hd:d<hs.length):hs.getD c 0<hs.getD d 0:=by
 have:=(List.pairwise_iff_getElem.1 h.inc) c d o_ hd hcd;rw[List.getD_eq_getElem?_getD,List.getElem?_eq_getElem o_,List.getD_eq_getElem?_getD,List.getElem?_eq_getElem hd];exact this
theorem Cls.growth (h:Cls n f hs)(s:Nat)(hs':s<n):f s<=gm f s:=by
 by_cases h0:f s=0
 . omega
 . have hl:=h.lt s hs';have h1:=h.sorted (c:=f s - 1) (d:=f s) o_ hl;have h2:=h.le s hs';have h3:=h.hd (f s - 1) o_;have:=lf_ f (s:=hs.getD (f s - 1) 0) (m:=s) o_;rw[h3.2]at this;omega
theorem Cls.head (h:Cls n f hs)(s:Nat)(hs':s<n)(e:hs.getD (f s) 0=s):f s=gm f s:=by
 have:=h.growth s hs';apply Nat.le_antisymm this;apply Nat.le_of_not_lt;intro hlt;obtain⟨s',h1,h2⟩:=adi_ f hlt;have h3:=h.le s' o_;rcases Nat.lt_or_ge (f s) (f s')with hl|hge
 . have:=h.sorted hl (h.lt s' o_);omega
 . have:f s'=f s:=o_;rw[this]at h3;omega
theorem Cls.nohead (h:Cls n f hs)(s:Nat)(hs':s<n)(e:hs.getD (f s) 0≠s):f s<gm f s:=by
 have h2:=h.le s hs';have h3:=h.hd _ (h.lt s hs');have:=lf_ f (s:=hs.getD (f s) 0) (m:=s) o_;rw[h3.2]at this;exact this
theorem Cls.total (h:Cls n f hs):gm f n=hs.length:=by
 apply Nat.le_antisymm
 . apply Nat.le_of_not_lt;intro hlt;obtain⟨s,h1,h2⟩:=adi_ f hlt;have:=h.lt s h1;omega
 . apply Nat.le_of_not_lt;intro hlt;have h3:=h.hd _ hlt;have:=lf_ f h3.1;rw[h3.2]at this;omega
end
theorem o6_ {M:Tab}{f:Nat->Nat}{hs:List Nat}(hM:cd_ M)(h:fo_ M f hs)(s:Nat)(hs':s<M.n)(hh:hs.getD (f s) 0=s)(h0:come (dy_ M f hs).nxt (8*f s)=gm f (come M.nxt (8*s))):
 ∀c,c<=8->come (dy_ M f hs).nxt (8*f s+c)=gm f (come M.nxt (8*s+c)):=by
 intro c;induction c with
 |zero=>intro _;exact h0
 |succ c ih=>
  intro hc;have ih':=ih o_;have e1:(8*f s+c)/8=f s:=o_;have e2:(8*f s+c)%8=c:=o_;have e3:(8*s+c)/8=s:=o_;have e4:(8*s+c)%8=c:=o_;have hst:=hM.step (8*s+c) o_;rw[<-Nat.add_assoc,<-Nat.add_assoc];simp only[come,e1,e2,e3,e4]at hst ⊢;rw[ih'];have:(dy_ M f hs).nxt (f s) c=f (M.nxt s c):=by simp only[dy_];rw[hh]
  rw[this];generalize come M.nxt (8*s+c)=m at*;generalize M.nxt s c=x at*;rcases Nat.lt_or_ge x m with hl|hge
  . have h1:=lf_ f hl;rw[show max m (x+1)=m by omega];omega
  . have:x=m:=o_;subst this;rw[show max x (x+1)=x+1 by omega];simp only[gm]
theorem u2_ {M:Tab}{f:Nat->Nat}{hs:List Nat}(hM:cd_ M)(h:fo_ M f hs)(s:Nat)(hs':s<M.n)(hh:hs.getD (f s) 0≠s):
 ∀c,c<=8->gm f (come M.nxt (8*s+c))=gm f (come M.nxt (8*s)):=by
 intro c;induction c with
 |zero=>intro _;rfl
 |succ c ih=>
  intro hc;have ih':=ih o_;have e3:(8*s+c)/8=s:=o_;have e4:(8*s+c)%8=c:=o_;have hst:=hM.step (8*s+c) o_;have hle:=h.mid.cls.le s hs';have hd:=h.mid.cls.hd _ (h.mid.cls.lt s hs');have hq:M.nxt (hs.getD (f s) 0) c<come M.nxt (8*s):=by
   have:=vu_ M.nxt (p:=8*hs.getD (f s) 0+c) (q:=8*s) o_;rw[show(8*hs.getD (f s) 0+c)/8=hs.getD (f s) 0 by omega,show(8*hs.getD (f s) 0+c)%8=c by omega]at this;exact this
  have hcl:=lf_ f hq;rw[h.nxt _ _ c hd.1 hs' o_ hd.2]at hcl;rw[<-Nat.add_assoc];simp only[come,e3,e4]at hst ⊢;rw[<-ih']at hcl ⊢;generalize come M.nxt (8*s+c)=m at*;generalize M.nxt s c=x at*;rcases Nat.lt_or_ge x m with hl|hge
  . rw[show max m (x+1)=m by omega]
  . have:x=m:=o_;subst this;rw[show max x (x+1)=x+1 by omega];simp only[gm];omega
theorem nf_ {M:Tab}{f:Nat->Nat}{hs:List Nat}(hM:cd_ M)(h:fo_ M f hs):∀s,s<=M.n->come (dy_ M f hs).nxt (8*gm f s)=gm f (come M.nxt (8*s)):=by
 intro s;induction s with
 |zero=>intro _;have:=(tl_ h.mid.cls hM.pos).1;simp[gm,come,this]
 |succ s ih=>
  intro hs';have ih':=ih o_;by_cases hh:hs.getD (f s) 0=s
  . have e:=h.mid.cls.head s o_ hh;have e2:gm f (s+1)=f s+1:=by simp only[gm];omega
    rw[<-e]at ih';have:=o6_ hM h s o_ hh ih' 8 lr__;rw[e2,show 8*(f s+1)=8*f s+8 by omega,show 8*(s+1)=8*s+8 by omega];exact this
  . have e:=h.mid.cls.nohead s o_ hh;have e2:gm f (s+1)=gm f s:=by simp only[gm];omega
    rw[e2,ih',show 8*(s+1)=8*s+8 by omega];exact(u2_ hM h s o_ hh 8 lr__).symm
theorem o7_ {M:Tab}{f:Nat->Nat}{hs:List Nat}(hM:cd_ M)(h:fo_ M f hs):cd_ (dy_ M f hs):=by
 have hc:=h.mid.cls;have hrow:∀k,k<hs.length->∀c,c<=8->come (dy_ M f hs).nxt (8*k+c)=gm f (come M.nxt (8*hs.getD k 0+c)):=by
  intro k hk c hc8;have hd:=hc.hd k hk;have hh:hs.getD (f (hs.getD k 0)) 0=hs.getD k 0:=by rw[hd.2]
  have e:=hc.head _ hd.1 hh;have h0:=nf_ hM h (hs.getD k 0) o_;rw[<-e]at h0;have:=o6_ hM h _ hd.1 hh h0 c hc8;rw[hd.2]at this;exact this
 refine⟨?_, ?_, ?_, ?_, ?_⟩
 . have:=hc.lt 0 hM.pos;show 1<=hs.length;omega
 . intro k c hk hc8;have hd:=hc.hd k hk;exact hc.lt _ (hM.nx _ c hd.1 hc8)
 . intro p hp;have hk:p/8<hs.length:=by have:p<8*hs.length:=hp;omega
   have hd:=hc.hd _ hk;have e:=hrow (p/8) hk (p%8) o_;rw[show 8*(p/8)+p%8=p by omega]at e;rw[e];have hst:=hM.step (8*hs.getD (p/8) 0+p%8) o_;rw[show(8*hs.getD (p/8) 0+p%8)/8=hs.getD (p/8) 0 by omega,show(8*hs.getD (p/8) 0+p%8)%8=p%8 by omega]at hst;have hnx:=hM.nx _ (p%8) hd.1 o_;show f (M.nxt (hs.getD (p/8) 0) (p%8))<=_
   generalize come M.nxt (8*hs.getD (p/8) 0+p%8)=m at*;generalize M.nxt (hs.getD (p/8) 0) (p%8)=x at*;rcases Nat.lt_or_ge x m with hl|hge
   . have:=lf_ f hl;omega
   . have:x=m:=o_;subst this;exact hc.growth _ hnx
 . intro k hk;have hd:=hc.hd k hk;have e:=hrow k hk 0 o_;simp only[Nat.add_zero]at e;rw[e];have:=lf_ f (hM.row _ hd.1);rw[hd.2]at this;exact this
 . have:=nf_ hM h M.n lr__;rw[hc.total,hM.all,hc.total]at this;exact this
theorem tw_ {M:Tab}{f:Nat->Nat}{hs:List Nat}{L:List Nat->Bool}(hM:cd_ M)(h:fo_ M f hs)(hL:∀x,ax_ x->M.accepts x=L x):b8_ (dy_ M f hs) L where
 num:=o7_ hM h
 apart k l hk hl hne:=tm_ hM.nx h k l hk hl hne
 lang x hx:=by rw[pq_ hM.nx h hM.pos x hx];exact hL x hx
theorem d3_:∀(N:Nat) (l:List Nat),l.Nodup->(∀x∈l,x<N)->l.length<=N:=by
 intro N;induction N with
 |zero=>
  intro l _ h;cases l with
  |nil=>simp
  |cons a s=>exact absurd (h a i_) o_
 |succ N ih=>
  intro l hn h;have h1:=ih (l.erase N) (hn.erase N) (fun x hx=>by
   have:=(hn.mem_erase_iff).1 hx;have:=h x this.2;omega)
  have h2:l.length<=(l.erase N).length+1:=by rw[List.length_erase];split<;>omega
  omega
def pn (S:Nat->Nat->Nat)(ps:List Nat)(k c:Nat):Nat:=ps.idxOf (S (ps.getD k 0) c)
structure PRel (good:Nat->Prop)(S:Nat->Nat->Nat)(ps:List Nat)(p:Nat):Prop where
 len:1<=ps.length
 hd:ps.getD 0 0=0
 nd:ps.Nodup
 inr:∀q∈ps,good q
 clo:∀r,r<p->r/8<ps.length/\S (ps.getD (r/8) 0) (r%8)∈ps
 num:∀r,r<p->pn S ps (r/8) (r%8)<=come (pn S ps) r
 row:∀i,8*i<p->i<come (pn S ps) (8*i)
 cm:come (pn S ps) p=ps.length
section
variable {good:Nat->Prop} {S:Nat->Nat->Nat} {ps:List Nat} {p:Nat}
theorem PRel.start (h:good 0):PRel good S [0] 0:=
 ⟨i_,rfl,i_,by intro q hq;simp at hq;subst hq;exact h,fun r hr=>absurd hr o_,fun r hr=>absurd hr o_,fun i hi=>absurd hi o_,rfl⟩
theorem PRel.old (h:PRel good S ps p)(hk:p/8<ps.length)(hq:S (ps.getD (p/8) 0) (p%8)∈ps):PRel good S ps (p+1) where
 len:=h.len
 hd:=h.hd
 nd:=h.nd
 inr:=h.inr
 clo r hr:=by
  by_cases e:r=p
  . subst e;exact⟨hk,hq⟩
  . exact h.clo r o_
 num r hr:=by
  by_cases e:r=p
  . subst e;have:=List.idxOf_lt_length_of_mem hq;rw[h.cm];exact Nat.le_of_lt this
  . exact h.num r o_
 row i hi:=by
  by_cases e:8*i=p
  . rw[e,h.cm];have:p/8=i:=o_;omega
  . exact h.row i o_
 cm:=by
  have hl:pn S ps (p/8) (p%8)<ps.length:=List.idxOf_lt_length_of_mem hq;simp only[come,h.cm];exact Nat.max_eq_left hl
theorem ce_ (l:List Nat)(x i:Nat)(h:i<l.length):(l++ [x]).getD i 0=l.getD i 0:=g5_ l x i h
theorem PRel.new (h:PRel good S ps p)(hk:p/8<ps.length)(hq:S (ps.getD (p/8) 0) (p%8)∉ps)(hg:good (S (ps.getD (p/8) 0) (p%8))):
 PRel good S (ps++ [S (ps.getD (p/8) 0) (p%8)]) (p+1):=by
 have hst:∀r,r<p->pn S (ps++ [S (ps.getD (p/8) 0) (p%8)]) (r/8) (r%8)=pn S ps (r/8) (r%8):=by
  intro r hr;have hc:=h.clo r hr;simp only[pn];rw[ce_ _ _ _ hc.1,List.idxOf_append,if_pos hc.2]
 have hnew:pn S (ps++ [S (ps.getD (p/8) 0) (p%8)]) (p/8) (p%8)=ps.length:=by
  simp only[pn];rw[ce_ _ _ _ hk,List.idxOf_append,if_neg hq];simp
 have hcm:∀r,r<=p->come (pn S (ps++ [S (ps.getD (p/8) 0) (p%8)])) r=come (pn S ps) r:=fun r hr=>o4_ r (fun q hq'=>hst q o_)
 refine⟨i_, ?_, ?_, ?_, ?_, ?_, ?_, ?_⟩
 . rw[ce_ _ _ _ h.len];exact h.hd
 . rw[List.nodup_append];refine⟨h.nd,i_, ?_⟩;intro a ha b hb e;simp at hb;subst hb;subst e;exact hq ha
 . intro q hq';rcases List.mem_append.1 hq' with h'|h'
   . exact h.inr q h'
   . simp at h';subst h';exact hg
 . intro r hr;by_cases e:r=p
   . subst e;rw[ce_ _ _ _ hk];exact⟨s_,i_⟩
   . have hc:=h.clo r o_;rw[ce_ _ _ _ hc.1];exact⟨s_,List.mem_append_left _ hc.2⟩
 . intro r hr;by_cases e:r=p
   . subst e;rw[hnew,hcm r lr__,h.cm];exact lr__
   . rw[hst r o_,hcm r o_];exact h.num r o_
 . intro i hi;by_cases e:8*i=p
   . rw[hcm _ o_,e,h.cm];have:p/8=i:=o_;omega
   . rw[hcm _ o_];exact h.row i o_
 . simp only[come,hcm p lr__,h.cm,hnew,List.length_append,List.length_singleton];exact Nat.max_eq_right (Nat.le_succ _)
end
def afx_ (M N:Tab)(q c:Nat):Nat:=M.nxt (q/40) c*40+N.nxt (q%40) c
def afy_ (M N:Tab)(q:Nat):Prop:=q/40<M.n/\q%40<N.n
theorem PRel.bound {M N:Tab}{ps:List Nat}{p:Nat}(hN:N.Ok)(h:PRel (afy_ M N) (afx_ M N) ps p):ps.length<=M.n*N.n:=by
 have h1:=d3_ (M.n*N.n) (ps.map fun q=>q/40*N.n+q%40) ?_ ?_
 . simpa using h1
 . rw[List.Nodup,List.pairwise_map];refine List.Pairwise.imp_of_mem ?_ h.nd
   . intro a b ha hb hne e;have h1:=h.inr a ha;have h2:=h.inr b hb;apply hne;have g1:=h1.2;have g2:=h2.2;have e1:(a/40*N.n+a%40)/N.n=a/40:=by
      rw[Nat.mul_comm,Nat.mul_add_div o_,Nat.div_eq_of_lt g1];omega
     have e2:(b/40*N.n+b%40)/N.n=b/40:=by
      rw[Nat.mul_comm,Nat.mul_add_div o_,Nat.div_eq_of_lt g2];omega
     have ed:a/40=b/40:=by rw[<-e1,<-e2,e]
     rw[ed]at e;omega
 . intro x hx;simp only[List.mem_map]at hx;obtain⟨q,hq,rfl⟩:=hx;have h1:=h.inr q hq;have:(q/40+1)*N.n<=M.n*N.n:=Nat.mul_le_mul_right _ h1.1;have h2:=h1.2;rw[Nat.add_mul]at this;omega
theorem e1_ (ps:List Nat)(q:Nat)(h:q∈ps):ps.getD (ps.idxOf q) 0=q:=by
 have hl:=List.idxOf_lt_length_of_mem h;rw[List.getD_eq_getElem?_getD,List.getElem?_eq_getElem hl];simp[List.getElem_idxOf]
theorem af1_ {M N:Tab}{L:List Nat->Bool}(hM:b8_ M L)(hN:N.Ok)(hL:∀x,ax_ x->N.accepts x=L x):M.n<=N.n:=by
 have hex:∀s,∃x,s<M.n->ax_ x/\M.read 0 x=s:=fun s=>by
  by_cases hs:s<M.n
  . obtain⟨x,h⟩:=hM.num.reach s hs;exact⟨x,fun _=>h⟩
  . exact⟨[],fun h=>absurd h hs⟩
 let g:=fun s=>Classical.choose (hex s)
 have hg:∀s,s<M.n->ax_ (g s)/\M.read 0 (g s)=s:=fun s=>Classical.choose_spec (hex s)
 have h1:=d3_ N.n ((List.range M.n).map fun s=>N.read 0 (g s)) ?_ ?_
 . simpa using h1
 . refine List.Pairwise.map _ (fun a b h=>h) (List.Pairwise.imp_of_mem ?_ (List.nodup_range (n:=M.n)));intro a b ha hb hne e;have ha':=hg a (by simpa using ha);have hb':=hg b (by simpa using hb);obtain⟨z,hz,hd⟩:=hM.apart a b (by simpa using ha) (by simpa using hb) hne;apply hd;have nt:∀x,ax_ x->ax_ (x++z):=fun x hx c hc=>by
    rcases List.mem_append.1 hc with h|h
    . exact hx c h
    . exact hz c h
   have ea:=hM.lang _ (nt _ ha'.1);have eb:=hM.lang _ (nt _ hb'.1);rw[<-hL _ (nt _ ha'.1)]at ea;rw[<-hL _ (nt _ hb'.1)]at eb;simp only[Tab.accepts,Tab.read_append]at ea eb;rw[ha'.2]at ea;rw[hb'.2]at eb;rw[ea,eb,e]
 . intro x hx;simp only[List.mem_map,List.mem_range]at hx;obtain⟨s,hs,rfl⟩:=hx;exact Tab.read_lt hN 0 hN.lo _ (hg s hs).1
theorem ac2_ {M N:Tab}{L:List Nat->Bool}(hM:b8_ M L)(hN:cd_ N)(hL:∀x,ax_ x->N.accepts x=L x)(hs:List Nat)(hlt:∀c,c<hs.length->hs.getD c 0<N.n)
 (hap:∀c d,c<d->d<hs.length->d9_ N (hs.getD c 0) (hs.getD d 0)):hs.length<=M.n:=by
 have hex:∀s,∃x,s<N.n->ax_ x/\N.read 0 x=s:=fun s=>by
  by_cases hs:s<N.n
  . obtain⟨x,h⟩:=hN.reach s hs;exact⟨x,fun _=>h⟩
  . exact⟨[],fun h=>absurd h hs⟩
 let g:=fun s=>Classical.choose (hex s)
 have hg:∀s,s<N.n->ax_ (g s)/\N.read 0 (g s)=s:=fun s=>Classical.choose_spec (hex s)
 have key:∀c d,c<d->d<hs.length->M.read 0 (g (hs.getD c 0))≠M.read 0 (g (hs.getD d 0)):=by
  intro c d hcd hd e;obtain⟨z,hz,hdf⟩:=hap c d hcd hd;apply hdf;have ha':=hg _ (hlt c o_);have hb':=hg _ (hlt d hd);have nt:∀x,ax_ x->ax_ (x++z):=fun x hx c hc=>by
   rcases List.mem_append.1 hc with h|h
   . exact hx c h
   . exact hz c h
  have ea:=hM.lang _ (nt _ ha'.1);have eb:=hM.lang _ (nt _ hb'.1);rw[<-hL _ (nt _ ha'.1)]at ea;rw[<-hL _ (nt _ hb'.1)]at eb;simp only[Tab.accepts,Tab.read_append]at ea eb;rw[ha'.2]at ea;rw[hb'.2]at eb;rw[<-ea,<-eb,e]
 have h1:=d3_ M.n ((List.range hs.length).map fun c=>M.read 0 (g (hs.getD c 0))) ?_ ?_
 . simpa using h1
 . refine List.Pairwise.map _ (fun a b h=>h) ?_;rw[List.pairwise_iff_getElem];intro i j hi hj hij;simp only[List.getElem_range];exact key i j hij (by simpa using hj)
 . intro x hx;simp only[List.mem_map,List.mem_range]at hx;obtain⟨c,hc,rfl⟩:=hx;exact hM.num.read_lt 0 hM.num.pos _ (hg _ (hlt c hc)).1
def Eqv (M:Tab)(i j:Nat):Prop:=∀x,ax_ x->M.acc (M.read i x)=M.acc (M.read j x)
theorem Eqv.refl (M:Tab)(i:Nat):Eqv M i i:=fun _ _=>rfl
theorem Eqv.symm {M:Tab}{i j:Nat}(h:Eqv M i j):Eqv M j i:=fun x hx=>(h x hx).symm
theorem Eqv.trans {M:Tab}{i j k:Nat}(h:Eqv M i j)(h':Eqv M j k):Eqv M i k:=fun x hx=>(h x hx).trans (h' x hx)
theorem Eqv.nxt {M:Tab}{i j:Nat}(h:Eqv M i j)(c:Nat)(hc:c<8):Eqv M (M.nxt i c) (M.nxt j c):=fun x hx=>h (c::x) (by
 intro d hd;simp only[List.mem_cons]at hd;rcases hd with rfl|hd
 . exact hc
 . exact hx d hd)
theorem Eqv.acc {M:Tab}{i j:Nat}(h:Eqv M i j):M.acc i=M.acc j:=h [] (by intro d hd;simp at hd)
theorem vv_ {M:Tab}{i j:Nat}:Eqv M i j↔¬d9_ M i j:=by
 constructor
 . rintro h ⟨x,hx,hd⟩;exact hd (h x hx)
 . intro h x hx;apply Classical.byContradiction;intro hd;exact h ⟨x,hx,hd⟩
noncomputable def crTo (M:Tab)(s:Nat):Nat->Nat
 |0=>s
 |k+1=> @ite _ (Eqv M (s - (k+1)) s) (Classical.propDecidable _) (min (s - (k+1)) (crTo M s k)) (crTo M s k)
noncomputable def cr (M:Tab)(s:Nat):Nat:=crTo M s s
theorem mi_ (M:Tab)(s:Nat):∀k,k<=s->crTo M s k<=s/\Eqv M (crTo M s k) s/\∀t,s - k<=t->t<=s->Eqv M t s->crTo M s k<=t:=by
 intro k;induction k with
 |zero=>intro _;exact⟨lr__,Eqv.refl _ _,fun t h1 h2 _=>h1⟩
 |succ k ih=>
  intro hk;obtain⟨a,b,c⟩:=ih o_;simp only[crTo];by_cases e:Eqv M (s - (k+1)) s
  . rw[if_pos e];refine⟨o_, ?_,fun t h1 h2 h3=> ?_⟩
    . by_cases h:s - (k+1)<=crTo M s k
      . rw[Nat.min_eq_left h];exact e
      . rw[Nat.min_eq_right o_];exact b
    . by_cases h:t=s - (k+1)
      . subst h;exact Nat.min_le_left _ _
      . have:=c t o_ h2 h3;exact Nat.le_trans (Nat.min_le_right _ _) this
  . rw[if_neg e];refine⟨a,b,fun t h1 h2 h3=> ?_⟩;by_cases h:t=s - (k+1)
    . subst h;exact absurd h3 e
    . exact c t o_ h2 h3
theorem ri_ (M:Tab)(s:Nat):cr M s<=s:=(mi_ M s s lr__).1
theorem h3_ (M:Tab)(s:Nat):Eqv M (cr M s) s:=(mi_ M s s lr__).2.1
theorem z9_ (M:Tab)(s t:Nat)(h:t<=s)(he:Eqv M t s):cr M s<=t:=(mi_ M s s lr__).2.2 t o_ h he
theorem jn_ {M:Tab}{s t:Nat}(h:Eqv M s t):cr M s=cr M t:=by
 have h1:=h3_ M s;have h2:=h3_ M t;have l1:=ri_ M s;have l2:=ri_ M t;apply Nat.le_antisymm
 . by_cases hh:cr M t<=s
   . exact z9_ M s _ hh (h2.trans h.symm)
   . omega
 . by_cases hh:cr M s<=t
   . exact z9_ M t _ hh (h1.trans h)
   . omega
theorem aaa_ {M:Tab}{s t:Nat}(h:cr M s=cr M t):Eqv M s t:=by
 have h1:=h3_ M s;rw[h]at h1;exact h1.symm.trans (h3_ M t)
theorem afz_ (M:Tab)(s:Nat):cr M (cr M s)=cr M s:=jn_ (h3_ M s)
noncomputable def crS (M:Tab)(q c:Nat):Nat:=cr M (M.nxt q c)
noncomputable def eg_ (M:Tab)(ps:List Nat):Tab where
 n:=ps.length
 acc k:=M.acc (ps.getD k 0)
 nxt:=pn (crS M) ps
def ic_ (M:Tab)(q:Nat):Prop:=q<M.n/\cr M q=q
theorem rd_ {M:Tab}{ps:List Nat}(h:PRel (ic_ M) (crS M) ps (8*ps.length)):cd_ (eg_ M ps) where
 pos:=h.len
 nx i c hi hc:=by
  have:=(h.clo (8*i+c) (by have:i<ps.length:=hi;omega)).2;rw[show(8*i+c)/8=i by omega,show(8*i+c)%8=c by omega]at this;exact List.idxOf_lt_length_of_mem this
 step p hp:=h.num p hp
 row i hi:=h.row i (by have:i<ps.length:=hi;omega)
 all:=h.cm
theorem mj_ {M:Tab}{ps:List Nat}(h:PRel (ic_ M) (crS M) ps (8*ps.length))(k:Nat)(hk:k<ps.length)(x:List Nat)(hx:ax_ x):
 (eg_ M ps).read k x<ps.length/\Eqv M (ps.getD ((eg_ M ps).read k x) 0) (M.read (ps.getD k 0) x):=by
 induction x generalizing k with
 |nil=>exact⟨hk,Eqv.refl _ _⟩
 |cons c x ih=>
  have hc:c<8:=hx c i_;have hx':ax_ x:=fun d hd=>hx d (by simp[hd])
  have hcl:=(h.clo (8*k+c) o_).2;rw[show(8*k+c)/8=k by omega,show(8*k+c)%8=c by omega]at hcl;have hlt:(eg_ M ps).nxt k c<ps.length:=List.idxOf_lt_length_of_mem hcl;have he:ps.getD ((eg_ M ps).nxt k c) 0=crS M (ps.getD k 0) c:=e1_ ps _ hcl;simp only[Tab.read,List.foldl_cons];have:=ih _ hlt hx';rw[he]at this;refine⟨this.1,this.2.trans ?_⟩;intro y hy;have hq:Eqv M (crS M (ps.getD k 0) c) (M.nxt (ps.getD k 0) c):=h3_ M _;have:=hq (x++y) (by
   intro d hd;simp only[List.mem_append]at hd;rcases hd with hd|hd
   . exact hx' d hd
   . exact hy d hd)
  rw[Tab.read_append,Tab.read_append]at this;exact this
theorem xn_ {M:Tab}{ps:List Nat}(h:PRel (ic_ M) (crS M) ps (8*ps.length)):b8_ (eg_ M ps) M.accepts where
 num:=rd_ h
 apart i j hi hj hij:=by
  have hi':i<ps.length:=hi;have hj':j<ps.length:=hj;have g1:=h.inr _ (ds_ ps i hi');have g2:=h.inr _ (ds_ ps j hj');have hne:ps.getD i 0≠ps.getD j 0:=by
   intro e;apply hij;have hnd:=h.nd;rw[List.Nodup,List.pairwise_iff_getElem]at hnd;rw[List.getD_eq_getElem?_getD,List.getElem?_eq_getElem hi',List.getD_eq_getElem?_getD,List.getElem?_eq_getElem hj']at e;simp only[Option.getD_some]at e;rcases Nat.lt_trichotomy i j with hlt|heq|hlt
   . exact absurd e (hnd i j hi' hj' hlt)
   . exact heq
   . exact absurd e.symm (hnd j i hj' hi' hlt)
  have hap:¬Eqv M (ps.getD i 0) (ps.getD j 0):=by
   intro e;have:=jn_ e;rw[g1.2,g2.2]at this;exact hne this
  apply Classical.byContradiction;intro hn;apply hap;intro x hx;have r1:=(mj_ h i hi' x hx).2.acc;have r2:=(mj_ h j hj' x hx).2.acc;rw[<-r1,<-r2];apply Classical.byContradiction;intro hd;exact hn ⟨x,hx,hd⟩
 lang x hx:=by
  have:=(mj_ h 0 h.len x hx).2.acc;rw[h.hd]at this;exact this
theorem u3_:∀(l:List Nat) (a k:Nat) (h:k<l.length),l[k]=a->l.idxOf a<=k:=by
 intro l;induction l with
 |nil=>intro a k h;simp at h
 |cons x l ih=>
  intro a k h e;rw[List.idxOf_cons];by_cases hx:x=a
  . simp[hx]
  . cases k with
    |zero=>exact absurd e hx
    |succ k=>
     have:=ih a k (by simpa using h) (by simpa using e);have hb:(x==a)=false:=by simp[hx]
     rw[hb];simpa using this
theorem lg_ (M:Tab)(fs:List Nat)(k:Nat)(h:k<fs.length):(fs.map (cr M)).getD k 0=cr M (fs.getD k 0):=by
 simp[List.getD_eq_getElem?_getD,h]
theorem vw_ (M:Tab)(fs:List Nat)(k c:Nat)(h:k<fs.length)(hc:c<8):crS M ((fs.map (cr M)).getD k 0) c=cr M (M.nxt (fs.getD k 0) c):=by
 rw[lg_ M fs k h];exact jn_ ((h3_ M _).nxt c hc)
theorem qx_ {M:Tab}{fs:List Nat}{D:Nat->Nat->Bool}{s:Nat}(hD:∀x y,x<M.n->y<M.n->(D x y=true↔d9_ M x y))(hfs:∀i,i<fs.length->fs.getD i 0<M.n)(hs:s<M.n):
 (∀k,k<fs.length->D (fs.getD k 0) s=false->(∀j,j<k->D (fs.getD j 0) s=true)->cr M s∈fs.map (cr M)/\(fs.map (cr M)).idxOf (cr M s)=k)/\
 ((∀j,j<fs.length->D (fs.getD j 0) s=true)->cr M s∉fs.map (cr M)):=by
 have hiff:∀j,j<fs.length->(D (fs.getD j 0) s=false↔(fs.map (cr M)).getD j 0=cr M s):=by
  intro j hj;rw[lg_ M fs j hj];have h1:=hD _ _ (hfs j hj) hs;constructor
  . intro hd;apply jn_;rw[vv_];intro ha;rw[h1.2 ha]at hd;cases hd
  . intro he;have:=vv_.1 (aaa_ he);cases hd:D (fs.getD j 0) s with
    |false=>rfl
    |true=>exact absurd (h1.1 hd) this
 refine⟨fun k hk hd hno=> ?_,fun hno hmem=> ?_⟩
 . have hk':k<(fs.map (cr M)).length:=by simpa using hk
   have hg:=(hiff k hk).1 hd;have hge:(fs.map (cr M))[k]=cr M s:=by
    rw[List.getD_eq_getElem?_getD,List.getElem?_eq_getElem hk']at hg;simpa using hg
   have hmem:cr M s∈fs.map (cr M):=by rw[<-hge];exact List.getElem_mem hk'
   refine⟨hmem, ?_⟩;have hil:=List.idxOf_lt_length_of_mem hmem;have hix:=e1_ (fs.map (cr M)) (cr M s) hmem;apply Nat.le_antisymm
   . apply Nat.le_of_not_lt;intro hlt;have:List.idxOf (cr M s) (fs.map (cr M))<=k:=by
      exact u3_ _ _ k hk' hge
     omega
   . apply Nat.le_of_not_lt;intro hlt;have h2:=hno _ hlt;have h3:=(hiff _ (by simpa using hil)).2 hix;rw[h2]at h3;cases h3
 . obtain⟨j,hj,he⟩:=ny_ hmem;have hj':j<fs.length:=by simpa using hj
   have:=(hiff j hj').2 he;rw[hno j hj']at this;cases this
def adj_:List Nat->List Nat->Prop
 |x::a,y::b=>x<y\/(x=y/\adj_ a b)
 |_,_=>False
def sl (a b:List Nat):Prop:=a.length<b.length\/(a.length=b.length/\adj_ a b)
def sle (a b:List Nat):Prop:=a=b\/sl a b
structure QRel (M:Tab)(ps:List Nat)(tx:List (List Nat))(p:Nat):Prop where
 rel:PRel (fun q=>q<M.n) M.nxt ps p
 len:tx.length=ps.length
 t0:tx.getD 0 []=[]
 rd:∀j,j<ps.length->ax_ (tx.getD j [])/\M.read 0 (tx.getD j [])=ps.getD j 0/\(tx.getD j []).length<=j
 inc:∀i j,i<j->j<ps.length->sl (tx.getD i []) (tx.getD j [])
 /- a place that has been looked at: its state has a text that is not behind this one -/
 low:∀r,r<p->sle (tx.getD (pn M.nxt ps (r/8) (r%8)) []) (tx.getD (r/8) []++ [r%8])
 /- the last texts come from the places looked at -/
 org:∀j,0<j->j<ps.length->∃r,r<p/\tx.getD j []=tx.getD (r/8) []++ [r%8]/\r/8<ps.length
end Go.Proofs.YtpngikmcjkjdaaaGreatDoor
