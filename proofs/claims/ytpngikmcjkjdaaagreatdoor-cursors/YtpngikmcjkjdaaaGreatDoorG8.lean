import Derived.Test.YtpngikmcjkjdaaaGreatDoorG0
import Derived.Deep.LoopGhost
import Derived.Test.YtpngikmcjkjdaaaGreatDoorG5
import Derived.Test.YtpngikmcjkjdaaaGreatDoorG7
set_option linter.unusedVariables false
set_option linter.unusedSimpArgs false
set_option maxRecDepth 20000
set_option maxHeartbeats 80000000
namespace Go.Proofs.YtpngikmcjkjdaaaGreatDoor
open Go.RowKit Tryz
def xo_ (M:Tab)(most:Nat)(w:World)(e:Ending)(w':World):Prop:=
 Below w.heap.size w w'/\
  ((∃(f:Nat->Nat) (hs:List Nat) (V:Lay),fo_ M f hs/\hs.length<=most/\e= .returned (.tuple #[.agg #[.slice (some ⟨V.ba,V.oa,none⟩) hs.length V.ca,.slice (some ⟨V.bn,V.on,none⟩) hs.length V.cn],.bool true])/\av_ w' V (dy_ M f hs)/\V.From w.heap.size hs.length/\g6_ w' V hs.length)\/
   (e= .returned (.tuple #[.agg #[.slice none 0 0,.slice none 0 0],.bool false])/\∃hs:List Nat,most<hs.length/\(∀c,c<hs.length->hs.getD c 0<M.n)/\∀c d,c<d->d<hs.length->d9_ M (hs.getD c 0) (hs.getD d 0)))
structure tx_ (M:Tab)(most b:Nat)(W w:World)(k:Nat)(vo:Value)(gh ch:Nat)(hs:List Nat):Prop where
 blw:Below b W w
 blk:w.heap[b]? =some (.cells #[vo,.slice (some ⟨gh,0,none⟩) hs.length ch] 215 (0,0))
 hds:ch_ w gh hs.length (fun i=>hs.getD i 0)
 cas:(hs.length+k=most+1/\hs.length<=most/\∃f go co,vo= .slice (some ⟨go,0,none⟩) M.n co/\ch_ w go M.n f/\Mid M f hs/\Fine M f)\/
  (k=0/\most<hs.length/\hs.length<=41/\(∃ao lo co,vo= .slice ao lo co)/\(∀c,c<hs.length->hs.getD c 0<M.n)/\∀c d,c<d->d<hs.length->d9_ M (hs.getD c 0) (hs.getD d 0))
theorem aab_ (gw ga ca gn cn:Nat)(M:Tab)(most:Nat)(w:World)(hM:ez_ w gw ga ca gn cn M)
 (hm0:1<=most) (hm1:most<=40) (hn0:1<=M.n) (hn:M.n<=100000000) (hnx:∀i c,i<M.n->c<8->M.nxt i c<M.n):
 Calls prog 140 #[.pointer (some ⟨gw,0,none⟩),.int .i64 most] w (xo_ M most w):=by
 have mk3:=run_make_row' (P:=prog) 24 3 (.int .i64 0) 8 underlying24 du_ rfl .i64 .i64 M.n o_ o_;obtain⟨W,hW⟩:=ew__ ((((w.alloc (.cells #[.slice none 0 0,.slice none 0 0] 41)).alloc (.cells (madeCells #[.int .i64 0] M.n) 3)).alloc (.cells #[.int .i64 0] 3)).alloc (.cells #[.slice (some ⟨w.heap.size+1,0,none⟩) M.n M.n,.slice (some ⟨w.heap.size+1+1,0,none⟩) 1 1] 215));have BW:Below w.heap.size w W:=by
  rw[hW];exact((ba__.alloc i_ _).alloc s_ _).alloc s_ _
 have hWs:W.heap.size=w.heap.size+1+1+1+1:=by rw[hW];simp
 have k2:W.heap[w.heap.size]? =some (.cells #[.slice none 0 0,.slice none 0 0] 41 (0,0)):=by rw[hW];exact ah_ (ah_ (ah_ (ag_ i_)))
 have k3:W.heap[w.heap.size+1]? =some (.cells (madeCells #[.int .i64 0] M.n) 3 (0,0)):=by rw[hW];exact ah_ (ah_ (ag_ i_))
 have k4:W.heap[w.heap.size+1+1]? =some (.cells #[.int .i64 0] 3 (0,0)):=by rw[hW];exact ah_ (ag_ i_)
 have k5:W.heap[w.heap.size+1+1+1]? =some (.cells #[.slice (some ⟨w.heap.size+1,0,none⟩) M.n M.n,.slice (some ⟨w.heap.size+1+1,0,none⟩) 1 1] 215 (0,0)):=by rw[hW];exact ag_ i_
 have P0:tx_ M most (w.heap.size+1+1+1) W W most (.slice (some ⟨w.heap.size+1,0,none⟩) M.n M.n) (w.heap.size+1+1) 1 [0]:=
  ⟨br__,k5,fun i hi=>by
   have:i=0:=by simp at hi;omega
   subst this;simpa using cell_of_one k4,
   .inl ⟨s_,by simpa using hm0,fun _=>0,_,_,rfl,fun i hi=>(c2_ k3).cell hi,Mid.first hn0,Fine.first M⟩⟩
 have xp:=hM.p0;have hgw:=an_ hM.p0;go_enter func140,ntmps140;go_wp2_with fail;rw[<-hW];clear hW mk3 k3 k4 k5 xp hgw;go_loopg [7] most (fun k _ wr=>∃vo gh ch hs,tx_ M most (w.heap.size+1+1+1) W wr k vo gh ch hs)
 case atStart=>exact⟨_,_,_,_,P0⟩
 case round=>
  obtain⟨vo,gh,ch,hs,hP⟩:=hrel;clear P0;have hbW:=hP.blw;have hbw:Below w.heap.size w wr:=BW.trans (hbW.mono o_);have hq:wr.heap[w.heap.size]? =some (.cells #[.slice none 0 0,.slice none 0 0] 41 (0,0)):=(hbW.block _ o_).trans k2;obtain⟨q0,q1,p0,p1⟩:=aa_ hq;obtain⟨y0,y1,z0,z1⟩:=aa_ hP.blk;rcases hP.cas with ⟨hk,hle,f,go,co,rfl,hf,hmid,hfine⟩|⟨rfl,hgt,h41,⟨ao,lo,co,rfl⟩,hlt,hap⟩
  . have HC:=acu_ gw ga ca gn cn go co hs.length ch (some ⟨gh,0,none⟩) M f most wr (hM.below hbw) hf hm0 hm1 hn0 hn hnx;have HP:Hid (tx_ M most (w.heap.size+1+1+1) W wr gk (.slice (some ⟨go,0,none⟩) M.n co) gh ch hs):=hP;clear hP hf;go_wp2_with fail;refine HC.mono ?_;rintro e w1 ⟨hb1,vo',gh',ch',os,hs',rfl,hgl,hN',hcase⟩;clear HC y0 y1 z0 z1 hq q0 q1 p0 p1;have hsz:=ac_ HP.out.blk;have hb1W:Below (w.heap.size+1+1+1) W w1:=hbW.trans (hb1.mono o_);have hb1w:Below w.heap.size w w1:=hbw.trans (hb1.mono o_);have hq:w1.heap[w.heap.size]? =some (.cells #[.slice none 0 0,.slice none 0 0] 41 (0,0)):=(hb1W.block _ o_).trans k2;obtain⟨q0,q1,p0,p1⟩:=aa_ hq;have hpb:w1.heap[w.heap.size+1+1+1]? =some (.cells #[.slice (some ⟨go,0,none⟩) M.n co,.slice (some ⟨gh,0,none⟩) hs.length ch] 215 (0,0)):=by rw[hb1.block _ hsz];exact HP.out.blk
    obtain⟨y0,y1,z0,z1⟩:=aa_ hpb;have hsz1:=ac_ hpb;have hszA:w.heap.size<w1.heap.size:=o_;have hszB:w.heap.size<w1.heap.size:=o_;by_cases heq:hs'.length=hs.length
    . rcases hcase with ⟨hle',⟨go',co',rfl,_,hof⟩,hrel'⟩|⟨he,_⟩
      . have hst:=rc_ hnx hmid hfine hrel' heq;have hlpos:1<=hs'.length:=by have:=hrel'.cls.lt 0 o_;omega
        obtain⟨W2,hW2,hb2,-,-⟩:=nw__ w1 #[.slice (some ⟨go',0,none⟩) M.n co',.slice (some ⟨gh',0,none⟩) hs'.length ch'] 215;have HC:=ac4_ gw ga ca gn cn go' co' gh' ch' M (fun i=>os.getD i 0) hs' W2 ((hM.below hb1w).below hb2) (hof.below hb2) (hN'.below hb2) hlpos o_ (fun c hc=>(hrel'.cls.hd c hc).1) hn hnx;have hb2w:Below w.heap.size w W2:=hb1w.trans (hb2.mono o_);have HST:Hid (fo_ M (fun i=>os.getD i 0) hs'):=hst;have hq2:W2.heap[w.heap.size]? =some (.cells #[.slice none 0 0,.slice none 0 0] 41 (0,0)):=by rw[hb2.block _ o_];exact hq
        have hs2:w1.heap.size<=W2.heap.size:=hb2.size;have hbe:((hs'.length:Int)==(hs.length:Int))=true:=s_;have HBW:=hi__ hb2w;have HHE:Hid (hs'.length=hs.length):=heq;clear hst hrel' hof hN' hM hnx hmid hfine hb1 hb1W hb1w hb2 hb2w hbW hbw heq;rw[hW2]at HC;go_wp2_with fail;refine HC.mono ?_;rintro e w3 ⟨V,rfl,hT,hV,hb3,hFr⟩;rw[<-hW2]at hV;rw[<-hW2]at hb3;have hq3:w3.heap[w.heap.size]? =some (.cells #[.slice none 0 0,.slice none 0 0] 41 (0,0)):=by rw[hb3.block _ o_];exact hq2
        obtain⟨q0',q1',p0',p1'⟩:=aa_ hq3;clear HC;go_wp2
        obtain⟨r1,r2,r3⟩:=a7_ (u:= .slice (some ⟨V.ba,V.oa,none⟩) hs'.length V.ca) (v:= .slice (some ⟨V.bn,V.on,none⟩) hs'.length V.cn) hq3;refine bodyPost_ret (v:= .tuple #[.agg #[.slice (some ⟨V.ba,V.oa,none⟩) hs'.length V.ca,.slice (some ⟨V.bn,V.on,none⟩) hs'.length V.cn],.bool true]) (by simp[results,results140,go_sem,r1,r2]) rfl ?_;have hT1:=(hT.set hV (p:=⟨w.heap.size,0,none⟩) l_ (.slice (some ⟨V.ba,V.oa,none⟩) hs'.length V.ca)).set hV (p:=⟨w.heap.size,1,none⟩) l_ (.slice (some ⟨V.bn,V.on,none⟩) hs'.length V.cn);have hB:=HBW.out.trans (hb3.mono o_);exact⟨(hB.setCell (p:=⟨w.heap.size,0,none⟩) l_ _).setCell (p:=⟨w.heap.size,1,none⟩) l_ _,.inl ⟨_,hs',V,HST.out,hle',rfl,hT1,⟨by have:=hV.a;omega,by have:=hV.b;omega,fun i hi=>by have:=hV.r i hi;omega⟩,(hFr.set _ _ _).set _ _ _⟩⟩
      . omega
    . have hbe:((hs'.length:Int)==(hs.length:Int))=false:=s_;obtain⟨ao',lo',co',rfl⟩:∃ao lo co,vo'= .slice ao lo co:=by
       rcases hcase with ⟨_,⟨g,c,rfl,_,_⟩,_⟩|⟨_,h,_⟩
       . exact⟨_,_,_,rfl⟩
       . exact h
      have HCA:Hid _:=hcase;have HN:Hid _:=hN';have HB1:Hid _:=hb1;have HB1W:Hid _:=hb1W;have HMID:Hid _:=hmid;have HFI:Hid _:=hfine;have HNX:Hid _:=hnx;clear hcase hN' hb1 hb1W hmid hfine hnx hM;go_wp2_with fail;go_roundg (most+1 - hs'.length)
      case measure=>
       rcases HCA.out with ⟨hl',⟨g,c,_,_,hof⟩,hrel'⟩|⟨hl',_⟩
       . have:=mf_ HMID.out HFI.out hrel';omega
       . omega
      case rel=>
       have hwE:Below w1.heap.size w1 (w1.alloc (.cells #[.slice ao' lo' co',.slice (some ⟨gh',0,none⟩) hs'.length ch'] 215)):=br__.alloc lr__ _;have hba:((w1.setCell ⟨w.heap.size+1+1+1,0,none⟩ (.slice ao' lo' co')).setCell ⟨w.heap.size+1+1+1,1,none⟩ (.slice (some ⟨gh',0,none⟩) hs'.length ch')).heap.size=w1.heap.size:=i_;refine⟨.slice ao' lo' co',gh',ch',hs',⟨?_, ?_, ?_, ?_⟩⟩
       . exact((HB1W.out.setCell (p:=⟨w.heap.size+1+1+1,0,none⟩) lr__ _).setCell (p:=⟨w.heap.size+1+1+1,1,none⟩) lr__ _).alloc (by rw[hba];omega) _
       . exact ah_ (c7_ (bg_ hpb))
       . exact((ch_.set (ch_.set HN.out s_ _) s_ _)).below ba__
       . rcases HCA.out with ⟨hl',⟨g,c,e,hgg,hof⟩,hrel'⟩|⟨hl',h2,h3,h4⟩
         . have hlen:=mf_ HMID.out HFI.out hrel';exact .inl ⟨o_,hl',fun i=>os.getD i 0,g,c,e,((hof.set s_ _).set s_ _).below ba__,HMID.out.step HNX.out hrel',Fine.step HNX.out HFI.out hrel'⟩
         . exact .inr ⟨o_,o_,o_,h2,h3,fun c d hcd hd=>h0_ HNX.out HMID.out.apart _ _ (h3 c o_) (h3 d hd) (h4 c d hcd hd)⟩
  . have hm:¬hs.length<=most:=o_;go_wp2_with fail;obtain⟨r1,r2,r3⟩:=a7_ (u:= .slice none 0 0) (v:= .slice none 0 0) hq;refine bodyPost_ret (v:= .tuple #[.agg #[.slice none 0 0,.slice none 0 0],.bool false]) (by simp[results,results140,go_sem,r1,r2]) rfl ?_;exact⟨(hbw.setCell (p:=⟨w.heap.size,0,none⟩) l_ _).setCell (p:=⟨w.heap.size,1,none⟩) l_ _,.inr ⟨rfl,hs,hgt,hlt,hap⟩⟩
def di_ (L:List Nat->Bool)(budget bound:Nat)(w:World)(e:Ending)(w':World):Prop:=
 Below w.heap.size w w'/\
  ((∃(R:Tab) (V:Lay),b8_ R L/\R.n<=budget/\e= .returned (.tuple #[.agg #[.slice (some ⟨V.ba,V.oa,none⟩) R.n V.ca,.slice (some ⟨V.bn,V.on,none⟩) R.n V.cn],.int .i64 0])/\av_ w' V R/\V.From w.heap.size R.n/\g6_ w' V R.n)\/
   (e= .returned (.tuple #[.agg #[.slice none 0 0,.slice none 0 0],.int .i64 5])/\budget<bound/\∀R,b8_ R L->budget<R.n))
theorem ac5_ {M:Tab}{i j:Nat}(h:d9_ M i j):i≠j:=by
 intro e;subst e;obtain⟨x,_,hd⟩:=h;exact hd rfl
theorem ac6_ {M:Tab}(hs:List Nat)(hlt:∀c,c<hs.length->hs.getD c 0<M.n)(hap:∀c d,c<d->d<hs.length->d9_ M (hs.getD c 0) (hs.getD d 0)):hs.length<=M.n:=by
 refine d3_ M.n hs ?_ ?_
 . rw[List.Nodup,List.pairwise_iff_getElem];intro i j hi hj hij e;have:=ac5_ (hap i j hij hj);rw[List.getD_eq_getElem?_getD,List.getElem?_eq_getElem hi,List.getD_eq_getElem?_getD,List.getElem?_eq_getElem hj]at this;exact this e
 . intro x hx;obtain⟨c,hc,rfl⟩:=ny_ hx;exact hlt c hc
theorem jo_ {w:World}{b:Nat}{x y u v:Value}{t:TypeId}(h:w.heap[b]? =some (.cells #[x,y] t (0,0)))(o:Obj):
 (((w.setCell ⟨b,0,none⟩ u).setCell ⟨b,1,none⟩ v).alloc o).cell? ⟨b,0,none⟩=some u/\(((w.setCell ⟨b,0,none⟩ u).setCell ⟨b,1,none⟩ v).alloc o).cell? ⟨b,1,none⟩=some v:=
 ⟨(aa_ (ah_ (c7_ (bg_ h)))).1,(aa_ (ah_ (c7_ (bg_ h)))).2.1⟩
theorem az_ {w w5:World}{b:Nat}(h:Below w.heap.size w w5)(hb:w.heap.size<=b)(u v:Value):Below w.heap.size w ((w5.setCell ⟨b,0,none⟩ u).setCell ⟨b,1,none⟩ v):=
 (h.setCell (p:=⟨b,0,none⟩) hb _).setCell (p:=⟨b,1,none⟩) hb _
theorem av_.res {w:World}{V:Lay}{M:Tab}(h:av_ w V M){N b:Nat}(hV:V.From N M.n)(hb:b<N)(u v:Value):av_ ((w.setCell ⟨b,0,none⟩ u).setCell ⟨b,1,none⟩ v) V M:=
 (h.set hV (p:=⟨b,0,none⟩) hb u).set hV (p:=⟨b,1,none⟩) hb v
theorem Lay.From.mono {V:Lay}{N N' n:Nat}(h:V.From N n)(hN:N'<=N):V.From N' n:=⟨by have:=h.a;omega,by have:=h.b;omega,fun i hi=>by have:=h.r i hi;omega⟩
theorem aez_:(prog.info? 174).map (fun i=>(i.zero,i.size,i.bytes))=some (some (.agg #[.int .i64 0,.int .i64 0,.int .i64 0,.int .i64 0,.int .i64 0,.int .i64 0,.int .i64 0,.int .i64 0]),8,64):=k_
theorem jp_ (w:World)(l:Array Value)(t:TypeId):∀j u,l.toList[j]? =some u->(w.alloc (.cells l t)).cell? ((⟨w.heap.size,0,none⟩:Addr).add j)=some u:=by
 intro j u hu;have hadd:(⟨w.heap.size,0,none⟩:Addr).add j=⟨w.heap.size,j,none⟩:=by unfold Addr.add;split<;>simp_all
 rw[hadd,cell_of_row (w.alloc (.cells l t)) w.heap.size j l t (0,0) (ag_ rfl)];simpa using hu
structure ab_ (S:Nat->Prop)(w w':World):Prop where
 os:w'.os=w.os
 tape:w'.tape=w.tape
 output:w'.output=w.output
 size:w.heap.size<=w'.heap.size
 block:∀k,k<w.heap.size->¬S k->w'.heap[k]? =w.heap[k]?
theorem ab_.below {S:Nat->Prop}{W w w':World}{B:Nat}(h:ab_ S w w')(hb:Below B W w)(hB:B<=w.heap.size)(hS:∀k,S k->B<=k):Below B W w':=
 ⟨h.os.trans hb.os,h.tape.trans hb.tape,h.output.trans hb.output,Nat.le_trans hb.size h.size,fun k hk=>(h.block k o_ (fun hs=>by have:=hS k hs;omega)).trans (hb.block k hk)⟩
theorem ab_.own {S:Nat->Prop}{w w':World}{base e s n:Nat}{v:Value}{x:List Value}(h:ab_ S w w')(ho:w.ownsRow base e s v n x)(hS:∀g,v.ownBlock=some g->¬S g):w'.ownsRow base e s v n x:=by
 refine⟨ho.1, ?_⟩;rcases ho.2 with ⟨rfl,hn⟩|⟨g,cap,cur,rfl,hb,hg,r⟩
 . exact .inl ⟨rfl,hn⟩
 . exact .inr ⟨g,cap,cur,rfl,hb,by rw[h.block g (ac_ hg) (hS g rfl)];exact hg,r⟩
theorem ab_.row {S:Nat->Prop}{w w':World}{b t n:Nat}{f:Nat->Value}(h:ab_ S w w')(hr:w.rowIs b t n f)(hS:¬S b):w'.rowIs b t n f:=hr.of_block (h.block b hr.lt hS)
theorem ab_.heap {S:Nat->Prop}{w w':World}{b:Nat}{o:Obj}(h:ab_ S w w')(hr:w.heap[b]? =some o)(hS:¬S b):w'.heap[b]? =some o:=by rw[h.block b (ac_ hr) hS];exact hr
theorem ab_.alloc {S:Nat->Prop}{w w':World}(h:ab_ S w w')(o:Obj):ab_ S w (w'.alloc o):=
 ⟨h.os,h.tape,h.output,Nat.le_trans h.size i_,fun k hk hs=>(Below.heap_alloc w' o k (Nat.lt_of_lt_of_le hk h.size)).trans (h.block k hk hs)⟩
theorem ab_.set {S:Nat->Prop}{w w':World}(h:ab_ S w w')(a:Addr)(u:Value)(ha:S a.block\/w.heap.size<=a.block):ab_ S w (w'.setCell a u):=
 ⟨by rw[<-h.os];rfl,by rw[<-h.tape];rfl,by rw[<-h.output];rfl,Nat.le_trans h.size i_,fun k hk hs=>
  (Below.heap_setCell w' a u k (fun e=>ha.elim (fun ha=>hs (by rw[e];exact ha)) (fun ha=>o_))).trans (h.block k hk hs)⟩
theorem ab_.grown {S:Nat->Prop}{w w' w2:World}(h:ab_ S w w'){row:Option Nat}(hg:w'.grownBy w2 row)(hr:∀k,row=some k->S k\/w.heap.size<=k):ab_ S w w2:=
 ⟨hg.os.trans h.os,hg.tape.trans h.tape,hg.output.trans h.output,Nat.le_trans h.size hg.size,fun k hk hs=>
  (hg.block k (Nat.lt_of_lt_of_le hk h.size) (fun e=>(hr k e.symm).elim (fun h1=>hs h1) (fun h1=>o_))).trans (h.block k hk hs)⟩
theorem ab_.refl (S:Nat->Prop)(w:World):ab_ S w w:=⟨rfl,rfl,rfl,lr__,fun _ _ _=>rfl⟩
section
variable {w w2:World}
theorem d6_ {base e e' s s' n n':Nat}{v v':Value}{x x':List Value}(h:w.ownsRow base e s v n x)(h':w.ownsRow base e' s' v' n' x')(hne:e≠e')(g:Nat)(hg:v.ownBlock=some g)(hg':v'.ownBlock=some g):False:=by
 rcases h.2 with ⟨rfl,_⟩|⟨a,cap,cur,rfl,_,h1,_⟩
 . simp[Value.ownBlock]at hg
 . rcases h'.2 with ⟨rfl,_⟩|⟨a',cap',cur',rfl,_,h2,_⟩
   . simp[Value.ownBlock]at hg'
   . simp only[Value.ownBlock,Option.some.injEq]at hg hg';subst hg;subst hg';rw[h1]at h2;simp only[Option.some.injEq,Obj.cells.injEq]at h2;exact hne h2.2.1
theorem gj_ {b t n:Nat}{f:Nat->Value}(h:w.rowIs b t n f){row:Option Nat}(hg:w.grownBy w2 row)(hne:row≠some b):w2.rowIs b t n f:=
 h.of_block (hg.block b h.lt (fun e=>hne e.symm))
theorem bb_ {base e s n:Nat}{v:Value}{x:List Value}(h:w.ownsRow base e s v n x)(a:Addr)(u:Value)(hne:∀g,v.ownBlock=some g->g≠a.block):(w.setCell a u).ownsRow base e s v n x:=
 ownsRow_setCell_other h (fun e=>hne _ e rfl) u
end
def row8 (r:Nat->Nat):Array Value:= #[.int .i64 ((r 0:Nat):Int),.int .i64 ((r 1:Nat):Int),.int .i64 ((r 2:Nat):Int),.int .i64 ((r 3:Nat):Int),.int .i64 ((r 4:Nat):Int),.int .i64 ((r 5:Nat):Int),.int .i64 ((r 6:Nat):Int),.int .i64 ((r 7:Nat):Int)]
theorem afk_ (x0 x1 x2 x3 x4 x5 x6 x7:Value)(w:World):(Instr.index 174 (.agg #[x0,x1,x2,x3,x4,x5,x6,x7]) (.int .i64 0)).run prog w= .ok x0 w:=k_
theorem afl_ (x0 x1 x2 x3 x4 x5 x6 x7:Value)(w:World):(Instr.index 174 (.agg #[x0,x1,x2,x3,x4,x5,x6,x7]) (.int .i64 1)).run prog w= .ok x1 w:=k_
theorem afm_ (x0 x1 x2 x3 x4 x5 x6 x7:Value)(w:World):(Instr.index 174 (.agg #[x0,x1,x2,x3,x4,x5,x6,x7]) (.int .i64 2)).run prog w= .ok x2 w:=k_
theorem afn_ (x0 x1 x2 x3 x4 x5 x6 x7:Value)(w:World):(Instr.index 174 (.agg #[x0,x1,x2,x3,x4,x5,x6,x7]) (.int .i64 3)).run prog w= .ok x3 w:=k_
theorem afo_ (x0 x1 x2 x3 x4 x5 x6 x7:Value)(w:World):(Instr.index 174 (.agg #[x0,x1,x2,x3,x4,x5,x6,x7]) (.int .i64 4)).run prog w= .ok x4 w:=k_
theorem afp_ (x0 x1 x2 x3 x4 x5 x6 x7:Value)(w:World):(Instr.index 174 (.agg #[x0,x1,x2,x3,x4,x5,x6,x7]) (.int .i64 5)).run prog w= .ok x5 w:=k_
theorem afq_ (x0 x1 x2 x3 x4 x5 x6 x7:Value)(w:World):(Instr.index 174 (.agg #[x0,x1,x2,x3,x4,x5,x6,x7]) (.int .i64 6)).run prog w= .ok x6 w:=k_
theorem afr_ (x0 x1 x2 x3 x4 x5 x6 x7:Value)(w:World):(Instr.index 174 (.agg #[x0,x1,x2,x3,x4,x5,x6,x7]) (.int .i64 7)).run prog w= .ok x7 w:=k_
theorem o8_ (gn cn:Nat)(M:Tab)(w:World)(hcel:∀i c,i<M.n->c<8->w.cell? ⟨gn,i*8+c,none⟩=some (.int .i64 (M.nxt i c)))(hN:cd_ M)(hn:M.n<=100000000):
 Calls prog 139 #[.slice (some ⟨gn,0,none⟩) M.n cn] w fun e w'=>e= .returned (.bool true)/\w'=w:=by
 have hcl:=aew_ hN;go_enter func139,ntmps139;go_wp2_with fail;go_loop [3,4] (fun cm i'=>∃i:Nat,i<=M.n/\i'= .int .i64 i/\cm= .int .i64 (come M.nxt (8*i))) (fun _ i'=>M.n - (intOf i').toNat)
 case atStart=>exact⟨0,o_,rfl,rfl⟩
 case round=>
  obtain⟨i,hi,rfl,rfl⟩:=hrel;have hc1:=hcl (8*i) o_;have hcp:=tv_ M.nxt (8*i);by_cases hlt:i<M.n
  . have hrow:=hN.row i hlt;obtain⟨cm0,HC0⟩:=hx__ (come M.nxt (8*i));rw[HC0.out]at hc1 hcp hrow ⊢;have z0:=hcel i 0 hlt o_;have z1:=hcel i 1 hlt o_;have z2:=hcel i 2 hlt o_;have z3:=hcel i 3 hlt o_;have z4:=hcel i 4 hlt o_;have z5:=hcel i 5 hlt o_;have z6:=hcel i 6 hlt o_;have z7:=hcel i 7 hlt o_;rw[Nat.add_zero]at z0;have HCL:Hid (∀p,p<=8*M.n->come M.nxt p<=M.n):=hcl;clear hcl hcel;go_wp2_with fail;clear z0 z1 z2 z3 z4 z5 z6 z7;go_loop [3,6,20] (fun cm _ c'=>∃c:Nat,c<=8/\c'= .int .i64 c/\cm= .int .i64 (come M.nxt (8*i+c))) (fun _ _ c'=>8 - (intOf c').toNat)
    case atStart=>exact⟨0,o_,rfl,by simp only[Nat.add_zero];rw[HC0.out]⟩
    case round=>
     obtain⟨c,hc,rfl,rfl⟩:=hrel;have hc2:=HCL.out (8*i+c) o_;have hcp2:=tv_ M.nxt (8*i+c);by_cases hl8:c<8
     . have hnx:=hN.nx i c hlt hl8;have hst:=hN.step (8*i+c) o_;have HCS:Hid (come M.nxt (8*i+(c+1))=max (come M.nxt (8*i+c)) (M.nxt i c+1)):=by
        unfold Hid;rw[<-Nat.add_assoc];simp only[come];rw[show(8*i+c)/8=i by omega,show(8*i+c)%8=c by omega]
       rw[show(8*i+c)/8=i by omega,show(8*i+c)%8=c by omega]at hst;obtain⟨cm,HC⟩:=hx__ (come M.nxt (8*i+c));have HCS2:Hid (come M.nxt (8*i+(c+1))=max cm (M.nxt i c+1)):=by unfold Hid;rw[<-HC.out];exact HCS.out
       rw[HC.out]at hc2 hcp2 hst ⊢;rcases (show c=0\/c=1\/c=2\/c=3\/c=4\/c=5\/c=6\/c=7 by omega)with rfl|rfl|rfl|rfl|rfl|rfl|rfl|rfl
       . have ix:=afk_ (.int .i64 (M.nxt i 0)) (.int .i64 (M.nxt i 1)) (.int .i64 (M.nxt i 2)) (.int .i64 (M.nxt i 3)) (.int .i64 (M.nxt i 4)) (.int .i64 (M.nxt i 5)) (.int .i64 (M.nxt i 6)) (.int .i64 (M.nxt i 7));by_cases hq:M.nxt i 0=cm
         . have hb:((M.nxt i 0:Int)==(cm:Int))=true:=s_;have HQ:Hid (M.nxt i 0=cm):=hq;clear hq;go_wp2_with fail;go_round
           case rel=>
            refine⟨0+1,o_,by go_num, ?_⟩;have:=HQ.out;rw[HCS2.out,show max cm (M.nxt i 0+1)=cm+1 by omega];go_num
           case measure=>simp[intOf]
         . have hb:((M.nxt i 0:Int)==(cm:Int))=false:=s_;have HQ:Hid (M.nxt i 0<cm):=by unfold Hid;omega
           clear hq;go_wp2_with fail;go_round
           case rel=>
            refine⟨0+1,o_,by go_num, ?_⟩;have:=HQ.out;rw[HCS2.out,show max cm (M.nxt i 0+1)=cm by omega]
           case measure=>simp[intOf]
       . have ix:=afl_ (.int .i64 (M.nxt i 0)) (.int .i64 (M.nxt i 1)) (.int .i64 (M.nxt i 2)) (.int .i64 (M.nxt i 3)) (.int .i64 (M.nxt i 4)) (.int .i64 (M.nxt i 5)) (.int .i64 (M.nxt i 6)) (.int .i64 (M.nxt i 7));by_cases hq:M.nxt i 1=cm
         . have hb:((M.nxt i 1:Int)==(cm:Int))=true:=s_;have HQ:Hid (M.nxt i 1=cm):=hq;clear hq;go_wp2_with fail;go_round
           case rel=>
            refine⟨1+1,o_,by go_num, ?_⟩;have:=HQ.out;rw[HCS2.out,show max cm (M.nxt i 1+1)=cm+1 by omega];go_num
           case measure=>simp[intOf]
         . have hb:((M.nxt i 1:Int)==(cm:Int))=false:=s_;have HQ:Hid (M.nxt i 1<cm):=by unfold Hid;omega
           clear hq;go_wp2_with fail;go_round
           case rel=>
            refine⟨1+1,o_,by go_num, ?_⟩;have:=HQ.out;rw[HCS2.out,show max cm (M.nxt i 1+1)=cm by omega]
           case measure=>simp[intOf]
       . have ix:=afm_ (.int .i64 (M.nxt i 0)) (.int .i64 (M.nxt i 1)) (.int .i64 (M.nxt i 2)) (.int .i64 (M.nxt i 3)) (.int .i64 (M.nxt i 4)) (.int .i64 (M.nxt i 5)) (.int .i64 (M.nxt i 6)) (.int .i64 (M.nxt i 7));by_cases hq:M.nxt i 2=cm
         . have hb:((M.nxt i 2:Int)==(cm:Int))=true:=s_;have HQ:Hid (M.nxt i 2=cm):=hq;clear hq;go_wp2_with fail;go_round
           case rel=>
            refine⟨2+1,o_,by go_num, ?_⟩;have:=HQ.out;rw[HCS2.out,show max cm (M.nxt i 2+1)=cm+1 by omega];go_num
           case measure=>simp[intOf]
         . have hb:((M.nxt i 2:Int)==(cm:Int))=false:=s_;have HQ:Hid (M.nxt i 2<cm):=by unfold Hid;omega
           clear hq;go_wp2_with fail;go_round
           case rel=>
            refine⟨2+1,o_,by go_num, ?_⟩;have:=HQ.out;rw[HCS2.out,show max cm (M.nxt i 2+1)=cm by omega]
           case measure=>simp[intOf]
       . have ix:=afn_ (.int .i64 (M.nxt i 0)) (.int .i64 (M.nxt i 1)) (.int .i64 (M.nxt i 2)) (.int .i64 (M.nxt i 3)) (.int .i64 (M.nxt i 4)) (.int .i64 (M.nxt i 5)) (.int .i64 (M.nxt i 6)) (.int .i64 (M.nxt i 7));by_cases hq:M.nxt i 3=cm
         . have hb:((M.nxt i 3:Int)==(cm:Int))=true:=s_;have HQ:Hid (M.nxt i 3=cm):=hq;clear hq;go_wp2_with fail;go_round
           case rel=>
            refine⟨3+1,o_,by go_num, ?_⟩;have:=HQ.out;rw[HCS2.out,show max cm (M.nxt i 3+1)=cm+1 by omega];go_num
           case measure=>simp[intOf]
         . have hb:((M.nxt i 3:Int)==(cm:Int))=false:=s_;have HQ:Hid (M.nxt i 3<cm):=by unfold Hid;omega
           clear hq;go_wp2_with fail;go_round
           case rel=>
            refine⟨3+1,o_,by go_num, ?_⟩;have:=HQ.out;rw[HCS2.out,show max cm (M.nxt i 3+1)=cm by omega]
           case measure=>simp[intOf]
       . have ix:=afo_ (.int .i64 (M.nxt i 0)) (.int .i64 (M.nxt i 1)) (.int .i64 (M.nxt i 2)) (.int .i64 (M.nxt i 3)) (.int .i64 (M.nxt i 4)) (.int .i64 (M.nxt i 5)) (.int .i64 (M.nxt i 6)) (.int .i64 (M.nxt i 7));by_cases hq:M.nxt i 4=cm
         . have hb:((M.nxt i 4:Int)==(cm:Int))=true:=s_;have HQ:Hid (M.nxt i 4=cm):=hq;clear hq;go_wp2_with fail;go_round
           case rel=>
            refine⟨4+1,o_,by go_num, ?_⟩;have:=HQ.out;rw[HCS2.out,show max cm (M.nxt i 4+1)=cm+1 by omega];go_num
           case measure=>simp[intOf]
         . have hb:((M.nxt i 4:Int)==(cm:Int))=false:=s_;have HQ:Hid (M.nxt i 4<cm):=by unfold Hid;omega
           clear hq;go_wp2_with fail;go_round
           case rel=>
            refine⟨4+1,o_,by go_num, ?_⟩;have:=HQ.out;rw[HCS2.out,show max cm (M.nxt i 4+1)=cm by omega]
           case measure=>simp[intOf]
       . have ix:=afp_ (.int .i64 (M.nxt i 0)) (.int .i64 (M.nxt i 1)) (.int .i64 (M.nxt i 2)) (.int .i64 (M.nxt i 3)) (.int .i64 (M.nxt i 4)) (.int .i64 (M.nxt i 5)) (.int .i64 (M.nxt i 6)) (.int .i64 (M.nxt i 7));by_cases hq:M.nxt i 5=cm
         . have hb:((M.nxt i 5:Int)==(cm:Int))=true:=s_;have HQ:Hid (M.nxt i 5=cm):=hq;clear hq;go_wp2_with fail;go_round
           case rel=>
            refine⟨5+1,o_,by go_num, ?_⟩;have:=HQ.out;rw[HCS2.out,show max cm (M.nxt i 5+1)=cm+1 by omega];go_num
           case measure=>simp[intOf]
         . have hb:((M.nxt i 5:Int)==(cm:Int))=false:=s_;have HQ:Hid (M.nxt i 5<cm):=by unfold Hid;omega
           clear hq;go_wp2_with fail;go_round
           case rel=>
            refine⟨5+1,o_,by go_num, ?_⟩;have:=HQ.out;rw[HCS2.out,show max cm (M.nxt i 5+1)=cm by omega]
           case measure=>simp[intOf]
       . have ix:=afq_ (.int .i64 (M.nxt i 0)) (.int .i64 (M.nxt i 1)) (.int .i64 (M.nxt i 2)) (.int .i64 (M.nxt i 3)) (.int .i64 (M.nxt i 4)) (.int .i64 (M.nxt i 5)) (.int .i64 (M.nxt i 6)) (.int .i64 (M.nxt i 7));by_cases hq:M.nxt i 6=cm
         . have hb:((M.nxt i 6:Int)==(cm:Int))=true:=s_;have HQ:Hid (M.nxt i 6=cm):=hq;clear hq;go_wp2_with fail;go_round
           case rel=>
            refine⟨6+1,o_,by go_num, ?_⟩;have:=HQ.out;rw[HCS2.out,show max cm (M.nxt i 6+1)=cm+1 by omega];go_num
           case measure=>simp[intOf]
         . have hb:((M.nxt i 6:Int)==(cm:Int))=false:=s_;have HQ:Hid (M.nxt i 6<cm):=by unfold Hid;omega
           clear hq;go_wp2_with fail;go_round
           case rel=>
            refine⟨6+1,o_,by go_num, ?_⟩;have:=HQ.out;rw[HCS2.out,show max cm (M.nxt i 6+1)=cm by omega]
           case measure=>simp[intOf]
       . have ix:=afr_ (.int .i64 (M.nxt i 0)) (.int .i64 (M.nxt i 1)) (.int .i64 (M.nxt i 2)) (.int .i64 (M.nxt i 3)) (.int .i64 (M.nxt i 4)) (.int .i64 (M.nxt i 5)) (.int .i64 (M.nxt i 6)) (.int .i64 (M.nxt i 7));by_cases hq:M.nxt i 7=cm
         . have hb:((M.nxt i 7:Int)==(cm:Int))=true:=s_;have HQ:Hid (M.nxt i 7=cm):=hq;clear hq;go_wp2_with fail;go_round
           case rel=>
            refine⟨7+1,o_,by go_num, ?_⟩;have:=HQ.out;rw[HCS2.out,show max cm (M.nxt i 7+1)=cm+1 by omega];go_num
           case measure=>simp[intOf]
         . have hb:((M.nxt i 7:Int)==(cm:Int))=false:=s_;have HQ:Hid (M.nxt i 7<cm):=by unfold Hid;omega
           clear hq;go_wp2_with fail;go_round
           case rel=>
            refine⟨7+1,o_,by go_num, ?_⟩;have:=HQ.out;rw[HCS2.out,show max cm (M.nxt i 7+1)=cm by omega]
           case measure=>simp[intOf]
     . have he:c=8:=o_;subst he;rw[show 8*i+8=8*(i+1)by omega]at hc2 hcp2 ⊢;obtain⟨cm,HC⟩:=hx__ (come M.nxt (8*(i+1)));rw[HC.out]at hc2 hcp2 ⊢;go_wp2_with fail;go_round
       case rel=>exact⟨i+1,o_,by go_num,by rw[HC.out]⟩
       case measure=>simp[intOf];omega
  . have he:i=M.n:=o_;subst he;rw[hN.all];have hb:((M.n:Int)==(M.n:Int))=true:=i_;clear hcl hc1 hcp hcel;go_wp2_with fail;go_ret;exact⟨rfl,rfl⟩
theorem qz_ (gw ga ca gn cn:Nat)(M:Tab)(L:List Nat->Bool)(bu:Nat)(w:World)(hM:ez_ w gw ga ca gn cn M)(hN:cd_ M)(hn:M.n<=100000000)(hL:∀x,ax_ x->M.accepts x=L x)(hb0:1<=bu)(hb1:bu<=40):
 Calls prog 100 #[.pointer (some ⟨gw,0,none⟩),.int .i64 bu] w (di_ L bu M.n w):=by
 obtain⟨W,hW,BW,hWs,b2⟩:=nw__ w #[.slice none 0 0,.slice none 0 0] 41;have hM0:=hM.below BW;have xp:=hM.p1;have hgw:=an_ hM.p1;have HO:=o8_ gn cn M W hM0.cel hN hn;have HC:=aab_ gw ga ca gn cn M bu W hM0 hb0 hb1 hN.pos hn hN.nx;have HN:=hi__ hN;have HL:=hi__ hL;clear hN hL;go_enter func100,ntmps100;go_wp2_with fail;rw[<-hW];clear hW;refine HO.mono ?_;rintro e w1 ⟨rfl,hw1⟩;obtain rfl:W=w1:=hw1.symm;clear HO hw1;go_wp2_with fail;refine HC.mono ?_;clear HC xp hgw;rintro e w5 ⟨hB5,hcase⟩;have a2:=(hB5.block _ o_).trans b2;have BW5:Below w.heap.size w w5:=BW.trans (hB5.mono o_);have hs5:=hB5.size;clear b2 hB5 BW;obtain⟨q0,q1,p0,p1⟩:=aa_ a2;have hsa:w.heap.size<w5.heap.size:=o_;rcases hcase with ⟨f,hs,V',hst,hle,rfl,hT,hF,hFr⟩|⟨rfl,hs,hgt,hlt,hap⟩
 . have HS:Hid _:=hst;clear hst;go_wp2_with fail;obtain⟨r1,r2⟩:=jo_ (u:= .slice (some ⟨V'.ba,V'.oa,none⟩) hs.length V'.ca) (v:= .slice (some ⟨V'.bn,V'.on,none⟩) hs.length V'.cn) a2 (.cells #[.slice (some ⟨V'.ba,V'.oa,none⟩) hs.length V'.ca,.slice (some ⟨V'.bn,V'.on,none⟩) hs.length V'.cn] 41);refine bodyPost_ret (v:= .tuple #[.agg #[.slice (some ⟨V'.ba,V'.oa,none⟩) hs.length V'.ca,.slice (some ⟨V'.bn,V'.on,none⟩) hs.length V'.cn],.int .i64 0]) (by simp[results,results100,go_sem,r1,r2]) rfl ?_;have hBe:=(az_ BW5 (b:=w.heap.size) o_ (.slice (some ⟨V'.ba,V'.oa,none⟩) hs.length V'.ca) (.slice (some ⟨V'.bn,V'.on,none⟩) hs.length V'.cn)).alloc s_ (.cells #[.slice (some ⟨V'.ba,V'.oa,none⟩) hs.length V'.ca,.slice (some ⟨V'.bn,V'.on,none⟩) hs.length V'.cn] 41);have hTe:=(hT.res hF (b:=w.heap.size) o_ (.slice (some ⟨V'.ba,V'.oa,none⟩) hs.length V'.ca) (.slice (some ⟨V'.bn,V'.on,none⟩) hs.length V'.cn)).below (br__.alloc lr__ (.cells #[.slice (some ⟨V'.ba,V'.oa,none⟩) hs.length V'.ca,.slice (some ⟨V'.bn,V'.on,none⟩) hs.length V'.cn] 41));exact⟨hBe,.inl ⟨_,V',tw_ HN.out HS.out HL.out,hle,rfl,hTe,hF.mono o_,((hFr.set _ _ _).set _ _ _).below ba__⟩⟩
 . go_wp2_with fail;obtain⟨r1,r2⟩:=jo_ (u:= .slice none 0 0) (v:= .slice none 0 0) a2 (.cells #[.slice none 0 0,.slice none 0 0] 41);refine bodyPost_ret (v:= .tuple #[.agg #[.slice none 0 0,.slice none 0 0],.int .i64 5]) (by simp[results,results100,go_sem,r1,r2]) rfl ?_;have hBe:=(az_ BW5 (b:=w.heap.size) o_ (.slice none 0 0) (.slice none 0 0)).alloc s_ (.cells #[.slice none 0 0,.slice none 0 0] 41);have hl:=ac6_ hs hlt hap;exact⟨hBe,.inr ⟨rfl,o_,fun R hRl=>by have:=ac2_ hRl HN.out HL.out hs hlt hap;omega⟩⟩
theorem o9_ (gw ga ca gn cn:Nat)(M:Tab)(budget:Int)(w:World)(hM:ez_ w gw ga ca gn cn M)(hN:cd_ M)(hn:M.n<=100000000)(hb:budget<1\/40<budget):
 Calls prog 100 #[.pointer (some ⟨gw,0,none⟩),.int .i64 budget] w
  fun e w'=>e= .returned (.tuple #[.agg #[.slice none 0 0,.slice none 0 0],.int .i64 8])/\Below w.heap.size w w':=by
 obtain⟨W,hW,BW,hWs,b2⟩:=nw__ w #[.slice none 0 0,.slice none 0 0] 41;have hM0:=hM.below BW;have xp:=hM.p1;have hgw:=an_ hM.p1;have HO:=o8_ gn cn M W hM0.cel hN hn;clear hN;go_enter func100,ntmps100;go_wp2_with fail;rw[<-hW];clear hW;refine HO.mono ?_;rintro e w1 ⟨rfl,hw1⟩;obtain rfl:W=w1:=hw1.symm;clear HO hw1 xp hgw;obtain⟨q0,q1,p0,p1⟩:=aa_ b2;obtain⟨_,r2,r1⟩:=a7_ (u:= .slice none 0 0) (v:= .slice none 0 0) b2;have hBe:=az_ BW (b:=w.heap.size) o_ (.slice none 0 0) (.slice none 0 0);have HB:Hid _:=hBe;clear hBe;rcases hb with hb|hb
 . go_wp2_with fail;refine bodyPost_ret (v:= .tuple #[.agg #[.slice none 0 0,.slice none 0 0],.int .i64 8]) (by simp[results,results100,go_sem,r1,r2]) rfl ?_;exact⟨rfl,HB.out⟩
 . have hb':¬budget<1:=o_;go_wp2_with fail;refine bodyPost_ret (v:= .tuple #[.agg #[.slice none 0 0,.slice none 0 0],.int .i64 8]) (by simp[results,results100,go_sem,r1,r2]) rfl ?_;exact⟨rfl,HB.out⟩
theorem i2_ {w:World}{b b' t t' n n':Nat}{f f':Nat->Value}(h:w.rowIs b t n f)(h':w.rowIs b' t' n' f')(ht:t≠t'):b≠b':=by
 obtain⟨c,hb,_,_⟩:=h;obtain⟨c',hb',_,_⟩:=h';intro e;subst e;rw[hb]at hb';simp only[Option.some.injEq,Obj.cells.injEq]at hb';exact ht hb'.2.1
structure c4_ (w:World)(B g n k:Nat)(rb:Nat->Nat)(D:Nat->Nat->Bool):Prop where
 top:w.rowIs g 38 n (fun i=>if i<k then .slice (some ⟨rb i,0,none⟩) n n else .slice none 0 0)
 row:∀i,i<k->w.rowIs (rb i) 4 n (fun j=> .bool (D i j))
 inj:∀i j,i<k->j<k->i≠j->rb i≠rb j
 lg:B<=g
 lr:∀i,i<k->B<=rb i
theorem c4_.below {w w':World}{B g n k:Nat}{rb:Nat->Nat}{D:Nat->Nat->Bool}(h:c4_ w B g n k rb D)(hb:Below w.heap.size w w'):c4_ w' B g n k rb D:=
 ⟨h.top.of_block (hb.block _ h.top.lt),fun i hi=>(h.row i hi).of_block (hb.block _ (h.row i hi).lt),h.inj,h.lg,h.lr⟩
theorem c4_.congr {w:World}{B g n k:Nat}{rb:Nat->Nat}{D D':Nat->Nat->Bool}(h:c4_ w B g n k rb D)(e:∀i j,i<k->j<n->D i j=D' i j):c4_ w B g n k rb D':=
 ⟨h.top,fun i hi=>(h.row i hi).congr (fun j hj=>by rw[e i j hi hj]),h.inj,h.lg,h.lr⟩
def upd (D:Nat->Nat->Bool)(i j:Nat)(v:Bool):Nat->Nat->Bool:=fun x y=>if x=i/\y=j then v else D x y
theorem c4_.set {w:World}{B g n k:Nat}{rb:Nat->Nat}{D:Nat->Nat->Bool}(h:c4_ w B g n k rb D){i j:Nat}(hi:i<k)(v:Bool):c4_ (w.setCell ⟨rb i,j,none⟩ (.bool v)) B g n k rb (upd D i j v):=by
 refine⟨h.top.setOther (i2_ h.top (h.row i hi) d_) _,fun x hx=> ?_,h.inj,h.lg,h.lr⟩;by_cases e:x=i
 . subst e;refine((h.row x hi).set j _).congr (fun y _=> ?_);by_cases e:y=j<;>simp[upd,e]
 . refine((h.row x hx).setOther (h.inj x i hx hi e) _).congr (fun y _=> ?_);simp[upd,e]
theorem c4_.next {w:World}{B g n k H:Nat}{rb:Nat->Nat}{D:Nat->Nat->Bool}{f:Nat->Bool}(h:c4_ w B g n k rb D)(hr:w.rowIs H 4 n (fun j=> .bool (f j)))(hne:∀i,i<k->rb i≠H)(hH:B<=H):
 c4_ (w.setCell ⟨g,k,none⟩ (.slice (some ⟨H,0,none⟩) n n)) B g n (k+1) (fun i=>if i=k then H else rb i) (fun i j=>if i=k then f j else D i j):=by
 refine⟨(h.top.set k _).congr (fun x _=> ?_),fun x hx=> ?_,fun x y hx hy hxy=> ?_,h.lg,fun x hx=> ?_⟩
 . by_cases e:x=k
   . subst e;simp
   . simp only[if_neg e];by_cases h':x<k
     . rw[if_pos h',if_pos o_]
     . rw[if_neg h',if_neg o_]
 . by_cases e:x=k
   . subst e;simp only[if_true];exact hr.setOther (fun e=>i2_ h.top hr d_ e.symm) _
   . simp only[if_neg e];exact(h.row x o_).setOther (fun e'=>i2_ h.top (h.row x o_) d_ e'.symm) _
 . by_cases e:x=k
   . subst e;simp only[if_true,if_neg (show y≠x from fun e=>hxy e.symm)];exact fun e'=>hne y o_ e'.symm
   . by_cases e2:y=k
     . subst e2;simp only[if_neg e,if_true];exact hne x o_
     . simp only[if_neg e,if_neg e2];exact h.inj x y o_ o_ hxy
 . by_cases e:x=k
   . subst e;simp only[if_true];exact hH
   . simp only[if_neg e];exact h.lr x o_
def gk_ (n:Nat)(D:Nat->Nat->Bool):Nat:=((List.range (n*n)).filter fun q=> !D (q/n) (q%n)).length
theorem aac_ {n:Nat}{D D':Nat->Nat->Bool}(hle:∀i j,i<n->j<n->D i j=true->D' i j=true){i j:Nat}(hi:i<n)(hj:j<n)(h0:D i j=false)(h1:D' i j=true):gk_ n D'<gk_ n D:=by
 have key:∀(l:List Nat),(∀q∈l,q<n*n)->((l.filter fun q=> !D' (q/n) (q%n)).length<=(l.filter fun q=> !D (q/n) (q%n)).length)/\(i*n+j∈l->(l.filter fun q=> !D' (q/n) (q%n)).length<(l.filter fun q=> !D (q/n) (q%n)).length):=by
  intro l;induction l with
  |nil=>intro _;simp
  |cons q l ih=>
   intro hq;obtain⟨a,b⟩:=ih (fun x hx=>hq x (by simp[hx]));have hqn:=hq q i_;have hn:0<n:=o_;have q1:q/n<n:=Nat.div_lt_of_lt_mul hqn;have q2:q%n<n:=Nat.mod_lt _ hn;by_cases e:q=i*n+j
   . have e1:q/n=i:=by rw[e,Nat.mul_comm,Nat.mul_add_div hn,Nat.div_eq_of_lt hj];omega
     have e2:q%n=j:=by rw[e,Nat.mul_comm,Nat.mul_add_mod,Nat.mod_eq_of_lt hj]
     simp only[List.filter_cons,e1,e2,h0,h1];simp;constructor
     . omega
     . omega
   . have hm:=hle _ _ q1 q2;cases hd:D (q/n) (q%n)with
     |true=>
      simp only[List.filter_cons,hd,hm hd];simp;exact⟨a,fun h=>by
       rcases h with h|h
       . exact absurd h.symm e
       . exact b h⟩
     |false=>
      cases hd':D' (q/n) (q%n)with
      |true=>
       simp only[List.filter_cons,hd,hd'];simp;exact⟨o_,fun _=>o_⟩
      |false=>
       simp only[List.filter_cons,hd,hd'];simp;exact⟨a,fun h=>by
        rcases h with h|h
        . exact absurd h.symm e
        . exact b h⟩
 refine(key (List.range (n*n)) i_).2 ?_;simp only[List.mem_range];have:i*n+j<(i+1)*n:=by rw[Nat.add_mul];omega
 exact Nat.lt_of_lt_of_le this (Nat.mul_le_mul_right n o_)
end Go.Proofs.YtpngikmcjkjdaaaGreatDoor
