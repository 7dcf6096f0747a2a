import Derived.Deep.LoopGhost
import Derived.Test.YtpngikmcjkjdaaaGreatDoorC5
set_option linter.unusedVariables false
set_option linter.unusedSimpArgs false
set_option maxRecDepth 20000
set_option maxHeartbeats 80000000
namespace Go.Proofs.YtpngikmcjkjdaaaGreatDoor
open Go.RowKit Tryz List Nat
variable {x:List Value} {B N b b' base e g i j k n n' s t:Nat} {rb:Nat->Nat} {D D':Nat->Nat->Bool} {S:Nat->Prop} {f:Nat->Value} {v:Value} {w w':World}
def am9_ (M:γ)(b8:Nat)(w:World)(e:Ending)(w':World):Prop:=
 Bl w w'/\
  ((∃(f:Nat->Nat) (hs:List Nat) (V:ρ),ii_ M f hs/\hs.length<=b8/\e= .returned (.tuple #[.agg #[.slice (some ⟨V.ba,V.oa,none⟩) hs.length V.ca,.slice (some ⟨V.bn,V.on,none⟩) hs.length V.cn],.bool true])/\π w' V (fk_ M f hs)/\V.cP w.heap.size hs.length/\h6_ w' V hs.length)\/
   (e= .returned (.tuple #[.agg #[.slice none 0 0,.slice none 0 0],.bool false])/\∃hs:List Nat,b8<hs.length/\(∀c,c<hs.length->hs.getD c 0<M.n)/\∀c d,c<d->d<hs.length->e5_ M (hs.getD c 0) (hs.getD d 0)))
structure aai_ (M:γ)(b8 b:Nat)(W w:World)(k:Nat)(vo:Value)(gh ch:Nat)(hs:List Nat):Prop where
 cz:Below b W w
 cg:w.heap[b]? =some (.cells #[vo,.slice (some ⟨gh,0,none⟩) hs.length ch] 215 (0,0))
 dJ:dc_ w gh hs.length (fun i=>hs.getD i 0)
 fB:(hs.length+k=b8+1/\hs.length<=b8/\∃f go co,vo= .slice (some ⟨go,0,none⟩) M.n co/\dc_ w go M.n f/\Mid M f hs/\i1_ M f)\/
  (k=0/\b8<hs.length/\hs.length<=41/\(∃ao lo co,vo= .slice ao lo co)/\(∀c,c<hs.length->hs.getD c 0<M.n)/\∀c d,c<d->d<hs.length->e5_ M (hs.getD c 0) (hs.getD d 0))
theorem ana_ (gw ga ca gn cn:Nat)(M:γ)(b8:Nat)(w:World)(hM:gj_ w gw ga ca gn cn M)
 (hm0:1<=b8) (hm1:b8<=40) (hn0:1<=M.n) (hn:M.n<=100000000) (hnx:∀i c,i<M.n->c<8->M.b7 i c<M.n):
 Calls prog 140 #[.pointer (some ⟨gw,0,none⟩),.int .i64 b8] w (am9_ M b8 w):=by
 have az:=run_make_row' (P:=prog) 24 3 (.int .i64 0) 8 underlying24 e9_ rfl .i64 .i64 M.n o_ o_;obtain⟨W,o⟩:=af_ ((((w.alloc (.cells #[.slice none 0 0,.slice none 0 0] 41)).alloc (.cells (madeCells #[.int .i64 0] M.n) 3)).alloc (.cells #[.int .i64 0] 3)).alloc (.cells #[.slice (some ⟨w.heap.size+1,0,none⟩) M.n M.n,.slice (some ⟨w.heap.size+1+1,0,none⟩) 1 1] 215));have BW:Bl w W:=by
  rw[o];exact((ξ.alloc i_ _).alloc s_ _).alloc s_ _
 have k2:W.heap[w.heap.size]? =some (.cells #[.slice none 0 0,.slice none 0 0] 41 (0,0)):=by rw[o];exact φ (φ (φ (ο i_)))
 have k3:W.heap[w.heap.size+1]? =some (.cells (madeCells #[.int .i64 0] M.n) 3 (0,0)):=by rw[o];exact φ (φ (ο i_))
 have k4:W.heap[w.heap.size+1+1]? =some (.cells #[.int .i64 0] 3 (0,0)):=by rw[o];exact φ (ο i_)
 have k5:W.heap[w.heap.size+1+1+1]? =some (.cells #[.slice (some ⟨w.heap.size+1,0,none⟩) M.n M.n,.slice (some ⟨w.heap.size+1+1,0,none⟩) 1 1] 215 (0,0)):=by rw[o];exact ο i_
 have P0:aai_ M b8 (w.heap.size+1+1+1) W W b8 (.slice (some ⟨w.heap.size+1,0,none⟩) M.n M.n) (w.heap.size+1+1) 1 [0]:=
  ⟨μ,k5,fun i hi=>by
   have:i=0:=by simp at hi;omega
   subst this;simpa using cell_of_one k4,
   .inl ⟨s_,by simpa using hm0,fun _=>0,_,_,rfl,fun i hi=>(h5_ k3).cell hi,Mid.first hn0,i1_.first M⟩⟩
 have xp:=hM.p0;have au:=Χ hM.p0;go_enter func140,ntmps140;go_wp2_with fail;rw[<-o];clear o az k3 k4 k5 xp au;go_loopg [7] b8 (fun k _ wr=>∃vo E C l,aai_ M b8 (w.heap.size+1+1+1) W wr k vo E C l)
 case atStart=>exact⟨_,_,_,_,P0⟩
 case round=>
  obtain⟨vo,E,C,l,z⟩:=hrel;clear P0;have I:=z.cz;have J:=η BW I;have x:wr.heap[w.heap.size]? =some (.cells #[.slice none 0 0,.slice none 0 0] 41 (0,0)):=(I.block _ o_).trans k2;obtain⟨q0,q1,p0,p1⟩:=β x;obtain⟨y0,y1,z0,z1⟩:=β z.cg;rcases z.fB with ⟨hk,aE,f,go,co,rfl,hf,O,L⟩|⟨rfl,ar,aB,⟨ao,lo,co,rfl⟩,hlt,hap⟩
  . have s:=akt_ gw ga ca gn cn go co l.length C (some ⟨E,0,none⟩) M f b8 wr (hM.below J) hf hm0 hm1 hn0 hn hnx;have HP:=α z;clear z hf;go_wp2_with fail;refine s.mono ?_;rintro e m ⟨A,aA,F,D,os,j,rfl,aD,G,K⟩;clear s y0 y1 z0 z1 x q0 q1 p0 p1;have ay:=κ HP.out.cg;have H:=η I A;have X:=η J A;have x:m.heap[w.heap.size]? =some (.cells #[.slice none 0 0,.slice none 0 0] 41 (0,0)):=(H.block _ o_).trans k2;obtain⟨q0,q1,p0,p1⟩:=β x;have Z:m.heap[w.heap.size+1+1+1]? =some (.cells #[.slice (some ⟨go,0,none⟩) M.n co,.slice (some ⟨E,0,none⟩) l.length C] 215 (0,0)):=by rw[A.block _ ay];exact HP.out.cg
    obtain⟨y0,y1,z0,z1⟩:=β Z;have aG:=κ Z;have aH:w.heap.size<m.heap.size:=o_;have aI:w.heap.size<m.heap.size:=o_;by_cases af:j.length=l.length
    . rcases K with ⟨av,⟨ad,y,rfl,_,B⟩,hrel'⟩|⟨he,_⟩
      . have ah:=akw_ hnx O L hrel' af;have aw:1<=j.length:=by have:=hrel'.cls.lt 0 o_;omega
        obtain⟨S,U,q,-,-⟩:=ν m #[.slice (some ⟨ad,0,none⟩) M.n y,.slice (some ⟨F,0,none⟩) j.length D] 215;have s:=am8_ gw ga ca gn cn ad y F D M (fun i=>os.getD i 0) j S ((hM.below X).below q) (B.below q) (G.below q) aw o_ (fun c hc=>(hrel'.cls.hd c hc).1) hn hnx;have ae:=η X q;have al:=α ah;have ax:S.heap[w.heap.size]? =some (.cells #[.slice none 0 0,.slice none 0 0] 41 (0,0)):=by rw[q.block _ o_];exact x
        have aF:m.heap.size<=S.heap.size:=q.size;have aq:((j.length:Int)==(l.length:Int))=true:=s_;have ak:=α ae;clear ah hrel' B G hM hnx O L A H X q ae I J af;rw[U]at s;go_wp2_with fail;refine s.mono ?_;rintro e w3 ⟨V,rfl,hT,t,Y,am⟩;rw[<-U]at t;rw[<-U]at Y;have ag:w3.heap[w.heap.size]? =some (.cells #[.slice none 0 0,.slice none 0 0] 41 (0,0)):=by rw[Y.block _ o_];exact ax
        obtain⟨aL,aM,aJ,aK⟩:=β ag;clear s;go_wp2
        obtain⟨r1,r2,r3⟩:=Φ (u:= .slice (some ⟨V.ba,V.oa,none⟩) j.length V.ca) (v:= .slice (some ⟨V.bn,V.on,none⟩) j.length V.cn) ag;refine bodyPost_ret (v:= .tuple #[.agg #[.slice (some ⟨V.ba,V.oa,none⟩) j.length V.ca,.slice (some ⟨V.bn,V.on,none⟩) j.length V.cn],.bool true]) (by simp[results,results140,go_sem,r1,r2]) rfl ?_;have an:=(hT.set t (p:=⟨w.heap.size,0,none⟩) l_ (.slice (some ⟨V.ba,V.oa,none⟩) j.length V.ca)).set t (p:=⟨w.heap.size,1,none⟩) l_ (.slice (some ⟨V.bn,V.on,none⟩) j.length V.cn);have hB:=ak.out.trans (Y.mono o_);exact⟨(hB.setCell (p:=⟨w.heap.size,0,none⟩) l_ _).setCell (p:=⟨w.heap.size,1,none⟩) l_ _,.inl ⟨_,j,V,al.out,av,rfl,an,⟨by have:=t.a;omega,by have:=t.b;omega,fun i hi=>by have:=t.r i hi;omega⟩,(am.set _ _ _).set _ _ _⟩⟩
      . omega
    . have aq:((j.length:Int)==(l.length:Int))=false:=s_;obtain⟨ac,ai,y,rfl⟩:∃ao lo co,aA= .slice ao lo co:=by
       rcases K with ⟨_,⟨g,c,rfl,_,_⟩,_⟩|⟨_,h,_⟩
       . exact⟨_,_,_,rfl⟩
       . exact h
      have aa:Hid _:=K;have HN:Hid _:=G;have aj:Hid _:=H;have Q:Hid _:=O;have ab:Hid _:=L;have R:Hid _:=hnx;clear K G A H O L hnx hM;go_wp2_with fail;go_roundg (b8+1 - j.length)
      case measure=>
       rcases aa.out with ⟨N,⟨g,c,_,_,B⟩,hrel'⟩|⟨N,_⟩
       . have:=akv_ Q.out ab.out hrel';omega
       . omega
      case rel=>
       have ap:((m.setCell ⟨w.heap.size+1+1+1,0,none⟩ (.slice ac ai y)).setCell ⟨w.heap.size+1+1+1,1,none⟩ (.slice (some ⟨F,0,none⟩) j.length D)).heap.size=m.heap.size:=i_;refine⟨.slice ac ai y,F,D,j,⟨?_, ?_, ?_, ?_⟩⟩
       . exact((aj.out.setCell (p:=⟨w.heap.size+1+1+1,0,none⟩) ι _).setCell (p:=⟨w.heap.size+1+1+1,1,none⟩) ι _).alloc (by rw[ap];omega) _
       . exact φ (fr_ (cb_ Z))
       . exact((dc_.set (dc_.set HN.out s_ _) s_ _)).below ξ
       . rcases aa.out with ⟨N,⟨g,c,e,aC,B⟩,hrel'⟩|⟨N,h2,T,h4⟩
         . exact .inl ⟨o_,N,fun i=>os.getD i 0,g,c,e,((B.set s_ _).set s_ _).below ξ,Q.out.step R.out hrel',i1_.step R.out ab.out hrel'⟩
         . exact .inr ⟨o_,o_,o_,h2,T,fun c d hcd hd=>zf_ R.out Q.out.apart _ _ (T c o_) (T d hd) (h4 c d hcd hd)⟩
  . have hm:¬l.length<=b8:=o_;go_wp2_with fail;obtain⟨r1,r2,r3⟩:=Φ (u:= .slice none 0 0) (v:= .slice none 0 0) x;refine bodyPost_ret (v:= .tuple #[.agg #[.slice none 0 0,.slice none 0 0],.bool false]) (by simp[results,results140,go_sem,r1,r2]) rfl ?_;exact⟨(J.setCell (p:=⟨w.heap.size,0,none⟩) l_ _).setCell (p:=⟨w.heap.size,1,none⟩) l_ _,.inr ⟨rfl,l,ar,hlt,hap⟩⟩
def d7_ (L:List Nat->Bool)(budget bound:Nat)(w:World)(e:Ending)(w':World):Prop:=
 Bl w w'/\
  ((∃(R:γ) (V:ρ),ch_ R L/\R.n<=budget/\e= .returned (.tuple #[.agg #[.slice (some ⟨V.ba,V.oa,none⟩) R.n V.ca,.slice (some ⟨V.bn,V.on,none⟩) R.n V.cn],.int .i64 0])/\π w' V R/\V.cP w.heap.size R.n/\h6_ w' V R.n)\/
   (e= .returned (.tuple #[.agg #[.slice none 0 0,.slice none 0 0],.int .i64 5])/\budget<bound/\∀R,ch_ R L->budget<R.n))
theorem anb_ {M:γ}(h:e5_ M i j):i≠j:=by
 intro e;subst e;obtain⟨x,_,a⟩:=h;exact a rfl
theorem anc_ {M:γ}(hs:List Nat)(hlt:∀c,c<hs.length->hs.getD c 0<M.n)(hap:∀c d,c<d->d<hs.length->e5_ M (hs.getD c 0) (hs.getD d 0)):hs.length<=M.n:=by
 refine i2_ M.n hs ?_ ?_
 . rw[List.Nodup,pairwise_iff_getElem];intro i j f a g e;have:=anb_ (hap i j g a);rw[gd_,ge_ f,gd_,ge_ a]at this;exact this e
 . intro x h;obtain⟨c,b,rfl⟩:=sx_ h;exact hlt c b
theorem mo_ {x y u:Value}{t:TypeId}(h:w.heap[b]? =some (.cells #[x,y] t (0,0)))(o:Obj):
 (((w.setCell ⟨b,0,none⟩ u).setCell ⟨b,1,none⟩ v).alloc o).cell? ⟨b,0,none⟩=some u/\(((w.setCell ⟨b,0,none⟩ u).setCell ⟨b,1,none⟩ v).alloc o).cell? ⟨b,1,none⟩=some v:=
 ⟨(β (φ (fr_ (cb_ h)))).1,(β (φ (fr_ (cb_ h)))).2.1⟩
theorem av_ {w5:World}(h:Bl w w5)(hb:w.heap.size<=b)(u v:Value):Bl w ((w5.setCell ⟨b,0,none⟩ u).setCell ⟨b,1,none⟩ v):=
 (h.setCell (p:=⟨b,0,none⟩) hb _).setCell (p:=⟨b,1,none⟩) hb _
theorem π.res {V:ρ}{M:γ}(h:π w V M)(hV:V.cP N M.n)(hb:b<N)(u v:Value):π ((w.setCell ⟨b,0,none⟩ u).setCell ⟨b,1,none⟩ v) V M:=
 (h.set hV (p:=⟨b,0,none⟩) hb u).set hV (p:=⟨b,1,none⟩) hb v
theorem ρ.cP.mono {V:ρ}{N':Nat}(h:V.cP N n)(hN:N'<=N):V.cP N' n:=⟨by have:=h.a;omega,by have:=h.b;omega,fun i hi=>by have:=h.r i hi;omega⟩
theorem and_:(prog.info? 174).map (fun i=>(i.zero,i.size,i.bytes))=some (some (.agg #[.int .i64 0,.int .i64 0,.int .i64 0,.int .i64 0,.int .i64 0,.int .i64 0,.int .i64 0,.int .i64 0]),8,64):=k_
theorem qj_ (w:World)(l:Array Value)(t:TypeId):∀j u,l.toList[j]? =some u->(w.alloc (.cells l t)).cell? ((⟨w.heap.size,0,none⟩:Addr).add j)=some u:=by
 intro j u b;have a:(⟨w.heap.size,0,none⟩:Addr).add j=⟨w.heap.size,j,none⟩:=by unfold Addr.add;split<;>simp_all
 rw[a,cell_of_row (w.alloc (.cells l t)) w.heap.size j l t (0,0) (ο rfl)];simpa using b
structure ε (S:Nat->Prop)(w w':World):Prop where
 os:w'.os=w.os
 tape:w'.tape=w.tape
 output:w'.output=w.output
 size:w.heap.size<=w'.heap.size
 block:∀k,k<w.heap.size->¬S k->w'.heap[k]? =w.heap[k]?
theorem ε.below {W:World}(h:ε S w w')(hb:Below B W w)(hB:B<=w.heap.size)(hS:∀k,S k->B<=k):Below B W w':=
 ⟨h.os.trans hb.os,h.tape.trans hb.tape,h.output.trans hb.output,Nat.le_trans hb.size h.size,fun k hk=>(h.block k o_ (fun hs=>by have:=hS k hs;omega)).trans (hb.block k hk)⟩
theorem ε.own (h:ε S w w')(ho:w.ownsRow base e s v n x)(hS:∀g,v.ownBlock=some g->¬S g):w'.ownsRow base e s v n x:=by
 refine⟨ho.1, ?_⟩;rcases ho.2 with ⟨rfl,f⟩|⟨g,b,c,rfl,d,a,r⟩
 . exact .inl ⟨rfl,f⟩
 . exact .inr ⟨g,b,c,rfl,d,by rw[h.block g (κ a) (hS g rfl)];exact a,r⟩
theorem ε.row (h:ε S w w')(hr:w.rowIs b t n f)(hS:¬S b):w'.rowIs b t n f:=hr.of_block (h.block b hr.lt hS)
theorem ε.heap {o:Obj}(h:ε S w w')(hr:w.heap[b]? =some o)(hS:¬S b):w'.heap[b]? =some o:=by rw[h.block b (κ hr) hS];exact hr
theorem ε.alloc (h:ε S w w')(o:Obj):ε S w (w'.alloc o):=
 ⟨h.os,h.tape,h.output,Nat.le_trans h.size i_,fun k hk hs=>(Below.heap_alloc w' o k (Nat.lt_of_lt_of_le hk h.size)).trans (h.block k hk hs)⟩
theorem ε.set (h:ε S w w')(a:Addr)(u:Value)(ha:S a.block\/w.heap.size<=a.block):ε S w (w'.setCell a u):=
 ⟨by rw[<-h.os];rfl,by rw[<-h.tape];rfl,by rw[<-h.output];rfl,Nat.le_trans h.size i_,fun k hk hs=>
  (Below.heap_setCell w' a u k (fun e=>ha.elim (fun ha=>hs (by rw[e];exact ha)) (fun ha=>o_))).trans (h.block k hk hs)⟩
theorem ε.grown {w2:World}(h:ε S w w'){row:Option Nat}(hg:w'.grownBy w2 row)(hr:∀k,row=some k->S k\/w.heap.size<=k):ε S w w2:=
 ⟨hg.os.trans h.os,hg.tape.trans h.tape,hg.output.trans h.output,Nat.le_trans h.size hg.size,fun k hk hs=>
  (hg.block k (Nat.lt_of_lt_of_le hk h.size) (fun e=>(hr k e.symm).elim (fun h1=>hs h1) (fun h1=>o_))).trans (h.block k hk hs)⟩
theorem ε.refl (S:Nat->Prop)(w:World):ε S w w:=⟨rfl,rfl,rfl,ι,fun _ _ _=>rfl⟩
section
variable {w w2:World}
theorem gn_ {e' s':Nat}{v':Value}{x':List Value}(h:w.ownsRow base e s v n x)(h':w.ownsRow base e' s' v' n' x')(hne:e≠e')(g:Nat)(hg:v.ownBlock=some g)(hg':v'.ownBlock=some g):False:=by
 rcases h.2 with ⟨rfl,_⟩|⟨a,f,j,rfl,_,c,_⟩
 . simp[Value.ownBlock]at hg
 . rcases h'.2 with ⟨rfl,_⟩|⟨d,i,k,rfl,_,b,_⟩
   . simp[Value.ownBlock]at hg'
   . simp only[Value.ownBlock,Δ]at hg hg';subst hg;subst hg';rw[c]at b;simp only[Δ,Obj.cells.injEq]at b;exact hne b.2.1
theorem hq_ (h:w.rowIs b t n f){row:Option Nat}(hg:w.grownBy w2 row)(hne:row≠some b):w2.rowIs b t n f:=
 h.of_block (hg.block b h.lt (fun e=>hne e.symm))
theorem bg_ (h:w.ownsRow base e s v n x)(a:Addr)(u:Value)(hne:∀g,v.ownBlock=some g->g≠a.block):(w.setCell a u).ownsRow base e s v n x:=
 ownsRow_setCell_other h (fun e=>hne _ e rfl) u
end
def do_ (r:Nat->Nat):Array Value:= #[.int .i64 ((r 0:Nat):Int),.int .i64 ((r 1:Nat):Int),.int .i64 ((r 2:Nat):Int),.int .i64 ((r 3:Nat):Int),.int .i64 ((r 4:Nat):Int),.int .i64 ((r 5:Nat):Int),.int .i64 ((r 6:Nat):Int),.int .i64 ((r 7:Nat):Int)]
theorem ane_ (x0 x1 x2 x3 x4 x5 x6 x7:Value)(w:World):(Instr.index 174 (.agg #[x0,x1,x2,x3,x4,x5,x6,x7]) (.int .i64 0)).run prog w= .ok x0 w:=k_
theorem anf_ (x0 x1 x2 x3 x4 x5 x6 x7:Value)(w:World):(Instr.index 174 (.agg #[x0,x1,x2,x3,x4,x5,x6,x7]) (.int .i64 1)).run prog w= .ok x1 w:=k_
theorem ang_ (x0 x1 x2 x3 x4 x5 x6 x7:Value)(w:World):(Instr.index 174 (.agg #[x0,x1,x2,x3,x4,x5,x6,x7]) (.int .i64 2)).run prog w= .ok x2 w:=k_
theorem anh_ (x0 x1 x2 x3 x4 x5 x6 x7:Value)(w:World):(Instr.index 174 (.agg #[x0,x1,x2,x3,x4,x5,x6,x7]) (.int .i64 3)).run prog w= .ok x3 w:=k_
theorem ani_ (x0 x1 x2 x3 x4 x5 x6 x7:Value)(w:World):(Instr.index 174 (.agg #[x0,x1,x2,x3,x4,x5,x6,x7]) (.int .i64 4)).run prog w= .ok x4 w:=k_
theorem anj_ (x0 x1 x2 x3 x4 x5 x6 x7:Value)(w:World):(Instr.index 174 (.agg #[x0,x1,x2,x3,x4,x5,x6,x7]) (.int .i64 5)).run prog w= .ok x5 w:=k_
theorem ank_ (x0 x1 x2 x3 x4 x5 x6 x7:Value)(w:World):(Instr.index 174 (.agg #[x0,x1,x2,x3,x4,x5,x6,x7]) (.int .i64 6)).run prog w= .ok x6 w:=k_
theorem anl_ (x0 x1 x2 x3 x4 x5 x6 x7:Value)(w:World):(Instr.index 174 (.agg #[x0,x1,x2,x3,x4,x5,x6,x7]) (.int .i64 7)).run prog w= .ok x7 w:=k_
theorem aaj_ (gn cn:Nat)(M:γ)(w:World)(hcel:∀i c,i<M.n->c<8->w.cell? ⟨gn,i*8+c,none⟩=some (.int .i64 (M.b7 i c)))(hN:d4_ M)(hn:M.n<=100000000):
 Calls prog 139 #[.slice (some ⟨gn,0,none⟩) M.n cn] w fun e w'=>e= .returned (.bool true)/\w'=w:=by
 have l:=akz_ hN;go_enter func139,ntmps139;go_wp2_with fail;go_loop [3,4] (fun a i'=>∃i:Nat,i<=M.n/\i'= .int .i64 i/\a= .int .i64 (ab_ M.b7 (8*i))) (fun _ i'=>M.n - (intOf i').toNat)
 case atStart=>exact⟨0,o_,rfl,rfl⟩
 case round=>
  obtain⟨i,J,rfl,rfl⟩:=hrel;have r:=l (8*i) o_;have s:=zi_ M.b7 (8*i);by_cases h:i<M.n
  . have z:=hN.row i h;obtain⟨H,q⟩:=δ (ab_ M.b7 (8*i));rw[q.out]at r s z ⊢;have u:=hcel i 0 h o_;have A:=hcel i 1 h o_;have B:=hcel i 2 h o_;have C:=hcel i 3 h o_;have D:=hcel i 4 h o_;have E:=hcel i 5 h o_;have F:=hcel i 6 h o_;have G:=hcel i 7 h o_;rw[Nat.add_zero]at u;have v:=α l;clear l hcel;go_wp2_with fail;clear u A B C D E F G;go_loop [3,6,20] (fun a _ c'=>∃c:Nat,c<=8/\c'= .int .i64 c/\a= .int .i64 (ab_ M.b7 (8*i+c))) (fun _ _ c'=>8 - (intOf c').toNat)
    case atStart=>exact⟨0,o_,rfl,by simp only[Nat.add_zero];rw[q.out]⟩
    case round=>
     obtain⟨c,I,rfl,rfl⟩:=hrel;have m:=v.out (8*i+c) o_;have o:=zi_ M.b7 (8*i+c);by_cases y:c<8
     . have K:=hN.nx i c h y;have t:=hN.step (8*i+c) o_;have x:Hid (ab_ M.b7 (8*i+(c+1))=max (ab_ M.b7 (8*i+c)) (M.b7 i c+1)):=by
        unfold Hid;rw[<-Nat.add_assoc];simp only[ab_];rw[show(8*i+c)/8=i by omega,show(8*i+c)%8=c by omega]
       rw[show(8*i+c)/8=i by omega,show(8*i+c)%8=c by omega]at t;obtain⟨a,k⟩:=δ (ab_ M.b7 (8*i+c));have f:Hid (ab_ M.b7 (8*i+(c+1))=max a (M.b7 i c+1)):=by unfold Hid;rw[<-k.out];exact x.out
       rw[k.out]at m o t ⊢;rcases (show c=0\/c=1\/c=2\/c=3\/c=4\/c=5\/c=6\/c=7 by omega)with rfl|rfl|rfl|rfl|rfl|rfl|rfl|rfl
       . have j:=ane_ (.int .i64 (M.b7 i 0)) (.int .i64 (M.b7 i 1)) (.int .i64 (M.b7 i 2)) (.int .i64 (M.b7 i 3)) (.int .i64 (M.b7 i 4)) (.int .i64 (M.b7 i 5)) (.int .i64 (M.b7 i 6)) (.int .i64 (M.b7 i 7));by_cases d:M.b7 i 0=a
         . have g:((M.b7 i 0:Int)==(a:Int))=true:=s_;have b:=α d;clear d;go_wp2_with fail;go_round
           case rel=>
            refine⟨0+1,o_,by go_num, ?_⟩;have:=b.out;rw[f.out,show max a (M.b7 i 0+1)=a+1 by omega];go_num
           case measure=>simp[intOf]
         . have g:((M.b7 i 0:Int)==(a:Int))=false:=s_;have b:Hid (M.b7 i 0<a):=by unfold Hid;omega
           clear d;go_wp2_with fail;go_round
           case rel=>
            refine⟨0+1,o_,by go_num, ?_⟩;have:=b.out;rw[f.out,show max a (M.b7 i 0+1)=a by omega]
           case measure=>simp[intOf]
       . have j:=anf_ (.int .i64 (M.b7 i 0)) (.int .i64 (M.b7 i 1)) (.int .i64 (M.b7 i 2)) (.int .i64 (M.b7 i 3)) (.int .i64 (M.b7 i 4)) (.int .i64 (M.b7 i 5)) (.int .i64 (M.b7 i 6)) (.int .i64 (M.b7 i 7));by_cases d:M.b7 i 1=a
         . have g:((M.b7 i 1:Int)==(a:Int))=true:=s_;have b:=α d;clear d;go_wp2_with fail;go_round
           case rel=>
            refine⟨1+1,o_,by go_num, ?_⟩;have:=b.out;rw[f.out,show max a (M.b7 i 1+1)=a+1 by omega];go_num
           case measure=>simp[intOf]
         . have g:((M.b7 i 1:Int)==(a:Int))=false:=s_;have b:Hid (M.b7 i 1<a):=by unfold Hid;omega
           clear d;go_wp2_with fail;go_round
           case rel=>
            refine⟨1+1,o_,by go_num, ?_⟩;have:=b.out;rw[f.out,show max a (M.b7 i 1+1)=a by omega]
           case measure=>simp[intOf]
       . have j:=ang_ (.int .i64 (M.b7 i 0)) (.int .i64 (M.b7 i 1)) (.int .i64 (M.b7 i 2)) (.int .i64 (M.b7 i 3)) (.int .i64 (M.b7 i 4)) (.int .i64 (M.b7 i 5)) (.int .i64 (M.b7 i 6)) (.int .i64 (M.b7 i 7));by_cases d:M.b7 i 2=a
         . have g:((M.b7 i 2:Int)==(a:Int))=true:=s_;have b:=α d;clear d;go_wp2_with fail;go_round
           case rel=>
            refine⟨2+1,o_,by go_num, ?_⟩;have:=b.out;rw[f.out,show max a (M.b7 i 2+1)=a+1 by omega];go_num
           case measure=>simp[intOf]
         . have g:((M.b7 i 2:Int)==(a:Int))=false:=s_;have b:Hid (M.b7 i 2<a):=by unfold Hid;omega
           clear d;go_wp2_with fail;go_round
           case rel=>
            refine⟨2+1,o_,by go_num, ?_⟩;have:=b.out;rw[f.out,show max a (M.b7 i 2+1)=a by omega]
           case measure=>simp[intOf]
       . have j:=anh_ (.int .i64 (M.b7 i 0)) (.int .i64 (M.b7 i 1)) (.int .i64 (M.b7 i 2)) (.int .i64 (M.b7 i 3)) (.int .i64 (M.b7 i 4)) (.int .i64 (M.b7 i 5)) (.int .i64 (M.b7 i 6)) (.int .i64 (M.b7 i 7));by_cases d:M.b7 i 3=a
         . have g:((M.b7 i 3:Int)==(a:Int))=true:=s_;have b:=α d;clear d;go_wp2_with fail;go_round
           case rel=>
            refine⟨3+1,o_,by go_num, ?_⟩;have:=b.out;rw[f.out,show max a (M.b7 i 3+1)=a+1 by omega];go_num
           case measure=>simp[intOf]
         . have g:((M.b7 i 3:Int)==(a:Int))=false:=s_;have b:Hid (M.b7 i 3<a):=by unfold Hid;omega
           clear d;go_wp2_with fail;go_round
           case rel=>
            refine⟨3+1,o_,by go_num, ?_⟩;have:=b.out;rw[f.out,show max a (M.b7 i 3+1)=a by omega]
           case measure=>simp[intOf]
       . have j:=ani_ (.int .i64 (M.b7 i 0)) (.int .i64 (M.b7 i 1)) (.int .i64 (M.b7 i 2)) (.int .i64 (M.b7 i 3)) (.int .i64 (M.b7 i 4)) (.int .i64 (M.b7 i 5)) (.int .i64 (M.b7 i 6)) (.int .i64 (M.b7 i 7));by_cases d:M.b7 i 4=a
         . have g:((M.b7 i 4:Int)==(a:Int))=true:=s_;have b:=α d;clear d;go_wp2_with fail;go_round
           case rel=>
            refine⟨4+1,o_,by go_num, ?_⟩;have:=b.out;rw[f.out,show max a (M.b7 i 4+1)=a+1 by omega];go_num
           case measure=>simp[intOf]
         . have g:((M.b7 i 4:Int)==(a:Int))=false:=s_;have b:Hid (M.b7 i 4<a):=by unfold Hid;omega
           clear d;go_wp2_with fail;go_round
           case rel=>
            refine⟨4+1,o_,by go_num, ?_⟩;have:=b.out;rw[f.out,show max a (M.b7 i 4+1)=a by omega]
           case measure=>simp[intOf]
       . have j:=anj_ (.int .i64 (M.b7 i 0)) (.int .i64 (M.b7 i 1)) (.int .i64 (M.b7 i 2)) (.int .i64 (M.b7 i 3)) (.int .i64 (M.b7 i 4)) (.int .i64 (M.b7 i 5)) (.int .i64 (M.b7 i 6)) (.int .i64 (M.b7 i 7));by_cases d:M.b7 i 5=a
         . have g:((M.b7 i 5:Int)==(a:Int))=true:=s_;have b:=α d;clear d;go_wp2_with fail;go_round
           case rel=>
            refine⟨5+1,o_,by go_num, ?_⟩;have:=b.out;rw[f.out,show max a (M.b7 i 5+1)=a+1 by omega];go_num
           case measure=>simp[intOf]
         . have g:((M.b7 i 5:Int)==(a:Int))=false:=s_;have b:Hid (M.b7 i 5<a):=by unfold Hid;omega
           clear d;go_wp2_with fail;go_round
           case rel=>
            refine⟨5+1,o_,by go_num, ?_⟩;have:=b.out;rw[f.out,show max a (M.b7 i 5+1)=a by omega]
           case measure=>simp[intOf]
       . have j:=ank_ (.int .i64 (M.b7 i 0)) (.int .i64 (M.b7 i 1)) (.int .i64 (M.b7 i 2)) (.int .i64 (M.b7 i 3)) (.int .i64 (M.b7 i 4)) (.int .i64 (M.b7 i 5)) (.int .i64 (M.b7 i 6)) (.int .i64 (M.b7 i 7));by_cases d:M.b7 i 6=a
         . have g:((M.b7 i 6:Int)==(a:Int))=true:=s_;have b:=α d;clear d;go_wp2_with fail;go_round
           case rel=>
            refine⟨6+1,o_,by go_num, ?_⟩;have:=b.out;rw[f.out,show max a (M.b7 i 6+1)=a+1 by omega];go_num
           case measure=>simp[intOf]
         . have g:((M.b7 i 6:Int)==(a:Int))=false:=s_;have b:Hid (M.b7 i 6<a):=by unfold Hid;omega
           clear d;go_wp2_with fail;go_round
           case rel=>
            refine⟨6+1,o_,by go_num, ?_⟩;have:=b.out;rw[f.out,show max a (M.b7 i 6+1)=a by omega]
           case measure=>simp[intOf]
       . have j:=anl_ (.int .i64 (M.b7 i 0)) (.int .i64 (M.b7 i 1)) (.int .i64 (M.b7 i 2)) (.int .i64 (M.b7 i 3)) (.int .i64 (M.b7 i 4)) (.int .i64 (M.b7 i 5)) (.int .i64 (M.b7 i 6)) (.int .i64 (M.b7 i 7));by_cases d:M.b7 i 7=a
         . have g:((M.b7 i 7:Int)==(a:Int))=true:=s_;have b:=α d;clear d;go_wp2_with fail;go_round
           case rel=>
            refine⟨7+1,o_,by go_num, ?_⟩;have:=b.out;rw[f.out,show max a (M.b7 i 7+1)=a+1 by omega];go_num
           case measure=>simp[intOf]
         . have g:((M.b7 i 7:Int)==(a:Int))=false:=s_;have b:Hid (M.b7 i 7<a):=by unfold Hid;omega
           clear d;go_wp2_with fail;go_round
           case rel=>
            refine⟨7+1,o_,by go_num, ?_⟩;have:=b.out;rw[f.out,show max a (M.b7 i 7+1)=a by omega]
           case measure=>simp[intOf]
     . have p:c=8:=o_;subst p;rw[show 8*i+8=8*(i+1)by omega]at m o ⊢;obtain⟨a,k⟩:=δ (ab_ M.b7 (8*(i+1)));rw[k.out]at m o ⊢;go_wp2_with fail;go_round
       case rel=>exact⟨i+1,o_,by go_num,by rw[k.out]⟩
       case measure=>exact c_
  . have p:i=M.n:=o_;subst p;rw[hN.all];have g:((M.n:Int)==(M.n:Int))=true:=i_;clear l r s hcel;go_wp2_with fail;go_ret;exact⟨rfl,rfl⟩
theorem d7_.eZ {L:List Nat->Bool}{budget:Nat}{e:Ending}(h:d7_ L budget b w e w')(hb:b<=b'):d7_ L budget b' w e w':=by
 obtain⟨c,a⟩:=h;refine⟨c, ?_⟩;rcases a with a|⟨d,g,f⟩
 . exact .inl a
 . exact .inr ⟨d,o_,f⟩
theorem to_ (gw ga ca gn cn:Nat)(M:γ)(L:List Nat->Bool)(bu:Nat)(w:World)(hM:gj_ w gw ga ca gn cn M)(hN:d4_ M)(hn:M.n<=100000000)(hL:∀x,Γ x->M.b6 x=L x)(hb0:1<=bu)(hb1:bu<=40):
 Calls prog 100 #[.pointer (some ⟨gw,0,none⟩),.int .i64 bu] w (d7_ L bu M.n w):=by
 obtain⟨W,y,g,P,r⟩:=ν w #[.slice none 0 0,.slice none 0 0] 41;have t:=hM.below g;have O:=hM.p1;have I:=Χ hM.p1;have q:=aaj_ gn cn M W t.cT hN hn;have m:=ana_ gw ga ca gn cn M bu W t hb0 hb1 hN.pos hn hN.nx;have p:=α hN;have o:=α hL;clear hN hL;go_enter func100,ntmps100;go_wp2_with fail;rw[<-y];clear y;refine q.mono ?_;rintro e K ⟨rfl,C⟩;obtain rfl:W=K:=C.symm;clear q C;go_wp2_with fail;refine m.mono ?_;clear m O I;rintro e N ⟨d,H⟩;have h:=(d.block _ o_).trans r;have l:=η g d;have T:=d.size;clear r d g;obtain⟨Y,Z,V,X⟩:=β h;have U:w.heap.size<N.heap.size:=o_;rcases H with ⟨f,c,a,B,J,rfl,F,s,E⟩|⟨rfl,c,Q,A,z⟩
 . have D:Hid _:=B;clear B;go_wp2_with fail;obtain⟨j,k⟩:=mo_ (u:= .slice (some ⟨a.ba,a.oa,none⟩) c.length a.ca) (v:= .slice (some ⟨a.bn,a.on,none⟩) c.length a.cn) h (.cells #[.slice (some ⟨a.ba,a.oa,none⟩) c.length a.ca,.slice (some ⟨a.bn,a.on,none⟩) c.length a.cn] 41);refine bodyPost_ret (v:= .tuple #[.agg #[.slice (some ⟨a.ba,a.oa,none⟩) c.length a.ca,.slice (some ⟨a.bn,a.on,none⟩) c.length a.cn],.int .i64 0]) (by simp[results,results100,go_sem,j,k]) rfl ?_;have i:=(av_ l (b:=w.heap.size) o_ (.slice (some ⟨a.ba,a.oa,none⟩) c.length a.ca) (.slice (some ⟨a.bn,a.on,none⟩) c.length a.cn)).alloc s_ (.cells #[.slice (some ⟨a.ba,a.oa,none⟩) c.length a.ca,.slice (some ⟨a.bn,a.on,none⟩) c.length a.cn] 41);have G:=(F.res s (b:=w.heap.size) o_ (.slice (some ⟨a.ba,a.oa,none⟩) c.length a.ca) (.slice (some ⟨a.bn,a.on,none⟩) c.length a.cn)).below (μ.alloc ι (.cells #[.slice (some ⟨a.ba,a.oa,none⟩) c.length a.ca,.slice (some ⟨a.bn,a.on,none⟩) c.length a.cn] 41));exact⟨i,.inl ⟨_,a,ak4_ p.out D.out o.out,J,rfl,G,s.mono o_,((E.set _ _ _).set _ _ _).below ξ⟩⟩
 . go_wp2_with fail;obtain⟨j,k⟩:=mo_ (u:= .slice none 0 0) (v:= .slice none 0 0) h (.cells #[.slice none 0 0,.slice none 0 0] 41);refine bodyPost_ret (v:= .tuple #[.agg #[.slice none 0 0,.slice none 0 0],.int .i64 5]) (by simp[results,results100,go_sem,j,k]) rfl ?_;have i:=(av_ l (b:=w.heap.size) o_ (.slice none 0 0) (.slice none 0 0)).alloc s_ (.cells #[.slice none 0 0,.slice none 0 0] 41);have S:=anc_ c A z;exact⟨i,.inr ⟨rfl,o_,fun R hRl=>by have:=ak6_ hRl p.out o.out c A z;omega⟩⟩
theorem tp_ (gw ga ca gn cn:Nat)(M:γ)(budget:Int)(w:World)(hM:gj_ w gw ga ca gn cn M)(hN:d4_ M)(hn:M.n<=100000000)(hb:budget<1\/40<budget):
 Calls prog 100 #[.pointer (some ⟨gw,0,none⟩),.int .i64 budget] w
  fun e w'=>e= .returned (.tuple #[.agg #[.slice none 0 0,.slice none 0 0],.int .i64 8])/\Bl w w':=by
 obtain⟨W,h,a,q,f⟩:=ν w #[.slice none 0 0,.slice none 0 0] 41;have l:=hM.below a;have p:=hM.p1;have m:=Χ hM.p1;have d:=aaj_ gn cn M W l.cT hN hn;clear hN;go_enter func100,ntmps100;go_wp2_with fail;rw[<-h];clear h;refine d.mono ?_;rintro e o ⟨rfl,i⟩;obtain rfl:W=o:=i.symm;clear d i p m;obtain⟨x,y,s,t⟩:=β f;obtain⟨_,k,j⟩:=Φ (u:= .slice none 0 0) (v:= .slice none 0 0) f;have g:=av_ a (b:=w.heap.size) o_ (.slice none 0 0) (.slice none 0 0);have c:Hid _:=g;clear g;rcases hb with hb|hb
 . go_wp2_with fail;refine bodyPost_ret (v:= .tuple #[.agg #[.slice none 0 0,.slice none 0 0],.int .i64 8]) (by simp[results,results100,go_sem,j,k]) rfl ?_;exact⟨rfl,c.out⟩
 . have r:¬budget<1:=o_;go_wp2_with fail;refine bodyPost_ret (v:= .tuple #[.agg #[.slice none 0 0,.slice none 0 0],.int .i64 8]) (by simp[results,results100,go_sem,j,k]) rfl ?_;exact⟨rfl,c.out⟩
theorem n5_ {t':Nat}{f':Nat->Value}(h:w.rowIs b t n f)(h':w.rowIs b' t' n' f')(ht:t≠t'):b≠b':=by
 obtain⟨c,d,_,_⟩:=h;obtain⟨g,a,_,_⟩:=h';intro e;subst e;rw[d]at a;simp only[Δ,Obj.cells.injEq]at a;exact ht a.2.1
structure c4_ (w:World)(B g n k:Nat)(rb:Nat->Nat)(D:Nat->Nat->Bool):Prop where
 top:w.rowIs g 38 n (fun i=>if i<k then .slice (some ⟨rb i,0,none⟩) n n else .slice none 0 0)
 row:∀i,i<k->w.rowIs (rb i) 4 n (fun j=> .bool (D i j))
 inj:∀i j,i<k->j<k->i≠j->rb i≠rb j
 lg:B<=g
 lr:∀i,i<k->B<=rb i
theorem c4_.below (h:c4_ w B g n k rb D)(hb:Bl w w'):c4_ w' B g n k rb D:=
 ⟨h.top.of_block (hb.block _ h.top.lt),fun i hi=>(h.row i hi).of_block (hb.block _ (h.row i hi).lt),h.inj,h.lg,h.lr⟩
theorem c4_.congr (h:c4_ w B g n k rb D)(e:∀i j,i<k->j<n->D i j=D' i j):c4_ w B g n k rb D':=
 ⟨h.top,fun i hi=>(h.row i hi).congr (fun j hj=>by rw[e i j hi hj]),h.inj,h.lg,h.lr⟩
def upd (D:Nat->Nat->Bool)(i j:Nat)(v:Bool):Nat->Nat->Bool:=fun x y=>if x=i/\y=j then v else D x y
theorem c4_.set (h:c4_ w B g n k rb D)(hi:i<k)(v:Bool):c4_ (w.setCell ⟨rb i,j,none⟩ (.bool v)) B g n k rb (upd D i j v):=by
 refine⟨h.top.setOther (n5_ h.top (h.row i hi) d_) _,fun x hx=> ?_,h.inj,h.lg,h.lr⟩;by_cases e:x=i
 . subst e;refine((h.row x hi).set j _).congr (fun y _=> ?_);by_cases e:y=j<;>simp[upd,e]
 . refine((h.row x hx).setOther (h.inj x i hx hi e) _).congr (fun y _=> ?_);simp[upd,e]
theorem c4_.next {H:Nat}{f:Nat->Bool}(h:c4_ w B g n k rb D)(hr:w.rowIs H 4 n (fun j=> .bool (f j)))(hne:∀i,i<k->rb i≠H)(hH:B<=H):
 c4_ (w.setCell ⟨g,k,none⟩ (.slice (some ⟨H,0,none⟩) n n)) B g n (k+1) (fun i=>if i=k then H else rb i) (fun i j=>if i=k then f j else D i j):=by
 refine⟨(h.top.set k _).congr (fun x _=> ?_),fun x hx=> ?_,fun x y hx hy hxy=> ?_,h.lg,fun x hx=> ?_⟩
 . by_cases e:x=k
   . subst e;simp
   . simp only[if_neg e];by_cases b:x<k
     . rw[if_pos b,if_pos o_]
     . rw[if_neg b,if_neg o_]
 . by_cases e:x=k
   . subst e;simp only[if_true];exact hr.setOther (fun e=>n5_ h.top hr d_ e.symm) _
   . simp only[if_neg e];exact(h.row x o_).setOther (fun e'=>n5_ h.top (h.row x o_) d_ e'.symm) _
 . by_cases e:x=k
   . subst e;simp only[if_true,if_neg (show y≠x from fun e=>hxy e.symm)];exact fun e'=>hne y o_ e'.symm
   . by_cases a:y=k
     . subst a;simp only[if_neg e,if_true];exact hne x o_
     . simp only[if_neg e,if_neg a];exact h.inj x y o_ o_ hxy
 . by_cases e:x=k
   . subst e;simp only[if_true];exact hH
   . simp only[if_neg e];exact h.lr x o_
def i5_ (n:Nat)(D:Nat->Nat->Bool):Nat:=((List.range (n*n)).filter fun q=> !D (q/n) (q%n)).length
theorem anm_ (hle:∀i j,i<n->j<n->D i j=true->D' i j=true)(hi:i<n)(hj:j<n)(h0:D i j=false)(h1:D' i j=true):i5_ n D'<i5_ n D:=by
 have o:∀(l:List Nat),(∀q∈l,q<n*n)->((l.filter fun q=> !D' (q/n) (q%n)).length<=(l.filter fun q=> !D (q/n) (q%n)).length)/\(i*n+j∈l->(l.filter fun q=> !D' (q/n) (q%n)).length<(l.filter fun q=> !D (q/n) (q%n)).length):=by
  intro l;induction l with
  |nil=>intro _;simp
  |cons q l ih=>
   intro d;obtain⟨a,b⟩:=ih (fun x hx=>d x (by simp[hx]));have m:=d q i_;have c:0<n:=o_;have p:q/n<n:=Nat.div_lt_of_lt_mul m;have r:q%n<n:=mod_lt _ c;by_cases e:q=i*n+j
   . have f:q/n=i:=by rw[e,Nat.mul_comm,mul_add_div c,div_eq_of_lt hj];omega
     have g:q%n=j:=by rw[e,Nat.mul_comm,mul_add_mod,mod_eq_of_lt hj]
     simp only[filter_cons,f,g,h0,h1];simp;constructor
     . omega
     . omega
   . have k:=hle _ _ p r;cases hd:D (q/n) (q%n)with
     |true=>
      simp only[filter_cons,hd,k hd];simp;exact⟨a,fun h=>by
       rcases h with h|h
       . exact absurd h.symm e
       . exact b h⟩
     |false=>
      cases hd':D' (q/n) (q%n)with
      |true=>
       simp only[filter_cons,hd,hd'];simp;exact⟨o_,fun _=>o_⟩
      |false=>
       simp only[filter_cons,hd,hd'];simp;exact⟨a,fun h=>by
        rcases h with h|h
        . exact absurd h.symm e
        . exact b h⟩
 refine(o (List.range (n*n)) i_).2 ?_;simp only[mem_range];have:i*n+j<(i+1)*n:=by rw[Nat.add_mul];omega
 exact Nat.lt_of_lt_of_le this (mul_le_mul_right n o_)
end Go.Proofs.YtpngikmcjkjdaaaGreatDoor
