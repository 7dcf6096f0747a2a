import Derived.Test.YtpngikmcjkjdaaaGreatDoorA45
set_option linter.unusedVariables false
set_option linter.unusedSimpArgs false
set_option maxRecDepth 20000
set_option maxHeartbeats 80000000
namespace Go.Proofs.YtpngikmcjkjdaaaGreatDoor
open Go.RowKit Tryz List Nat
variable {e:Ending} {xs:List Value} {N bw:Nat} {lab:Nat->Nat} {vbs vts vtx:Value} {Wo w w':World}
def WbS (Wo w:World)(bw N:Nat):Prop:=∃vts vbs vtx hs ps xs lab,an_ Wo w bw vts vbs vtx hs ps xs lab/\hs.length<=N/\ps.length<=N/\xs.length<=N
def mj_ (Wo:World)(bw N:Nat)(e:Ending)(w':World):Prop:=e= .returned (.bool true)/\WbS Wo w' bw (N+1)
theorem js_ {hs:List Hd}{ps:List Bk}(h:an_ Wo w bw vts vbs vtx hs ps xs lab)(h1:hs.length<=N)(h2:ps.length<=N)(h3:xs.length<=N)(hp:hl_ (g9_ Wo w vbs vtx lab) bw hs.length e w'):mj_ Wo bw N e w':=by
 obtain⟨rfl,c,a,b,d⟩:=hp;exact⟨rfl,c,vbs,vtx,a,ps,xs,lab,h.tables b,o_,o_,o_⟩
theorem aab_ {ps ps':List Bk}(h:du_ ps'=du_ ps):ps'.length=ps.length:=by
 have:=congrArg List.length h;simpa [du_] using this
theorem alw_:(prog.info? 45).map (fun i=>(i.zero,i.size,i.bytes))=some (some (.pointer none),1,8):=k_
theorem alx_ (Wo w:World)(bw N:Nat)(vts vbs vtx:Value)(hs:List Hd)(ps:List Bk)(xs:List Value)(lab:Nat->Nat)(h:an_ Wo w bw vts vbs vtx hs ps xs lab)(h1:hs.length<=N)(h2:ps.length<=N)(h3:xs.length<=N)(hN:N<=4398046511104)(a b c d:Int)(s:ByteArray)(lo:Option Addr)(ll lc:Nat):
 Calls prog 12 #[.pointer (some ⟨bw,0,none⟩),.agg #[.int .i64 10,.int .i64 a,.int .i64 b,.int .i64 c,.int .i64 d,.string s,.slice lo ll lc]] w (mj_ Wo bw N):=by
 obtain⟨i0,Y,aa,ac,ad⟩:=info_parts alw_;obtain⟨W,H,y,ah,D⟩:=ν w #[.int .i64 10,.int .i64 a,.int .i64 b,.int .i64 c,.int .i64 d,.string s,.slice lo ll lc] 33;obtain⟨x0,x1,x2,x3,x4,x5,x6⟩:=bo_ D;have R:=am7_ W (fun _=>ByteArray.empty);have S:∀l,_:=fun l=>ak4_ l (fun _=>ByteArray.empty)
 have ai:=κ h.wd.blk;have z:∀l f bx br,Bl W l->W.heap.size<=bx->Θ l bx (fun _=>ByteArray.empty) 0 lf_->Bl l f->l.heap.size<=br->ad_ f br (.slice none 0 0) (fun _=>ByteArray.empty) 0 lf_->
  ((f.alloc (.cells #[.pointer (some ⟨bx,0,none⟩),.pointer (some ⟨br,0,none⟩)] 51)).alloc (.cells #[.pointer (some ⟨f.heap.size,0,none⟩)] 45)).ownsRow (bw+1) 45 1 vbs ps.length (du_ ps)/\bw+1<=f.heap.size/\
  ((f.alloc (.cells #[.pointer (some ⟨bx,0,none⟩),.pointer (some ⟨br,0,none⟩)] 51)).alloc (.cells #[.pointer (some ⟨f.heap.size,0,none⟩)] 45)).cell? ⟨bw,1,none⟩=some vbs/\(f.alloc (.cells #[.pointer (some ⟨bx,0,none⟩),.pointer (some ⟨br,0,none⟩)] 51)).cell? ⟨bw,1,none⟩=some vbs/\
  ∀g o m,m.ownsRow (bw+1) 45 1 (.slice (some ⟨g,0,none⟩) (ps.length+1) o) (ps.length+1) (du_ ps++ [.pointer (some ⟨f.heap.size,0,none⟩)])->((f.alloc (.cells #[.pointer (some ⟨bx,0,none⟩),.pointer (some ⟨br,0,none⟩)] 51)).alloc (.cells #[.pointer (some ⟨f.heap.size,0,none⟩)] 45)).grownBy m vbs.ownBlock->(vbs.ownBlock=some g\/g=((f.alloc (.cells #[.pointer (some ⟨bx,0,none⟩),.pointer (some ⟨br,0,none⟩)] 51)).alloc (.cells #[.pointer (some ⟨f.heap.size,0,none⟩)] 45)).heap.size)->
   m.heap[bw]? =some (.cells #[vts,vbs,vtx] 31 (0,0))/\(m.setCell ⟨bw,1,none⟩ (.slice (some ⟨g,0,none⟩) (ps.length+1) o)).cell? ⟨f.heap.size,0,none⟩=some (.pointer (some ⟨bx,0,none⟩))/\Hid (mj_ Wo bw N (.returned (.bool true)) (m.setCell ⟨bw,1,none⟩ (.slice (some ⟨g,0,none⟩) (ps.length+1) o))):=by
  intro l f bx br q K v p J x;have s0:=y.size;have s1:=q.size;have s2:=p.size;have E:Bl w f:=(y.trans (q.mono s0)).trans (p.mono o_);have A:Bl w (f.alloc (.cells #[.pointer (some ⟨bx,0,none⟩),.pointer (some ⟨br,0,none⟩)] 51)):=E.alloc o_ _;have G:Bl w ((f.alloc (.cells #[.pointer (some ⟨bx,0,none⟩),.pointer (some ⟨br,0,none⟩)] 51)).alloc (.cells #[.pointer (some ⟨f.heap.size,0,none⟩)] 45)):=A.alloc s_ _;refine⟨(h.below G).ownB,o_,(eu_ (h.below G).wd.blk).2.1,(eu_ (h.below A).wd.blk).2.1,fun g o m ho r hf=> ?_⟩;have P:(f.alloc (.cells #[.pointer (some ⟨bx,0,none⟩),.pointer (some ⟨br,0,none⟩)] 51)).heap[f.heap.size]? =some (.cells #[.pointer (some ⟨bx,0,none⟩),.pointer (some ⟨br,0,none⟩)] 51 (0,0)):=ο rfl;have I:Bl f (f.alloc (.cells #[.pointer (some ⟨bx,0,none⟩),.pointer (some ⟨br,0,none⟩)] 51)):=μ.alloc ι _;have X:ct_ (f.alloc (.cells #[.pointer (some ⟨bx,0,none⟩),.pointer (some ⟨br,0,none⟩)] 51)) {bp:=f.heap.size,bx:=bx,br:=br,t:=fun _=>ByteArray.empty,n:=0,ry:= .slice none 0 0,c:=fun _=>shut,c':=fun _=>shut,V:=fun _=>⟨0,0,0,0,0,0,fun _=>0,fun _=>0,fun _=>0⟩,V':=fun _=>⟨0,0,0,0,0,0,fun _=>0,fun _=>0,fun _=>0⟩,M:=fun _=>⟨0,fun _=>false,fun _ _=>0⟩}:=
   ⟨P,by show Θ _ _ _ _ (Ι fun _=>shut);rw[aaj_];exact(v.below p).below I,by show ad_ _ _ _ _ _ (Ι fun _=>shut);rw[aaj_];exact x.below I,fun i j _ hj=>absurd hj (not_lt_zero _),zero_le _,fun i hi=>absurd hi (not_lt_zero _),fun i _=>kh_.shut _ _ _ _,fun k ⟨_,_,u,_⟩=>by cases u⟩
  obtain⟨k1,ae,k2⟩:=h.newBook A X (fun k u=>by
   rcases u with e|e|e|e|e
   . have:k=f.heap.size:=e;omega
   . have:k=bx:=e;omega
   . have:k=br:=e;omega
   . simp[Value.ownBlock]at e
   . obtain⟨_,_,u,_⟩:=e;cases u) ho r hf
  refine⟨k1, ?_,rfl,_,_,_,_,_,_,ae,k2,o_,s_,o_⟩;have T:m.heap[f.heap.size]? =some (.cells #[.pointer (some ⟨bx,0,none⟩),.pointer (some ⟨br,0,none⟩)] 51 (0,0)):=by
   rw[r.block _ s_ (fun e=>by have:=((h.below E).ownB.lt _ e.symm).2;omega),Below.heap_alloc _ _ _ i_];exact P
  have U:(m.setCell ⟨bw,1,none⟩ (.slice (some ⟨g,0,none⟩) (ps.length+1) o)).heap[f.heap.size]? =some (.cells #[.pointer (some ⟨bx,0,none⟩),.pointer (some ⟨br,0,none⟩)] 51 (0,0)):=a3_ T s_;exact(β U).1
 obtain⟨ab,cb,Q,_⟩:=Β h.ownB;rw[Q]at z;clear h y D Q;go_enter func12,ntmps12;go_upto_region 1 with fail;rw[<-H];clear H;go_wp2_with (first
  |(go_at_call 19;refine R.mono ?_;rintro e l ⟨q,bx,rfl,K,v⟩;have B:=fun f br=>z l f bx br q K v;clear z q v)
  |(go_at_call 20;refine(S l).mono ?_;rintro e f ⟨p,br,rfl,J,x⟩;obtain⟨Z,aj,af,ag,C⟩:=B f br p J x;clear B p x)
  |(at_builtin;refine jl_ _ rfl _ _ 28 rfl (bw+1) 45 i0 (.pointer none) 1 8 underlying28 Y aa ac ad rfl d_ _ ps.length (du_ ps) rfl Z ⟨f.heap.size+1,0,none⟩ 1 1 [.pointer (some ⟨f.heap.size,0,none⟩)] rfl rfl (by have:=cell_one_new (f.alloc (.cells #[.pointer (some ⟨bx,0,none⟩),.pointer (some ⟨br,0,none⟩)] 51)) (.pointer (some ⟨f.heap.size,0,none⟩)) 45;simpa using this) (gt_ rfl) d_ u_ o_ s_ ?_;intro g o m O r L;obtain⟨f0,z0,F⟩:=C g o m O r L;obtain⟨f1,f2,f3,f4⟩:=eu_ f0;obtain⟨f5,f6⟩:=s9_ f0;clear C O r L f0))
 go_ret;exact F.out
theorem tb_ {hs:List Hd}{ps:List Bk}(h:an_ Wo w bw vts vbs vtx hs ps xs lab){n:Nat}(hp:c3_ Wo bw vts vbs hs ps n lab w e w'):
 w'.cell? ⟨bw,1,none⟩=some vbs/\(∀k o,lab k=0->k≠bw->k<w.heap.size->w'.cell? ⟨k,o,none⟩=w.cell? ⟨k,o,none⟩)/\(∀g i,vbs.ownBlock=some g->i<ps.length->w'.cell? ⟨g,i,none⟩=(du_ ps)[i]?):=by
 obtain⟨_,d,r,q,s,p,c,b,_⟩:=hp;refine⟨(eu_ c.wd.blk).2.1,fun k o hl hne hk=>World.cell?_of_block (a:=⟨k,o,none⟩) (d.block k hk (by rintro(e|e);exact hne e;exact e hl)),fun g i hg hi=> ?_⟩;have m:=aab_ b;obtain⟨a,j,hv,hs⟩:=Β c.ownB;obtain⟨l,e,f⟩:=hs o_;rw[hv,e]at hg;simp only[Value.ownBlock,Δ]at hg;subst hg;rw[<-b];exact f i o_
theorem ki_ (Wo w:World)(bw N:Nat)(vts vbs vtx:Value)(hs:List Hd)(ps:List Bk)(xs:List Value)(lab:Nat->Nat)(h:an_ Wo w bw vts vbs vtx hs ps xs lab)(h1:hs.length<=N)(h2:ps.length<=N)(h3:xs.length<=N)(hN:N<=4398046511104)(k:Int)(hk:11<=k/\k<=18)(a b c d:Int)(s:ByteArray)(lo:Option Addr)(ll lc:Nat)(ha:I64 a)
 (HB:∀(W:World) (vb:Value) (p:Nat) (hp:p<ps.length),Bl w W->an_ Wo W bw vts vb vtx hs ps xs lab->Calls prog 22 #[.pointer (some ⟨bw,0,none⟩),.agg #[.int .i64 k,.int .i64 a,.int .i64 b,.int .i64 c,.int .i64 d,.string s,.slice lo ll lc],.pointer (some ⟨ps[p].bp,0,none⟩)] W (c3_ Wo bw vts vb hs ps xs.length lab W)):
 Calls prog 12 #[.pointer (some ⟨bw,0,none⟩),.agg #[.int .i64 k,.int .i64 a,.int .i64 b,.int .i64 c,.int .i64 d,.string s,.slice lo ll lc]] w (mj_ Wo bw N):=by
 obtain⟨W,C,t,M,B⟩:=ν w #[.int .i64 k,.int .i64 a,.int .i64 b,.int .i64 c,.int .i64 d,.string s,.slice lo ll lc] 33;obtain⟨R,S,T,U,V,X,Y⟩:=bo_ B;have n:=h.below t;obtain⟨y0,u,y2,y3⟩:=eu_ n.wd.blk;replace u:W.cell? ⟨bw,1,none⟩=some vbs:=u;obtain⟨al,m,rfl,D⟩:=Β n.ownB;have q1:(k==1)=false:=by rw[bq_];omega
 have q2:(k==2)=false:=by rw[bq_];omega
 have q8:(k==8)=false:=by rw[bq_];omega
 have q9:(k==9)=false:=by rw[bq_];omega
 have af:(k==10)=false:=by rw[bq_];omega
 have r0:3<=k:=o_;have r2:¬k<=7:=o_;go_enter func12,ntmps12;go_upto_region 1 with fail;rw[<-C];clear C;by_cases L:ps.length=0
 . rw[L]at u;have H:=α n;go_wp2_with fail;go_ret;exact⟨rfl,_,_,_,_,_,_,_,H.out,o_,o_,o_⟩
 . obtain⟨j,rfl,E⟩:=D o_;obtain⟨i,y⟩:=δ (f2_ a ps.length);have r:i<ps.length:=by rw[<-y.out];exact jo_ _ _ o_
   have v:=jp_ a ps.length W.drew o_ o_ ha.1 ha.2;rw[tn_,y.out]at v;have Z:=(E i o_).trans (mg_ ps i r);have q:an_ Wo W.drew bw vts (.slice (some ⟨j,0,none⟩) ps.length m) vtx hs ps xs lab:=n.below (μ.drew);have z:=HB W.drew _ i r t.drew q;have F:lab w.heap.size=0:=by
    by_cases e:lab w.heap.size=0
    . exact e
    . have:=h.lt _ e;omega
   have aa:=κ h.wd.blk;have l:∀f,Hid (c3_ Wo bw vts (.slice (some ⟨j,0,none⟩) ps.length m) hs ps xs.length lab W.drew (.returned (.bool true)) f)->∀o,f.cell? ⟨w.heap.size,o,none⟩=W.cell? ⟨w.heap.size,o,none⟩:=fun f g o=>(tb_ q g.out).2.1 w.heap.size o F o_ M
   have A:∀f,Hid (c3_ Wo bw vts (.slice (some ⟨j,0,none⟩) ps.length m) hs ps xs.length lab W.drew (.returned (.bool true)) f)->f.cell? ⟨bw,1,none⟩=some (.slice (some ⟨j,0,none⟩) ps.length m)/\f.cell? ⟨j,i,none⟩=some (.pointer (some ⟨ps[i].bp,0,none⟩)):=fun f g=>⟨(tb_ q g.out).1,((tb_ q g.out).2.2 j i rfl r).trans (mg_ ps i r)⟩
   have J:∀f,Hid (c3_ Wo bw vts (.slice (some ⟨j,0,none⟩) ps.length m) hs ps xs.length lab W.drew (.returned (.bool true)) f)->Hid (mj_ Wo bw N (.returned (.bool true)) f):=fun f g=>by
    obtain⟨_,_,ag,ae,ah,ad,P,O,hx⟩:=g.out;exact⟨rfl,_,_,_,_,_,_,_,P,o_,by have:=aab_ O;omega,o_⟩
   obtain⟨K,G⟩:∃x,Hid (ps[i]=x):=⟨ps[i],by unfold Hid;rfl⟩;rw[G.out]at Z z A;have ac:((ps.length:Int)==0)=false:=by rw[bq_];omega
   have ab:(i:Int)<(ps.length:Int):=o_;clear HB h n q E D F t B;go_wp2_with fail;go_region_held3 (fun f=>f.cell? ⟨bw,1,none⟩=some (.slice (some ⟨j,0,none⟩) ps.length m)/\f.cell? ⟨w.heap.size,0,none⟩=some (.int .i64 k)/\f.cell? ⟨w.heap.size,1,none⟩=some (.int .i64 a)/\f.cell? ⟨w.heap.size,2,none⟩=some (.int .i64 b)/\f.cell? ⟨w.heap.size,3,none⟩=some (.int .i64 c)/\f.cell? ⟨w.heap.size,4,none⟩=some (.int .i64 d)/\f.cell? ⟨w.heap.size,5,none⟩=some (.string s)/\f.cell? ⟨w.heap.size,6,none⟩=some (.slice lo ll lc)/\f.cell? ⟨j,i,none⟩=some (.pointer (some ⟨K.bp,0,none⟩))) (go_keep)
    ((first
     |(go_at_call 16;refine v.mono ?_;rintro e f ⟨rfl,Q⟩;obtain rfl:W.drew=f:=Q.symm)
     |(go_at_call 22;refine z.mono ?_;rintro e f hP;obtain rfl:e= .returned (.bool true):=hP.1;have g:=α hP;have k0:=(l f g 0).trans R;have k1:=(l f g 1).trans S;have k2:=(l f g 2).trans T;have k3:=(l f g 3).trans U;have k4:=(l f g 4).trans V;have k5:=(l f g 5).trans X;have k6:=(l f g 6).trans Y;obtain⟨k7,k8⟩:=A f g;have I:=J f g;clear hP g)))
   all_goals go_wp2_with fail
   all_goals go_ret
   all_goals exact I.out
theorem WbS.blw' (h:WbS Wo w bw N):Below bw Wo w:=by
 obtain⟨f,e,g,b,d,i,c,a,_⟩:=h;exact a.wd.blw
theorem WbS.below (h:WbS Wo w bw N)(hb:Bl w w'):WbS Wo w' bw N:=by
 obtain⟨f,e,g,a,d,i,c,b,l⟩:=h;exact⟨f,e,g,a,d,i,c,b.below hb,l⟩
theorem WbS.more (h:WbS Wo w bw N):WbS Wo w bw (N+1):=by
 obtain⟨f,e,g,a,d,i,c,b,j,k,l⟩:=h;exact⟨f,e,g,a,d,i,c,b,o_,o_,o_⟩
theorem WbS.looks (h:WbS Wo w Wo.heap.size N)(hN:N<=4398046511104)(h3:3<=Wo.heap.size)(ht:ei_ Wo):
 Calls prog 13 #[.pointer (some ⟨Wo.heap.size,0,none⟩)] w fun e w'=>e= .returned (.bool true)/\Bl w w':=by
 obtain⟨g,f,i,b,d,j,c,a,k,l,m⟩:=h;exact alo_ Wo w _ g f i b d j c a o_ o_ h3 (ht.below h3 a.wd.blw)
theorem aly_ (ao:Option Addr)(len cap:Nat)(kd fa fb fc fd:Nat->Int)(st:Nat->ByteArray)(lo:Nat->Option Addr)(ll lc:Nat->Nat)(z:Nat->Nat->Int)(w:World)(h:nv_ w ao len kd fa fb fc fd st lo ll lc z)
 (bk nk ck:Nat) (ks:Nat->Int) (hk:∀j,j<nk->w.cell? ⟨bk,j,none⟩=some (.int .i64 (ks j))) (hnk:nk<=100) (h3:3<=w.heap.size) (hpt:ei_ w)
 (HS:∀i,i<len->inB (kd i) ks nk=true->∀w':World,Bl w w'->WbS w w' w.heap.size i->
  Calls prog 12 #[.pointer (some ⟨w.heap.size,0,none⟩),.agg #[.int .i64 (kd i),.int .i64 (fa i),.int .i64 (fb i),.int .i64 (fc i),.int .i64 (fd i),.string (st i),.slice (lo i) (ll i) (lc i)]] w' (mj_ w w.heap.size i)):
 Calls prog 11 #[.slice ao len cap,.slice (some ⟨bk,0,none⟩) nk ck] w fun e w'=>e= .returned (.bool true)/\Bl w w':=by
 have V:=h.ln;have C:WbS w (w.alloc (.cells #[.slice none 0 0,.slice none 0 0,.slice none 0 0] 31)) w.heap.size 0:=
  ⟨.slice none 0 0,.slice none 0 0,.slice none 0 0,[],[],[],fun _=>0,⟨⟨μ.alloc ι _,ο rfl,a8_,fun d hd=>by simp at hd,fun d hd=>by simp at hd,List.Pairwise.nil,fun g e=>by simp[Value.ownBlock]at e,fun k o e=>by simp[g9_]at e⟩,a8_,a8_,fun i m=>by simp at m,fun i m=>by simp at m,fun g e=>by simp[Value.ownBlock]at e,fun g e=>by simp[Value.ownBlock]at e,fun k hl=>absurd rfl hl⟩,i_,i_,i_⟩
 go_enter func11,ntmps11;go_wp2_with fail;go_loopw [6,7,8,9] (fun i' _ _ _ wr=>∃i:Nat,i<=len/\i'= .int .i64 i/\WbS w wr w.heap.size i) (fun i' _ _ _ _=>len - (intOf i').toNat)
 case atStart=>exact⟨0,o_,rfl,C⟩
 case round=>
  obtain⟨i,m,rfl,a⟩:=hrel;clear C;by_cases D:i<len
  . obtain⟨b,o,rfl,J,P,Q,R,S,T,U⟩:=(h.below a.blw').cel i D;have F:Hid (∀j,j<nk->wr.cell? ⟨bk,j,none⟩=some (.int .i64 (ks j))):=fun j x=>by rw[(bc_ a.blw').1 _ _ (Ψ (hk j x))];exact hk j x
    have r:=α a;have H:Hid _:=HS i D;clear a h HS hk;obtain⟨k,p⟩:=δ (kd i);rw[p.out]at J;rename World=>wo
    go_upto_region 5 with fail;go_cut [7] (fun v wc=>v= .bool (inB k ks 0)/\wc=wo)
    case first=>
     by_cases E:k=1
     . subst E;go_wp2_with fail;go_meet
       exact⟨rfl,rfl⟩
     . have L:(k==1)=false:=by simp[E]
       go_wp2_with fail;go_meet
       exact⟨by simp[inB,L],rfl⟩
    case rest=>
     obtain⟨rfl,N⟩:=hcut;obtain rfl:wo=wc:=N.symm;go_wp2_with fail;go_loopw [7,8] (fun v j' wr=>∃j q:Nat,j<=nk/\v= .bool (inB k ks j)/\j'= .int .i64 j/\wr=wo.drewN q) (fun _ j' _=>nk - (intOf j').toNat)
     case atStart=>exact⟨0,0,o_,rfl,rfl,rfl⟩
     case round=>
      obtain⟨j,q,x,rfl,rfl,rfl⟩:=hrel;by_cases M:j<nk
      . have d0:=F.out j M;obtain⟨O,A⟩:=δ (ks j);rw[A.out]at d0;obtain⟨l,c⟩:=δ (inB k ks j);rw[c.out];have B:Hid (inB k ks (j+1)=(l||(k==O))):=by unfold Hid;simp only[inB];rw[c.out,A.out]
        cases l
        . go_wp2_with fail;go_quiet (fail);go_wp2_with fail;go_roundw
          case rel=>exact⟨j+1,_,o_,by rw[B.out];simp,by go_num,rfl⟩
          case measure=>exact c_
        . go_wp2_with fail;go_quiet (fail);go_wp2_with fail;go_roundw
          case rel=>exact⟨j+1,_,o_,by rw[B.out];simp,by go_num,rfl⟩
          case measure=>exact c_
      . have u:j=nk:=o_;subst u;obtain⟨l,c⟩:=δ (inB k ks j);rw[c.out];have f:=r.out.below (below_drewN μ q);have s:Bl w (wo.drewN q):=f.blw';cases l
        . have G:=α f;clear f s;go_wp2_with fail;go_roundw
          case rel=>exact⟨i+1,o_,by go_num,G.out.more⟩
          case measure=>exact c_
        . have n:=H.out (by rw[p.out];exact c.out) (wo.drewN q) s f;rw[p.out]at n;clear f s;go_wp2_with fail;refine Calls.mono n ?_;rintro e W ⟨rfl,t⟩;have y:=t.looks o_ h3 hpt;have I:=α t;clear n t;go_wp2_with fail;refine y.mono ?_;rintro e X ⟨rfl,K⟩;clear y;go_wp2_with fail;go_roundw
          case rel=>exact⟨i+1,o_,by go_num,I.out.below K⟩
          case measure=>exact c_
  . have u:i=len:=o_;subst u;have r:=α a;clear a h HS hk;go_wp2_with fail;go_ret;exact⟨rfl,r.out.blw'⟩
end Go.Proofs.YtpngikmcjkjdaaaGreatDoor
