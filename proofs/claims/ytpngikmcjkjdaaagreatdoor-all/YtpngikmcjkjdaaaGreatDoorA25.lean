import Derived.Test.YtpngikmcjkjdaaaGreatDoorA13
import Derived.Test.YtpngikmcjkjdaaaGreatDoorA22
import Derived.Test.YtpngikmcjkjdaaaGreatDoorA24
set_option linter.unusedVariables false
set_option linter.unusedSimpArgs false
set_option maxRecDepth 20000
set_option maxHeartbeats 80000000
namespace Go.Proofs.YtpngikmcjkjdaaaGreatDoor
open Go.RowKit Tryz List Nat
theorem ae8_ (aa an:Option Addr)(na ca nn cn:Nat)(ra:Nat->Option Addr)(rl rc0:Nat->Nat)(A:Nat->Bool)(X:Nat->Nat->Int)(w:World)(h:az_ w ⟨aa,an,na,ca,nn,cn,ra,rl,rc0⟩ A X)
 (hb1:na<=4398046511104) (hb2:nn<=4398046511104) (hb3:∀i,i<nn->rl i<=4398046511104):
 Calls prog 96 #[.agg #[.slice aa na ca,.slice an nn cn]] w
  fun e w'=>Bl w w'/\∃ga ca' gn cn' rb rc,e= .returned (.agg #[b2_ ga na ca',b2_ gn nn cn'])/\j7_ w.heap.size w' ga gn rb rc na nn rl A X:=by
 obtain⟨i4,au,aP,aQ,aR⟩:=info_parts hc_;obtain⟨i0,aq,av,aw,ax⟩:=info_parts ne_;obtain⟨i3,ar,aM,aN,aO⟩:=info_parts e9_;obtain⟨W,Z,BW,b0,b1,K⟩:=fe_ w #[.slice aa na ca,.slice an nn cn] 41 #[.slice none 0 0,.slice none 0 0] 41 #[.slice none 0 0,.slice none 0 0] 41;have aT:w.heap.size+1+1+1<=W.heap.size:=by rw[Z];simp
 have O:=h.below BW;go_enter func96,ntmps96;go_upto_region 2 with fail;rw[<-Z];clear Z;obtain⟨x0,x1,_,_⟩:=β b0;obtain⟨y0,y1,z0,z1⟩:=β K;go_cut [] (fun wc=>∃ga ca',fg_ W w.heap.size wc (b2_ ga na ca') (.slice none 0 0) 0 ga na (fun _=>0) rl (fun _=>0) A X)
 case first=>
  by_cases G:na=0
  . subst G;go_wp2_with (at_builtin;refine o9_ _ rfl _ _ 38 rfl 4 i4 underlying38 au aa ca rfl rfl ?_);go_meet
    exact⟨0,0,μ.setCell (p:=⟨w.heap.size+1+1,0,none⟩) ι _,cd_ K,fun h=>absurd h o_,a8_,fun j hj=>absurd hj o_,fun j k _ hk=>absurd hk o_,fun _=>rfl⟩
  . obtain⟨U,oa,ea,_⟩:=O.acc 0 (show 0<na by omega);have aH:aa=some ⟨U,oa,none⟩:=ea;subst aH;have ap:∀i,i<na->W.cell? ⟨U,oa+i,none⟩=some (.bool (A i)):=fun i hi=>by
     obtain⟨b,o,e,P⟩:=O.acc i hi;injection e with e;injection e with M N;subst M;subst N;exact P
    have aC:Hid _:=ap;clear ap O;go_wp2_with (at_builtin;refine pa_ _ rfl _ _ 38 rfl 4 i4 (.bool false) 1 underlying38 au aP aQ aR rfl U oa na ca (fun i=> .bool (A i)) rfl rfl aC.out (fun j=>rfl) o_ u_ o_ ?_;intro a d s q;have I:d.heap[w.heap.size+1+1]? =some (.cells #[.slice none 0 0,.slice none 0 0] 41 (0,0)):=(by rw[q.block _ o_ i_];exact K);obtain⟨f0,f1,f2,f3⟩:=β I;have aG:=α s;clear s);go_meet
    refine⟨W.heap.size,a,((pb_ q).mono (B':=w.heap.size+1+1) o_).setCell (p:=⟨w.heap.size+1+1,0,none⟩) ι _, ?_,fun h=>⟨o_,aG.out.setOther s_ _⟩,a8_,fun j hj=>absurd hj o_,fun j k _ hk=>absurd hk o_,fun _=>rfl⟩;rw[cd_ I];unfold b2_;rw[if_neg G]
 case rest=>
  obtain⟨ga,ca',ao⟩:=hcut;clear x0 x1 y0 y1 z0 z1 K O;go_wp2_with fail;go_loopw [4,5] (fun i' _ wr=>∃(i:Nat) (vn:Value) (rb rc:Nat->Nat),i<=nn/\i'= .int .i64 i/\fg_ W w.heap.size wr (b2_ ga na ca') vn i ga na rb rl rc A X)
   (fun i' _ _=>nn - (intOf i').toNat)
  case atStart=>exact⟨0,_,_,_,o_,rfl,ao⟩
  case round=>
   obtain⟨i,vn,rb,rc,hi,rfl,r⟩:=hrel;clear ao;have ac:=r.blw;have ad:=η BW ac;obtain⟨x0,x1,_,_⟩:=β ((ac.block _ o_).trans b0);obtain⟨y0,y1,z0,z1⟩:=β r.blk;obtain⟨n,m,rfl,ab⟩:=Β r.own;have aL:=κ r.blk;by_cases ag:i<nn
   . obtain⟨bn,on,en,P⟩:=(h.below ad).row i (show i<nn from ag);have aI:an=some ⟨bn,on,none⟩:=en;subst aI;have ae:wr.cell? ⟨bn,on+i,none⟩=some (.slice (ra i) (rl i) (rc0 i)):=P;have Q:∀c,c<rl i->∃b o,ra i=some ⟨b,o,none⟩/\wr.cell? ⟨b,o+c,none⟩=some (.int .i64 (X i c)):=fun c hcl=>(h.below ad).cel i c (show i<nn from ag) (show c<rl i from hcl)
     have aK:=hb3 i ag;have B:Hid _:=r;clear r ab h en P;by_cases J:rl i=0
     . obtain⟨aS,aF⟩:=δ (ra i);obtain⟨ai,S⟩:=δ (rc0 i);rw[J,aF.out,S.out]at ae;have ak:=α J;have R:Hid _:=B.out.below (μ.alloc ι (.cells #[.slice none 0 0] 24));have G:=R.out.own;have aU:w.heap.size+1+1+1<=(wr.alloc (.cells #[.slice none 0 0] 24)).heap.size:=s_;have HG:∀(g a:Nat) (f:World),f.ownsRow (w.heap.size+1+1+1) 24 1 (.slice (some ⟨g,0,none⟩) (i+1) a) (i+1) ((List.range i).map (bn_ rb rl rc)++ [.slice none 0 0])->(wr.alloc (.cells #[.slice none 0 0] 24)).grownBy f (Value.slice n i m).ownBlock->
        f.heap[w.heap.size+1+1]? =some (.cells #[b2_ ga na ca',.slice n i m] 41 (0,0))/\Hid (fg_ W w.heap.size (f.setCell ⟨w.heap.size+1+1,1,none⟩ (.slice (some ⟨g,0,none⟩) (i+1) a)) (b2_ ga na ca') (.slice (some ⟨g,0,none⟩) (i+1) a) (i+1) ga na (fun j=>if j=i then 0 else rb j) rl (fun j=>if j=i then 0 else rc j) A X):=by
        intro g a f ho H;refine R.out.app 0 0 (fun hl=>absurd hl (by have:=ak.out;omega)) (fun j hj hl e=> ?_) (by rw[ak.out];exact ho) H;have:=(R.out.row j hj hl).1;omega
       clear J Q;go_wp2_with (first|(at_builtin;refine o9_ _ rfl _ _ 24 rfl 3 i3 underlying24 ar aS ai rfl rfl ?_)|(at_builtin;refine Υ underlying39 aq av aw ax G ?_;intro g a f ah q aJ;obtain⟨f0,F⟩:=HG g a f ah q;obtain⟨f1,f2,f3,f4⟩:=β f0));go_roundw
       case rel=>exact⟨i+1,_,_,_,o_,by go_num,F.out⟩
       case measure=>exact c_
     . obtain⟨b,o,V,_⟩:=Q 0 o_;have af:∀c,c<rl i->wr.cell? ⟨b,o+c,none⟩=some (.int .i64 (X i c)):=fun c hcl=>by
        obtain⟨b',o',L,h'⟩:=Q c hcl;rw[V]at L;injection L with L;injection L with M N;subst M;subst N;exact h'
       rw[V]at ae;obtain⟨t,C⟩:=δ (rl i);obtain⟨ai,S⟩:=δ (rc0 i);obtain⟨xi,am⟩:=δ (X i);rw[C.out,S.out]at ae;rw[C.out,am.out]at af;rw[C.out]at aK J;have aD:Hid _:=af;clear Q af V;have aj:∀(a:Nat) (d:World),χ d wr.heap.size 3 t (fun c=> .int .i64 (xi c))->wr.grownBy d none->
        d.heap[w.heap.size+1+1]? =some (.cells #[b2_ ga na ca',.slice n i m] 41 (0,0))/\wr.heap.size<d.heap.size/\
        Hid (fg_ W w.heap.size (d.alloc (.cells #[.slice (some ⟨wr.heap.size,0,none⟩) t a] 24)) (b2_ ga na ca') (.slice n i m) i ga na rb rl rc A X/\
         χ (d.alloc (.cells #[.slice (some ⟨wr.heap.size,0,none⟩) t a] 24)) wr.heap.size 3 (rl i) (fun c=> .int .i64 (X i c))):=by
        intro a d s H;have hB:=pb_ H;refine⟨by rw[hB.block _ aL];exact B.out.blk,s.lt,(B.out.below hB).below ξ, ?_⟩;rw[C.out,am.out];exact s.alloc _
       have aE:∀(a:Nat) (d:World),Hid (fg_ W w.heap.size (d.alloc (.cells #[.slice (some ⟨wr.heap.size,0,none⟩) t a] 24)) (b2_ ga na ca') (.slice n i m) i ga na rb rl rc A X/\
        χ (d.alloc (.cells #[.slice (some ⟨wr.heap.size,0,none⟩) t a] 24)) wr.heap.size 3 (rl i) (fun c=> .int .i64 (X i c)))->∀(g D:Nat) (f:World),f.ownsRow (w.heap.size+1+1+1) 24 1 (.slice (some ⟨g,0,none⟩) (i+1) D) (i+1) ((List.range i).map (bn_ rb rl rc)++ [.slice (some ⟨wr.heap.size,0,none⟩) t a])->(d.alloc (.cells #[.slice (some ⟨wr.heap.size,0,none⟩) t a] 24)).grownBy f (Value.slice n i m).ownBlock->
        f.heap[w.heap.size+1+1]? =some (.cells #[b2_ ga na ca',.slice n i m] 41 (0,0))/\Hid (fg_ W w.heap.size (f.setCell ⟨w.heap.size+1+1,1,none⟩ (.slice (some ⟨g,0,none⟩) (i+1) D)) (b2_ ga na ca') (.slice (some ⟨g,0,none⟩) (i+1) D) (i+1) ga na (fun j=>if j=i then wr.heap.size else rb j) rl (fun j=>if j=i then a else rc j) A X):=by
        intro a d hh g D f ho H;refine hh.out.1.app wr.heap.size a (fun hl=>⟨o_,hh.out.2⟩) (fun j hj hl e=> ?_) (by rw[if_neg (by rw[C.out];exact J),C.out];exact ho) H;have:=(B.out.row j hj hl).2.lt;omega
       go_wp2_with (first|(at_builtin;refine pa_ _ rfl _ _ 24 rfl 3 i3 (.int .i64 0) 8 underlying24 ar aM aN aO rfl b o t ai (fun c=> .int .i64 (xi c)) rfl rfl aD.out (fun j=>rfl) o_ u_ o_ ?_;intro a d s q;obtain⟨e0,M,E⟩:=aj a d s q;obtain⟨N,e3,e4,e5⟩:=β e0;have G:=E.out.1.own;clear s q aj)|(at_builtin;refine Υ underlying39 aq av aw ax G ?_;intro g D f ah q aJ;obtain⟨f0,F⟩:=aE a d E g D f ah q;obtain⟨f1,f2,f3,f4⟩:=β f0));go_roundw
       case rel=>exact⟨i+1,_,_,_,o_,by go_num,F.out⟩
       case measure=>exact c_
   . have he:i=nn:=o_;subst he;have I:wr.heap[w.heap.size+1]? =some (.cells #[.slice none 0 0,.slice none 0 0] 41 (0,0)):=(ac.block _ o_).trans b1;obtain⟨q0,q1,p0,p1⟩:=β I;have B:Hid _:=r;have aB:Hid _:=ab;clear r ab h;obtain⟨ay,az,aA,T⟩:∃x y z,Hid (b2_ ga na ca'= .slice x y z):=by unfold b2_ Hid;split<;>exact⟨_,_,_,rfl⟩
     rw[T.out]at y0;go_wp2_with fail;obtain⟨r1,r2,r3⟩:=Φ (u:= .slice ay az aA) (v:= .slice n i m) I;refine bodyPost_ret (v:= .agg #[.slice ay az aA,.slice n i m]) (by simp[results,results96,go_sem,r1,r2]) rfl ?_;have l:=B.out;refine⟨(ad.setCell (p:=⟨w.heap.size+1,0,none⟩) i_ _).setCell (p:=⟨w.heap.size+1,1,none⟩) i_ _,ga,ca', ?_⟩;by_cases h0:i=0
     . subst h0;refine⟨0,0,rb,rc, ?_,fun hn=>⟨by have:=(l.acc hn).1;omega,(((l.acc hn).2.setOther (by have:=(l.acc hn).1;simp;omega) _).setOther (by have:=(l.acc hn).1;simp;omega) _)⟩,fun h=>absurd h o_,fun j hj=>absurd hj o_,fun j k _ hk=>absurd hk o_⟩;rw[T.out];rw[l.nil0 rfl];rfl
     . obtain⟨Y,rfl,_⟩:=aB.out o_;refine⟨Y,m,rb,rc, ?_,fun hn=>⟨by have:=(l.acc hn).1;omega,(((l.acc hn).2.setOther (by have:=(l.acc hn).1;simp;omega) _).setOther (by have:=(l.acc hn).1;simp;omega) _)⟩,fun _=>⟨by have:=(l.own.lt Y rfl).1;omega, ?_⟩,fun j hj hl=> ?_,l.dis⟩
       . rw[T.out];unfold b2_;rw[if_neg h0]
       . have aV:=(l.own.lt Y rfl).1;exact(((χ.ofOwn l.own (fun j hj=>nd_ _ _ j hj)).setOther s_ _).setOther s_ _)
       . have:=l.row j hj hl;exact⟨o_,((this.2.setOther s_ _).setOther s_ _)⟩
theorem pg_ (V:ρ)(M:γ)(w:World)(hM:M.Ok)(hV:π w V M):
 Calls prog 96 #[.agg #[.slice (some ⟨V.ba,V.oa,none⟩) M.n V.ca,.slice (some ⟨V.bn,V.on,none⟩) M.n V.cn]] w
  fun e w'=>∃U:ρ,e= .returned (.agg #[.slice (some ⟨U.ba,U.oa,none⟩) M.n U.ca,.slice (some ⟨U.bn,U.on,none⟩) M.n U.cn])/\π w' U M/\U.From w.heap.size M.n/\Bl w w':=by
 have k:=hM.lo;have l:=hM.hi;refine(ae8_ _ _ _ _ _ _ _ _ _ _ _ w (hV.raw hM) o_ o_ (fun i hi=>o_)).mono ?_;rintro e w' ⟨f,b,ca,d,cn,h,j,rfl,a⟩;have g:M.n≠0:=o_;refine⟨⟨b,0,ca,d,0,cn,h,fun _=>0,j⟩, ?_,⟨fun i hi=> ?_,fun i hi=> ?_,fun i c hi hc=> ?_⟩,⟨(a.acc o_).1,(a.nxt o_).1,fun i hi=>(a.row i hi o_).1⟩,f⟩
 . simp only[b2_,g,if_false]
 . simp only[Nat.zero_add];exact(a.acc o_).2.cell hi
 . simp only[Nat.zero_add];rw[(a.nxt o_).2.cell hi];simp[bn_]
 . simp only[Nat.zero_add];exact(a.row i hi o_).2.cell hc
theorem ae9_ (r:aj_)(A:Nat->Bool)(X:Nat->Nat->Int)(w:World)(b:Nat)(h:az_ w r A X)(hok:Ο r X=false):
 Calls prog 57 #[.pointer (some ⟨b,0,none⟩),.agg #[.slice r.aa r.na r.ca,.slice r.an r.nn r.cn]] w
  fun e w'=>e= .returned (.tuple #[.int .i64 0,.int .i64 6])/\Bl w w':=by
 have c:Bl w (w.alloc (.cells #[.slice r.aa r.na r.ca,.slice r.an r.nn r.cn] 41)):=μ.alloc ι _;have a:=li_ r A X _ (h.below c);rw[hok]at a;clear h hok;go_enter func57,ntmps57;go_wp2_with fail;refine a.mono ?_;rintro e g ⟨rfl,d⟩;have f:Bl w g:=c.trans (d.mono i_);clear a d;go_wp2_with fail;go_ret2;exact⟨rfl,f⟩
theorem afa_ (V:ρ)(M:γ)(w:World)(b n:Nat)(ry:Value)(t:Nat->ByteArray)(c:Nat->Cu)(hM:M.Ok)(hV:π w V M)(h:ad_ w b ry t n (Ι c))(hf:bw_ c=4):
 Calls prog 57 #[.pointer (some ⟨b,0,none⟩),.agg #[.slice (some ⟨V.ba,V.oa,none⟩) M.n V.ca,.slice (some ⟨V.bn,V.on,none⟩) M.n V.cn]] w
  fun e w'=>e= .returned (.tuple #[.int .i64 0,.int .i64 9])/\Bl w w':=by
 have g:Bl w (w.alloc (.cells #[.slice (some ⟨V.ba,V.oa,none⟩) M.n V.ca,.slice (some ⟨V.bn,V.on,none⟩) M.n V.cn] 41)):=μ.alloc ι _;have l:=kn_ V M _ hM (hV.below g);have f:Hid (∀i,i<4->(c i).op=true):=fun i q=>pe_ o_
 have p:=α h;clear h hV hM hf;go_enter func57,ntmps57;go_wp2_with fail;refine l.mono ?_;rintro e o ⟨rfl,m⟩;have j:Bl w o:=g.trans (m.mono i_);clear l m;go_wp2_with fail;go_loopw [7] (fun i' wr=>∃i:Nat,i<=4/\i'= .int .i64 (i:Int)/\wr=o) (fun i' _=>4 - (intOf i').toNat)
 case atStart=>exact⟨0,o_,rfl,rfl⟩
 case round=>
  obtain⟨i,q,rfl,rfl⟩:=hrel;have a:=p.out.below j;rcases (show i=0\/i=1\/i=2\/i=3\/i=4 by omega)with rfl|rfl|rfl|rfl|rfl
  . obtain⟨d,_⟩:=a.cu (k:=0) o_;rw[f.out 0 o_]at d;clear a;go_wp2_with fail;go_roundw
    case rel=>exact⟨1,o_,by go_num,trivial⟩
    case measure=>simp[intOf]
  . obtain⟨d,_⟩:=a.cu (k:=1) o_;rw[f.out 1 o_]at d;clear a;go_wp2_with fail;go_roundw
    case rel=>exact⟨2,o_,by go_num,trivial⟩
    case measure=>simp[intOf]
  . obtain⟨d,_⟩:=a.cu (k:=2) o_;rw[f.out 2 o_]at d;clear a;go_wp2_with fail;go_roundw
    case rel=>exact⟨3,o_,by go_num,trivial⟩
    case measure=>simp[intOf]
  . obtain⟨d,_⟩:=a.cu (k:=3) o_;rw[f.out 3 o_]at d;clear a;go_wp2_with fail;go_roundw
    case rel=>exact⟨4,o_,by go_num,trivial⟩
    case measure=>simp[intOf]
  . clear a;go_wp2_with fail;go_ret2;exact⟨rfl,j⟩
theorem afb_ (V:ρ)(M:γ)(w:World)(b n:Nat)(ry:Value)(t:Nat->ByteArray)(c:Nat->Cu)(hM:M.Ok)(hV:π w V M)(h:ad_ w b ry t n (Ι c))(hf:bw_ c<4):
 Calls prog 57 #[.pointer (some ⟨b,0,none⟩),.agg #[.slice (some ⟨V.ba,V.oa,none⟩) M.n V.ca,.slice (some ⟨V.bn,V.on,none⟩) M.n V.cn]] w
  fun e w'=>∃U:ρ,e= .returned (.tuple #[.int .i64 (bw_ c:Int),.int .i64 0])/\π w' U M/\U.From w.heap.size M.n/\ad_ w' b ry t n (Ι (bk_ c (bw_ c) (db_ U M.n)))/\ε (fun k=>k=b) w w':=by
 have I:Bl w (w.alloc (.cells #[.slice (some ⟨V.ba,V.oa,none⟩) M.n V.ca,.slice (some ⟨V.bn,V.on,none⟩) M.n V.cn] 41)):=μ.alloc ι _;have T:(w.alloc (.cells #[.slice (some ⟨V.ba,V.oa,none⟩) M.n V.ca,.slice (some ⟨V.bn,V.on,none⟩) M.n V.cn] 41)).heap[w.heap.size]? =some (.cells #[.slice (some ⟨V.ba,V.oa,none⟩) M.n V.ca,.slice (some ⟨V.bn,V.on,none⟩) M.n V.cn] 41 (0,0)):=ο i_;have S:=kn_ V M _ hM (hV.below I);have G:Hid (∀i,i<bw_ c->(c i).op=true):=fun i C=>pe_ C
 have F:Hid ((c (bw_ c)).op=false):=w0_ hf;have E:=α h;have X:b<w.heap.size:=World.rowIs.lt h.1;have H:=α hV;obtain⟨f,R⟩:=δ (bw_ c);rw[R.out]at hf G F ⊢;clear h hV R;go_enter func57,ntmps57;go_wp2_with fail;refine S.mono ?_;rintro e W ⟨rfl,P⟩;have D:Bl w W:=I.trans (P.mono i_);have x:=(P.block _ i_).trans T;have Y:=κ x;clear S P T I;go_wp2_with fail;go_loopw [7] (fun i' wr=>∃i:Nat,i<=f/\i'= .int .i64 (i:Int)/\wr=W) (fun i' _=>4 - (intOf i').toNat)
 case atStart=>exact⟨0,o_,rfl,rfl⟩
 case round=>
  obtain⟨i,C,rfl,rfl⟩:=hrel;have s:=E.out.below D;obtain⟨Z,x1,_,_⟩:=β x;rcases (show i=0\/i=1\/i=2\/i=3 by omega)with rfl|rfl|rfl|rfl
  . obtain⟨u,d0⟩:=s.cu (k:=0) o_;by_cases v:0<f
    . rw[G.out 0 v]at u;clear s d0 x;go_wp2_with fail;go_roundw
      case rel=>exact⟨1,o_,by go_num,trivial⟩
      case measure=>simp[intOf]
    . obtain rfl:f=0:=o_;rw[F.out]at u;have j:Bl w wr.drew:=D.drew;have z:=pg_ V M wr.drew hM (H.out.below j);clear d0 x v C s;go_wp2_with fail;go_region_with (go_at_call 96;refine z.mono ?_;rintro e g ⟨U,rfl,q,r,d⟩;have Q:wr.heap.size<=g.heap.size:=d.size;have a:=(E.out.below j).below d;have y:Bl w g:=j.trans (d.mono (by show _<=wr.heap.size;omega));have J:=World.rowIs.frozen a.1 1;have K:=World.rowIs.frozen a.1 (1+1);have L:=World.rowIs.frozen a.1 (1+2);have N:=World.rowIs.frozen a.1 (1+3);have O:=World.rowIs.frozen a.1 (1+4);obtain⟨d0,d1,d2,d3,d4⟩:=a.cu (k:=0) o_;have A:=α q;have B:=α a;have o:Hid (U.From w.heap.size M.n):=r.mono (by show _<=wr.heap.size;omega);clear q a r d)
      all_goals go_wp2_with fail
      all_goals go_ret2
      all_goals
       obtain⟨p,l⟩:=af_ (((((g.setCell ⟨b,1,none⟩ (.bool true)).setCell ⟨b,2,none⟩ (.slice (some ⟨U.ba,U.oa,none⟩) M.n U.ca)).setCell ⟨b,3,none⟩ (.slice (some ⟨U.bn,U.on,none⟩) M.n U.cn)).setCell ⟨b,4,none⟩ (.bool false)).setCell ⟨b,5,none⟩ (.string ⟨#[]⟩));have m:ad_ p b ry t n (Ι (bk_ c 0 (db_ U M.n)))/\ε (fun k=>k=b) g p:=by rw[l];exact B.out.put5 (k:=0) o_ (db_ U M.n)
       rw[<-l];clear l;exact⟨U,rfl,A.out.touch1 o.out m.2 o_,o.out,m.1,gr_ (gq_ y) m.2⟩
  . obtain⟨u,d0⟩:=s.cu (k:=1) o_;by_cases v:1<f
    . rw[G.out 1 v]at u;clear s d0 x;go_wp2_with fail;go_roundw
      case rel=>exact⟨2,o_,by go_num,trivial⟩
      case measure=>simp[intOf]
    . obtain rfl:f=1:=o_;rw[F.out]at u;have j:Bl w wr.drew:=D.drew;have z:=pg_ V M wr.drew hM (H.out.below j);clear d0 x v C s;go_wp2_with fail;go_region_with (go_at_call 96;refine z.mono ?_;rintro e g ⟨U,rfl,q,r,d⟩;have Q:wr.heap.size<=g.heap.size:=d.size;have a:=(E.out.below j).below d;have y:Bl w g:=j.trans (d.mono (by show _<=wr.heap.size;omega));have J:=World.rowIs.frozen a.1 6;have K:=World.rowIs.frozen a.1 (6+1);have L:=World.rowIs.frozen a.1 (6+2);have N:=World.rowIs.frozen a.1 (6+3);have O:=World.rowIs.frozen a.1 (6+4);obtain⟨d0,d1,d2,d3,d4⟩:=a.cu (k:=1) o_;have A:=α q;have B:=α a;have o:Hid (U.From w.heap.size M.n):=r.mono (by show _<=wr.heap.size;omega);clear q a r d)
      all_goals go_wp2_with fail
      all_goals go_ret2
      all_goals
       obtain⟨p,l⟩:=af_ (((((g.setCell ⟨b,6,none⟩ (.bool true)).setCell ⟨b,7,none⟩ (.slice (some ⟨U.ba,U.oa,none⟩) M.n U.ca)).setCell ⟨b,8,none⟩ (.slice (some ⟨U.bn,U.on,none⟩) M.n U.cn)).setCell ⟨b,9,none⟩ (.bool false)).setCell ⟨b,10,none⟩ (.string ⟨#[]⟩));have m:ad_ p b ry t n (Ι (bk_ c 1 (db_ U M.n)))/\ε (fun k=>k=b) g p:=by rw[l];exact B.out.put5 (k:=1) o_ (db_ U M.n)
       rw[<-l];clear l;exact⟨U,rfl,A.out.touch1 o.out m.2 o_,o.out,m.1,gr_ (gq_ y) m.2⟩
  . obtain⟨u,d0⟩:=s.cu (k:=2) o_;by_cases v:2<f
    . rw[G.out 2 v]at u;clear s d0 x;go_wp2_with fail;go_roundw
      case rel=>exact⟨3,o_,by go_num,trivial⟩
      case measure=>simp[intOf]
    . obtain rfl:f=2:=o_;rw[F.out]at u;have j:Bl w wr.drew:=D.drew;have z:=pg_ V M wr.drew hM (H.out.below j);clear d0 x v C s;go_wp2_with fail;go_region_with (go_at_call 96;refine z.mono ?_;rintro e g ⟨U,rfl,q,r,d⟩;have Q:wr.heap.size<=g.heap.size:=d.size;have a:=(E.out.below j).below d;have y:Bl w g:=j.trans (d.mono (by show _<=wr.heap.size;omega));have J:=World.rowIs.frozen a.1 11;have K:=World.rowIs.frozen a.1 (11+1);have L:=World.rowIs.frozen a.1 (11+2);have N:=World.rowIs.frozen a.1 (11+3);have O:=World.rowIs.frozen a.1 (11+4);obtain⟨d0,d1,d2,d3,d4⟩:=a.cu (k:=2) o_;have A:=α q;have B:=α a;have o:Hid (U.From w.heap.size M.n):=r.mono (by show _<=wr.heap.size;omega);clear q a r d)
      all_goals go_wp2_with fail
      all_goals go_ret2
      all_goals
       obtain⟨p,l⟩:=af_ (((((g.setCell ⟨b,11,none⟩ (.bool true)).setCell ⟨b,12,none⟩ (.slice (some ⟨U.ba,U.oa,none⟩) M.n U.ca)).setCell ⟨b,13,none⟩ (.slice (some ⟨U.bn,U.on,none⟩) M.n U.cn)).setCell ⟨b,14,none⟩ (.bool false)).setCell ⟨b,15,none⟩ (.string ⟨#[]⟩));have m:ad_ p b ry t n (Ι (bk_ c 2 (db_ U M.n)))/\ε (fun k=>k=b) g p:=by rw[l];exact B.out.put5 (k:=2) o_ (db_ U M.n)
       rw[<-l];clear l;exact⟨U,rfl,A.out.touch1 o.out m.2 o_,o.out,m.1,gr_ (gq_ y) m.2⟩
  . obtain⟨u,d0⟩:=s.cu (k:=3) o_;by_cases v:3<f
    . omega
    . obtain rfl:f=3:=o_;rw[F.out]at u;have j:Bl w wr.drew:=D.drew;have z:=pg_ V M wr.drew hM (H.out.below j);clear d0 x v C s;go_wp2_with fail;go_region_with (go_at_call 96;refine z.mono ?_;rintro e g ⟨U,rfl,q,r,d⟩;have Q:wr.heap.size<=g.heap.size:=d.size;have a:=(E.out.below j).below d;have y:Bl w g:=j.trans (d.mono (by show _<=wr.heap.size;omega));have J:=World.rowIs.frozen a.1 16;have K:=World.rowIs.frozen a.1 (16+1);have L:=World.rowIs.frozen a.1 (16+2);have N:=World.rowIs.frozen a.1 (16+3);have O:=World.rowIs.frozen a.1 (16+4);obtain⟨d0,d1,d2,d3,d4⟩:=a.cu (k:=3) o_;have A:=α q;have B:=α a;have o:Hid (U.From w.heap.size M.n):=r.mono (by show _<=wr.heap.size;omega);clear q a r d)
      all_goals go_wp2_with fail
      all_goals go_ret2
      all_goals
       obtain⟨p,l⟩:=af_ (((((g.setCell ⟨b,16,none⟩ (.bool true)).setCell ⟨b,17,none⟩ (.slice (some ⟨U.ba,U.oa,none⟩) M.n U.ca)).setCell ⟨b,18,none⟩ (.slice (some ⟨U.bn,U.on,none⟩) M.n U.cn)).setCell ⟨b,19,none⟩ (.bool false)).setCell ⟨b,20,none⟩ (.string ⟨#[]⟩));have m:ad_ p b ry t n (Ι (bk_ c 3 (db_ U M.n)))/\ε (fun k=>k=b) g p:=by rw[l];exact B.out.put5 (k:=3) o_ (db_ U M.n)
       rw[<-l];clear l;exact⟨U,rfl,A.out.touch1 o.out m.2 o_,o.out,m.1,gr_ (gq_ y) m.2⟩
end Go.Proofs.YtpngikmcjkjdaaaGreatDoor
