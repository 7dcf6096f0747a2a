import Derived.Test.YtpngikmcjkjdaaaGreatDoorA27
import Derived.Test.YtpngikmcjkjdaaaGreatDoorA28
set_option linter.unusedVariables false
set_option linter.unusedSimpArgs false
set_option maxRecDepth 20000
set_option maxHeartbeats 80000000
namespace Go.Proofs.YtpngikmcjkjdaaaGreatDoor
open Go.RowKit Tryz List Nat
variable {s:ByteArray} {er:Int} {pl:Nat} {w:World}
noncomputable def g2_ (p:ζ)(x:List Nat):Bool:= @decide (p.lang x) (Classical.propDecidable _)
theorem xf_ (p:ζ)(x:List Nat):g2_ p x=true↔p.lang x:=by unfold g2_;simp
def afp_ (p:ζ)(w:World)(e:Ending)(w':World):Prop:=
 Bl w w'/\∃(m:cw_) (ps:List Nat) (gw ga ca gn cn:Nat),Κ cw_.good m.succ ps (8*ps.length)/\(∀x,m.lang x=g2_ p x)/\e= .returned (.pointer (some ⟨gw,0,none⟩))/\gj_ w' gw ga ca gn cn (m.tab ps)
def pj_:Array Value:= #[.slice none 0 0,.int .i64 0,.int .i64 0,.int .i64 0,.int .i64 0,.int .i64 0,.int .i64 0,.int .i64 0,.int .i64 0]
theorem afq_ {b t:Nat}(h:w.heap[b]? =some (.cells pj_ t (0,0))):w.rowIs b t 9 (fun i=>if i=0 then .slice none 0 0 else .int .i64 (((fun _=>0:Nat->Nat) (i - 1):Nat):Int)):=by
 refine⟨_,h,rfl,fun i hi=> ?_⟩;rcases (show i=0\/i=1\/i=2\/i=3\/i=4\/i=5\/i=6\/i=7\/i=8 by omega)with rfl|rfl|rfl|rfl|rfl|rfl|rfl|rfl|rfl<;>rfl
theorem xg_ (L:List Nd)(gn cap i:Nat)(p:ζ)(w:World)(hN:b3_ L i p)(hA:ku_ w gn L)(hg:gn<w.heap.size)(hp:p.size<=10):
 Calls prog 106 #[.slice (some ⟨gn,0,none⟩) L.length cap,.int .i64 (i:Int)] w (afp_ p w):=by
 obtain⟨W,b⟩:=af_ ((w.alloc (.cells pj_ 184)).alloc (.cells (Ε (fun _=>false)) 128));have BW:Bl w W:=by rw[b];exact ξ.alloc i_ _
 have al:W.heap.size=w.heap.size+1+1:=by rw[b];simp
 have K:W.heap[w.heap.size]? =some (.cells pj_ 184 (0,0)):=by rw[b];exact φ (ο rfl)
 have M:W.heap[w.heap.size+1]? =some (.cells (Ε (fun _=>false)) 128 (0,0)):=by rw[b];exact ο i_
 have J:c6_ W w.heap.size (.slice none 0 0) 0 (fun _=>0) (fun _=>0):=⟨afq_ K,a8_,fun i hi=>o_,fun c _=>o_⟩;have a:=ud_ w.heap.size (.slice none 0 0) 0 (fun _=>0) (fun _=>0) (fun _=>false) W o_ J;obtain⟨c0,c1,c2,c3,c4,c5,c6,c7⟩:=bz_ (f:=fun _=>false) (co_ M);simp only[show Ε (fun _=>false)= #[.bool false,.bool false,.bool false,.bool false,.bool false,.bool false,.bool false,.bool false]from rfl,show((2^0:Nat):Int)=1 from rfl,ft_,if_false]at b a;unfold pj_ at b;clear J K M;go_enter func106,ntmps106;go_upto_region 3 with fail;rw[<-b];clear b;go_wp2_with fail;refine a.mono ?_;clear a;rintro e E ⟨rfl,X,S,B,ak⟩;have aq:=B.size;have ab:=α S;have ad:Bl w E:=B.below BW o_ (fun k hk=>by
  rcases hk with hk|hk
  . omega
  . simp[Value.ownBlock]at hk)
 clear S B ak c0 c1 c2 c3 c4 c5 c6 c7;obtain⟨s,z,G,-,d0⟩:=ν E #[.bool false,.int .i64 1,.int .i64 1] 187;have am:s.heap.size=E.heap.size+1:=by rw[z];simp
 have Q:=η ad G;have m:fp_ s gn w.heap.size L X 1 (fun i=>if i=0 then 0 else 0) (fun _=>0):=⟨hA.block (Q.block _ hg),hg,ab.out.below G,fun c q _=>i_,ι⟩;have a:=abz_ p L gn cap i w.heap.size X 1 _ _ s hN m o_;go_upto_region 5 with fail;rw[<-z];clear z;go_wp2_with fail;refine a.mono ?_;clear a;rintro e Y ⟨v,F,j,av,u,D,rfl,g,o⟩;have f0:=ed_ m.mach g.touch d0 o_ d_;have ar:=g.touch.size;obtain⟨t,A,H,-,P⟩:=ν Y #[.bool v,.int .i64 (F:Int),.int .i64 (j:Int)] 187;have an:t.heap.size=Y.heap.size+1:=by rw[A];simp
 have O:=(H.block _ (κ f0)).trans f0;have d:=g.grow H;have hF:=o.F_lt o_;have y:=o.L_lt o_;obtain⟨l,N,rfl⟩:=d.mach.slice o_;have a:=my_ w.heap.size l (1+p.size) N u D false v 1 1 F j t o_ d.mach o_ o_ hF y;obtain⟨h,r⟩:=δ (if v then j|||1 else j);rw[r.out]at a;have ai:h<2048:=by
  rw[<-r.out];split
  . exact or_lt_two_pow (n:=11) y o_
  . exact y
 simp only[Bool.false_and,ft_,if_false,show((1:Nat):Int)=1 from rfl]at a;have aa:Hid (∀x,cw_.lang ⟨1+p.size,bf_ u 1 F,D,h⟩ x=g2_ p x):=by
  intro x;rw[Bool.eq_iff_iff,xf_,<-r.out];exact cw_.lang_ok o (by rw[g.behs 0 o_];rfl) x
 obtain⟨s0,s1,V,_,_,_⟩:=ay_ O;obtain⟨u0,u1,u2,_,_,_⟩:=ay_ P;have ae:Bl w t:=by
  refine ε.below d.touch Q o_ (fun k hk=> ?_);rcases hk with hk|hk
  . omega
  . have:=(m.mach.own.lt k hk).1;omega
 clear f0 o g m d0;go_upto_region 6 with fail;rw[<-A];clear A;go_wp2_with fail;refine a.mono ?_;clear a;rintro e Z ⟨rfl,T,C⟩;have au:=C.size;have ao:=(d.mach.own.lt l rfl).1;have af:Bl w Z:=C.below ae o_ (fun k hk=>by have e':k=l:=hk;omega);clear s0 s1 V u0 u1 u2 O P C d;obtain⟨W3,R,I,-,U⟩:=ν Z #[.bool false,.int .i64 1,.int .i64 (h:Int)] 187;obtain⟨_,_,V,_,_,_⟩:=ay_ U;have ag:=η af I;have ap:=κ U;have a:=afk_ w.heap.size l (1+p.size) N (bf_ u 1 F) D h W3 o_ o_ ai (T.below I);go_upto_region 7 with fail;rw[<-R];clear R T;go_wp2_with fail;refine a.mono ?_;clear a;rintro e w4 ⟨ah,ps,gw,ga,ca,ac,cn,hR,rfl,aj⟩;go_wp2_with fail;go_ret;exact⟨ag.trans (ah.mono o_),_,ps,gw,ga,ca,ac,cn,hR,aa.out,rfl,aj⟩
def ji_ (s:ByteArray)(b:Int):Option (Int×Nat):=
 if 40<s.size then some (1,0)else match c8_ s with
 | .no t=>some (2,t.a)
 | .ok p t=>if t.a≠s.size then some (2,t.a)else if t.bk=true then some (3,t.sp)else if 10<p.size then some (4,0)else if b<1\/40<b then some (8,0)else none
theorem d7_.wrap3 {L:List Nat->Bool}{budget bound:Nat}{w0 w1:World}{e:Ending}(h:d7_ L budget bound w0 e w1)(h0:Bl w w0)(hs:w.heap.size<=w0.heap.size):
 ∃a0 n0 c0 a1 n1 c1 er,e= .returned (.tuple #[.agg #[.slice a0 n0 c0,.slice a1 n1 c1],.int .i64 er])/\Bl w w1/\Bl w0 w1/\
  ∀b,w.heap.size<=b->b<w0.heap.size->∀w2,Below w1.heap.size ((w1.setCell ⟨b,0,none⟩ (.slice a0 n0 c0)).setCell ⟨b,1,none⟩ (.slice a1 n1 c1)) w2->d7_ L budget bound w (.returned (.tuple #[.agg #[.slice a0 n0 c0,.slice a1 n1 c1],.int .i64 er])) w2:=by
 obtain⟨a,k⟩:=h;have c:=h0.trans (a.mono hs);have g:∀(b:Nat) (u v:Value),((w1.setCell ⟨b,0,none⟩ u).setCell ⟨b,1,none⟩ v).heap.size=w1.heap.size:=by intro b u v;simp
 rcases k with ⟨R,V,d,m,rfl,j,f,i⟩|⟨rfl,l,d⟩
 . exact⟨_,_,_,_,_,_,_,rfl,c,a,fun b h1 h2 w2 h3=>⟨(av_ c h1 _ _).trans (h3.mono (by have:=a.size;omega)),.inl ⟨R,V,d,m,rfl,(j.res f h2 _ _).below (by show Below _ _ _;rw[g];exact h3),f.mono hs,((i.set _ _ _).set _ _ _).below (by show Below _ _ _;rw[g];exact h3)⟩⟩⟩
 . exact⟨_,_,_,_,_,_,_,rfl,c,a,fun b h1 h2 w2 h3=>⟨(av_ c h1 _ _).trans (h3.mono (by have:=a.size;omega)),.inr ⟨rfl,l,d⟩⟩⟩
def rw_ (L:List Nat->Bool)(budget bound:Nat)(w:World)(e:Ending)(w':World):Prop:=
 ∃v er,e= .returned (.tuple #[v,.int .i64 er,.int .i64 0])/\d7_ L budget bound w (.returned (.tuple #[v,.int .i64 er])) w'
theorem afr_ {b:Int}(h:ji_ s b=none):∃p t,c8_ s= .ok p t/\t.a=s.size/\t.bk=false/\p.size<=10/\s.size<=40/\1<=b/\b<=40:=by
 unfold ji_ at h;split at h
 . simp at h
 . rename_i h0;cases hp:c8_ s with
   |no t=>rw[hp]at h;simp at h
   |ok p t=>
    rw[hp]at h;simp only at h;split at h
    . simp at h
    . rename_i h1;split at h
      . simp at h
      . rename_i h2;split at h
        . simp at h
        . rename_i h3;split at h
          . simp at h
          . rename_i h4;exact⟨p,t,rfl,o_,by simpa using h2,o_,o_,o_,o_⟩
theorem ni_ {bp:Nat}(h:w.heap[bp]? =some (.cells #[.string s,.int .i64 0,.slice none 0 0,.bool false,.int .i64 0] 125 (0,0))):τ w bp s ⟨0,false,0⟩ (.slice none 0 0) []:=
 ⟨h,a8_⟩
theorem afs_ (s:ByteArray)(b:Nat)(w:World){p:ζ}{t:Sp}(hp:c8_ s= .ok p t)(hta:t.a=s.size)(hbk:t.bk=false)(hsz:p.size<=10)(hs:s.size<=40)(hb1:1<=b)(hb2:b<=40):
 Calls prog 68 #[.string s,.int .i64 (b:Int)] w fun e w'=>∃n,rw_ (g2_ p) b n w e w':=by
 obtain⟨W,N,BW,I,J⟩:=bl_ w #[.slice none 0 0,.slice none 0 0] 41 #[.string s,.int .i64 0,.slice none 0 0,.bool false,.int .i64 0] 125
 have c:=pi_ (w.heap.size+1) s W hs (ni_ J) hp hta;have aj:¬(40:Int)<(s.size:Int):=o_;clear hp J;go_enter func68,ntmps68;go_upto_region 4 with fail;rw[<-N];clear N;go_wp2_with fail;refine c.mono ?_;clear c;rintro e E ⟨i,an,M,rfl,f,k,af,A⟩;obtain⟨d,Q,R⟩:=k.node;obtain⟨g,aa,rfl,P⟩:=f.nd Q;have F:=P 1 o_;simp[Α]at F;obtain⟨z,G⟩:=δ (d.size);rw[G.out]at F;have ak:¬(10:Int)<(z:Int):=by rw[<-G.out,R];omega
 obtain⟨_,_,y2,X,_,_,_,_⟩:=f.par.cells;rw[hbk]at X;have ah:i<M.length:=k.lt;have ad:g<E.heap.size:=(f.own.lt g rfl).2;have L:ku_ E g M:=fun i d hi j hj=>by
  obtain⟨g',ae,S,ac⟩:=f.nd hi;simp only[Value.slice.injEq,Δ,Addr.mk.injEq]at S;obtain⟨⟨rfl,_⟩,_,rfl⟩:=S;exact ac j hj
 have c:=xg_ M g aa i p E k L ad hsz;have Y:=η BW A;have a0:=(A.block _ o_).trans I;have ai:=f.lt;clear P k L f A Q R I hta;go_wp2_with fail;refine c.mono ?_;clear c;rintro e w2 ⟨h,m,ps,gw,ga,ca,ab,cn,l,U,rfl,O⟩;have al:=h.size;have ag:=cw_.bound l;have c:=ti_ gw ga ca ab cn _ (g2_ p) b w2 O (cw_.numbered l) (by show ps.length<=100000000;omega) (fun x hx=>(cw_.tab_accepts l x hx).trans (U x)) hb1 hb2;have Z:=η Y h;have a1:=(h.block _ o_).trans a0;clear l O h U;go_wp2_with fail;refine c.mono ?_;intro e w3 V;obtain⟨o,C,r,q,D,y,K,rfl,hB,B,T⟩:=V.wrap3 Z o_;have H:=(B.block _ o_).trans a1;have am:=B.size;have HF:Hid _:=T w.heap.size o_ o_;obtain⟨q0,q1,p0,p1⟩:=β H;have ma:w.heap.size<w3.heap.size:=o_;clear c V T B F y2 X;go_wp2_with fail;obtain⟨r1,r2⟩:=mn_ (u:= .slice o C r) (v:= .slice q D y) H (.cells #[.slice o C r,.slice q D y] 41);refine bodyPost_ret (v:= .tuple #[.agg #[.slice o C r,.slice q D y],.int .i64 K,.int .i64 0]) (by simp[results,results68,go_sem,r1,r2]) rfl ?_;exact⟨_,_,K,rfl,HF.out _ (μ.alloc i_ _)⟩
def g5_ (er:Int)(pl:Nat)(w:World)(e:Ending)(w':World):Prop:=e= .returned (.tuple #[.agg #[.slice none 0 0,.slice none 0 0],.int .i64 er,.int .i64 (pl:Int)])/\Bl w w'
theorem ago_ (s:ByteArray)(b:Int)(w:World)(hss:s.size<=maxLen)(hs:40<s.size):Calls prog 68 #[.string s,.int .i64 b] w (g5_ 1 0 w):=by
 unfold maxLen at hss;obtain⟨W,c,d,-,a⟩:=ν w #[.slice none 0 0,.slice none 0 0] 41;have g:(40:Int)<(s.size:Int):=o_;obtain⟨j,k,h,i⟩:=β a;go_enter func68,ntmps68;go_upto_region 1 with fail;rw[<-c];clear c;go_wp2_with fail;obtain⟨_,f,e⟩:=Φ (u:= .slice none 0 0) (v:= .slice none 0 0) a;refine bodyPost_ret (v:= .tuple #[.agg #[.slice none 0 0,.slice none 0 0],.int .i64 1,.int .i64 0]) (by simp[results,results68,go_sem,e,f]) rfl ?_;exact⟨rfl,av_ d (b:=w.heap.size) o_ (.slice none 0 0) (.slice none 0 0)⟩
theorem x5_ (s:ByteArray)(b:Int)(w:World)(hs:s.size<=40){t:Sp}(hp:c8_ s= .no t\/∃p,c8_ s= .ok p t/\t.a≠s.size):Calls prog 68 #[.string s,.int .i64 b] w (g5_ 2 t.a w):=by
 obtain⟨W,i,l,g,h⟩:=bl_ w #[.slice none 0 0,.slice none 0 0] 41 #[.string s,.int .i64 0,.slice none 0 0,.bool false,.int .i64 0] 125
 have r:¬(40:Int)<(s.size:Int):=o_;have d:=afo_ (w.heap.size+1) s W hs (ni_ h) hp;clear h hp;go_enter func68,ntmps68;go_upto_region 4 with fail;rw[<-i];clear i;go_wp2_with fail;refine d.mono ?_;clear d;rintro e q ⟨v,B,M,rfl,j,c⟩;have k:=η l c;have f:=(c.block _ o_).trans g;obtain⟨_,C,_,_,_,_,_,_⟩:=j.par.cells;clear j c g;obtain⟨z,A,x,y⟩:=β f;go_wp2_with fail;go_region
 all_goals
  go_wp2_with fail;obtain⟨m,o,n⟩:=Φ (w:=q) (u:= .slice none 0 0) (v:= .slice none 0 0) f;refine bodyPost_ret (v:= .tuple #[.agg #[.slice none 0 0,.slice none 0 0],.int .i64 2,.int .i64 (t.a:Int)]) (by simp[results,results68,go_sem,m,n,o]) rfl ?_;exact⟨rfl,(av_ k (b:=w.heap.size) o_ (.slice none 0 0) (.slice none 0 0)).drew⟩
theorem agp_ (s:ByteArray)(b:Int)(w:World)(hs:s.size<=40){p:ζ}{t:Sp}(hp:c8_ s= .ok p t)(hta:t.a=s.size)(hbk:t.bk=true):Calls prog 68 #[.string s,.int .i64 b] w (g5_ 3 t.sp w):=by
 obtain⟨W,j,m,g,h⟩:=bl_ w #[.slice none 0 0,.slice none 0 0] 41 #[.string s,.int .i64 0,.slice none 0 0,.bool false,.int .i64 0] 125
 have A:¬(40:Int)<(s.size:Int):=o_;have d:=pi_ (w.heap.size+1) s W hs (ni_ h) hp hta;clear h hp hta;go_enter func68,ntmps68;go_upto_region 4 with fail;rw[<-j];clear j;go_wp2_with fail;refine d.mono ?_;clear d;rintro e x ⟨i,F,M,rfl,k,n,z,c⟩;have l:=η m c;have f:=(c.block _ o_).trans g;obtain⟨_,_,_,y,G,_,_,_⟩:=k.par.cells;rw[hbk]at y;clear k c g n hbk;obtain⟨D,E,B,C⟩:=β f;go_wp2_with fail;go_region
 all_goals
  go_wp2_with fail;obtain⟨o,r,q⟩:=Φ (w:=x) (u:= .slice none 0 0) (v:= .slice none 0 0) f;refine bodyPost_ret (v:= .tuple #[.agg #[.slice none 0 0,.slice none 0 0],.int .i64 3,.int .i64 (t.sp:Int)]) (by simp[results,results68,go_sem,o,q,r]) rfl ?_;exact⟨rfl,(av_ l (b:=w.heap.size) o_ (.slice none 0 0) (.slice none 0 0)).drew⟩
theorem agq_ (s:ByteArray)(b:Int)(w:World)(hs:s.size<=40){p:ζ}{t:Sp}(hp:c8_ s= .ok p t)(hta:t.a=s.size)(hbk:t.bk=false)(hsz:10<p.size):Calls prog 68 #[.string s,.int .i64 b] w (g5_ 4 0 w):=by
 obtain⟨W,n,A,l,m⟩:=bl_ w #[.slice none 0 0,.slice none 0 0] 41 #[.string s,.int .i64 0,.slice none 0 0,.bool false,.int .i64 0] 125
 have I:¬(40:Int)<(s.size:Int):=o_;have j:=pi_ (w.heap.size+1) s W hs (ni_ m) hp hta;clear m hp hta;go_enter func68,ntmps68;go_upto_region 4 with fail;rw[<-n];clear n;go_wp2_with fail;refine j.mono ?_;clear j;rintro e Q ⟨i,P,M,rfl,h,g,G,f⟩;obtain⟨d,q,r⟩:=g.node;obtain⟨F,E,rfl,o⟩:=h.nd q;have x:=o 1 o_;simp[Α]at x;obtain⟨z,c⟩:=δ (d.size);rw[c.out]at x;obtain⟨_,_,R,D,_,_,_,_⟩:=h.par.cells;rw[hbk]at D;have H:i<M.length:=g.lt;have y:=η A f;have k:=(f.block _ o_).trans l;have J:(10:Int)<(z:Int):=by rw[<-c.out,r];omega
 clear o g h f q r l c;obtain⟨N,O,K,L⟩:=β k;go_wp2_with fail;obtain⟨_,C,B⟩:=Φ (u:= .slice none 0 0) (v:= .slice none 0 0) k;refine bodyPost_ret (v:= .tuple #[.agg #[.slice none 0 0,.slice none 0 0],.int .i64 4,.int .i64 0]) (by simp[results,results68,go_sem,B,C]) rfl ?_;exact⟨rfl,av_ y (b:=w.heap.size) o_ (.slice none 0 0) (.slice none 0 0)⟩
theorem agr_ (s:ByteArray)(b:Int)(w:World)(hs:s.size<=40){p:ζ}{t:Sp}(hp:c8_ s= .ok p t)(hta:t.a=s.size)(hbk:t.bk=false)(hsz:p.size<=10)(hb:b<1\/40<b):Calls prog 68 #[.string s,.int .i64 b] w (g5_ 8 0 w):=by
 obtain⟨W,D,O,A,B⟩:=bl_ w #[.slice none 0 0,.slice none 0 0] 41 #[.string s,.int .i64 0,.slice none 0 0,.bool false,.int .i64 0] 125
 have ag:¬(40:Int)<(s.size:Int):=o_;have c:=pi_ (w.heap.size+1) s W hs (ni_ B) hp hta;clear B hp hta;go_enter func68,ntmps68;go_upto_region 4 with fail;rw[<-D];clear D;go_wp2_with fail;refine c.mono ?_;clear c;rintro e q ⟨i,ak,M,rfl,f,l,ac,n⟩;obtain⟨d,G,H⟩:=l.node;obtain⟨g,S,rfl,F⟩:=f.nd G;have r:=F 1 o_;simp[Α]at r;obtain⟨z,x⟩:=δ (d.size);rw[x.out]at r;obtain⟨_,_,y2,J,_,_,_,_⟩:=f.par.cells;rw[hbk]at J;have ae:i<M.length:=l.lt;have Z:g<q.heap.size:=(f.own.lt g rfl).2;have K:=η O n;have P:=(n.block _ o_).trans A;have af:=f.lt;have ah:¬(10:Int)<(z:Int):=by rw[<-x.out,H];omega
 have C:ku_ q g M:=fun i d hi j hj=>by
  obtain⟨g',ab,I,Y⟩:=f.nd hi;simp only[Value.slice.injEq,Δ,Addr.mk.injEq]at I;obtain⟨⟨rfl,_⟩,_,rfl⟩:=I;exact Y j hj
 have c:=xg_ M g S i p q l C Z hsz;clear F l C f n G H A;go_wp2_with fail;refine c.mono ?_;clear c;rintro e w2 ⟨h,m,ps,X,U,R,V,T,o,aa,rfl,E⟩;have ai:=h.size;have ad:=cw_.bound o;have c:=tj_ X U R V T _ b w2 E (cw_.numbered o) (by show ps.length<=100000000;omega) hb;have L:=η K h;have Q:=(h.block _ o_).trans P;clear o E h aa hb;go_wp2_with fail;refine c.mono ?_;clear c;rintro e w3 ⟨rfl,k⟩;have y:=(k.block _ o_).trans Q;have aj:=k.size;have N:=η L k;obtain⟨q0,q1,p0,p1⟩:=β y;have ma:w.heap.size<w3.heap.size:=o_;clear k r y2 J;go_wp2_with fail;obtain⟨r1,r2⟩:=mn_ (u:= .slice none 0 0) (v:= .slice none 0 0) y (.cells #[.slice none 0 0,.slice none 0 0] 41);refine bodyPost_ret (v:= .tuple #[.agg #[.slice none 0 0,.slice none 0 0],.int .i64 8,.int .i64 0]) (by simp[results,results68,go_sem,r1,r2]) rfl ?_;exact⟨rfl,(av_ N (b:=w.heap.size) o_ (.slice none 0 0) (.slice none 0 0)).alloc s_ _⟩
theorem ags_ (s:ByteArray)(b:Int)(w:World)(hss:s.size<=maxLen)(h:ji_ s b=some (er,pl)):Calls prog 68 #[.string s,.int .i64 b] w (g5_ er pl w):=by
 unfold ji_ at h;split at h
 . rename_i h0;simp only[Δ,Prod.mk.injEq]at h;obtain⟨rfl,rfl⟩:=h;exact ago_ s b w hss h0
 . rename_i h0;have a:s.size<=40:=o_;cases hp:c8_ s with
   |no t=>
    rw[hp]at h;simp only[Δ,Prod.mk.injEq]at h;obtain⟨rfl,rfl⟩:=h;exact x5_ s b w a (.inl hp)
   |ok p t=>
    rw[hp]at h;simp only at h;split at h
    . rename_i h1;simp only[Δ,Prod.mk.injEq]at h;obtain⟨rfl,rfl⟩:=h;exact x5_ s b w a (.inr ⟨p,hp,h1⟩)
    . rename_i h1;split at h
      . rename_i h2;simp only[Δ,Prod.mk.injEq]at h;obtain⟨rfl,rfl⟩:=h;exact agp_ s b w a hp o_ h2
      . rename_i h2;split at h
        . rename_i h3;simp only[Δ,Prod.mk.injEq]at h;obtain⟨rfl,rfl⟩:=h;exact agq_ s b w a hp o_ (by simpa using h2) h3
        . rename_i h3;split at h
          . rename_i h4;simp only[Δ,Prod.mk.injEq]at h;obtain⟨rfl,rfl⟩:=h;exact agr_ s b w a hp o_ (by simpa using h2) o_ h4
          . simp at h
theorem agt_ (s:ByteArray)(b:Nat)(w:World){p:ζ}{t:Sp}(hp:c8_ s= .ok p t)(hta:t.a=s.size)(hbk:t.bk=false)(hsz:p.size<=10)(hs:s.size<=40)(hb1:1<=b)(hb2:b<=40):
 Calls prog 30 #[.string s,.int .i64 (b:Int)] w fun e w'=>∃n,rw_ (g2_ p) b n w e w':=by
 obtain⟨W,c,y,-,-⟩:=ν w #[.slice none 0 0,.slice none 0 0] 41;have E:W.heap.size=w.heap.size+1:=by rw[c];simp
 have i:=aw_ c;have d:=afs_ s b W hp hta hbk hsz hs hb1 hb2;clear hp hta hbk hsz hs hb1 hb2;go_enter func30,ntmps30;go_wp2_with fail;rw[<-c];clear c;refine d.mono ?_;clear d;rintro e K ⟨n,v,l,rfl,hp⟩;obtain⟨f,r,j,g,x,k,C,o,D,m,q⟩:=hp.wrap3 y o_;simp only[Ending.returned.injEq,Value.tuple.injEq,Array.mk.injEq,List.cons.injEq,Value.int.injEq,true_and,and_true]at o;obtain⟨rfl,rfl⟩:=o;have h:=(m.block _ o_).trans i;have z:Hid _:=q w.heap.size o_ o_;obtain⟨H,I,F,G⟩:=β h;clear hp q m i;go_wp2_with fail;obtain⟨A,B,J⟩:=Φ (u:= .slice f r j) (v:= .slice g x k) h;refine bodyPost_ret (v:= .tuple #[.agg #[.slice f r j,.slice g x k],.int .i64 l,.int .i64 0]) (by simp[results,results30,go_sem,A,B]) rfl ?_;exact⟨n,_,l,rfl,z.out _ (by simpa using μ)⟩
theorem agu_ (s:ByteArray)(b:Int)(w:World)(hss:s.size<=maxLen)(h:ji_ s b=some (er,pl)):Calls prog 30 #[.string s,.int .i64 b] w (g5_ er pl w):=by
 obtain⟨W,a,j,-,-⟩:=ν w #[.slice none 0 0,.slice none 0 0] 41;have m:W.heap.size=w.heap.size+1:=by rw[a];simp
 have g:=aw_ a;have d:=ags_ s b W hss h;clear h;go_enter func30,ntmps30;go_wp2_with fail;rw[<-a];clear a;refine d.mono ?_;clear d;rintro e t ⟨rfl,c⟩;have f:=(c.block _ o_).trans g;have i:=η j c;obtain⟨p,q,n,o⟩:=β f;clear c g;go_wp2_with fail;obtain⟨k,l,r⟩:=Φ (u:= .slice none 0 0) (v:= .slice none 0 0) f;refine bodyPost_ret (v:= .tuple #[.agg #[.slice none 0 0,.slice none 0 0],.int .i64 er,.int .i64 (pl:Int)]) (by simp[results,results30,go_sem,k,l]) rfl ?_;exact⟨rfl,av_ i (b:=w.heap.size) o_ (.slice none 0 0) (.slice none 0 0)⟩
end Go.Proofs.YtpngikmcjkjdaaaGreatDoor
