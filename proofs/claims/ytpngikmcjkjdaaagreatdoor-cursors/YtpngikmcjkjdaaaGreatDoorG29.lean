import Derived.Test.YtpngikmcjkjdaaaGreatDoorG0
import Derived.Deep.RegionWith
import Derived.Test.YtpngikmcjkjdaaaGreatDoorG11
import Derived.Test.YtpngikmcjkjdaaaGreatDoorG18
import Derived.Test.YtpngikmcjkjdaaaGreatDoorG21
import Derived.Test.YtpngikmcjkjdaaaGreatDoorG22
import Derived.Test.YtpngikmcjkjdaaaGreatDoorG26
import Derived.Test.YtpngikmcjkjdaaaGreatDoorG28
import Derived.Test.YtpngikmcjkjdaaaGreatDoorG5
set_option linter.unusedVariables false
set_option linter.unusedSimpArgs false
set_option maxRecDepth 20000
set_option maxHeartbeats 80000000
namespace Go.Proofs.YtpngikmcjkjdaaaGreatDoor
open Go.RowKit Tryz
def ew_ (er:Int)(pl:Nat)(w:World)(e:Ending)(w':World):Prop:=e= .returned (.tuple #[.agg #[.slice none 0 0,.slice none 0 0],.int .i64 er,.int .i64 (pl:Int)])/\Below w.heap.size w w'
theorem q5_ (s:ByteArray)(b:Int)(w:World)(hss:s.size<=maxLen)(hs:40<s.size):Calls prog 68 #[.string s,.int .i64 b] w (ew_ 1 0 w):=by
 unfold maxLen at hss;obtain⟨W,hW,BW,-,b0⟩:=nw__ w #[.slice none 0 0,.slice none 0 0] 41;have hs2:(40:Int)<(s.size:Int):=o_;obtain⟨q0,q1,p0,p1⟩:=aa_ b0;go_enter func68,ntmps68;go_upto_region 1 with fail;rw[<-hW];clear hW;go_wp2_with fail;obtain⟨_,r2,r1⟩:=a7_ (u:= .slice none 0 0) (v:= .slice none 0 0) b0;refine bodyPost_ret (v:= .tuple #[.agg #[.slice none 0 0,.slice none 0 0],.int .i64 1,.int .i64 0]) (by simp[results,results68,go_sem,r1,r2]) rfl ?_;exact⟨rfl,az_ BW (b:=w.heap.size) o_ (.slice none 0 0) (.slice none 0 0)⟩
theorem mb_ (s:ByteArray)(b:Int)(w:World)(hs:s.size<=40){t:Sp}(hp:co_ s= .no t\/∃p,co_ s= .ok p t/\t.a≠s.size):Calls prog 68 #[.string s,.int .i64 b] w (ew_ 2 t.a w):=by
 obtain⟨W,hW,BW,b0,b1⟩:=n2__ w #[.slice none 0 0,.slice none 0 0] 41 #[.string s,.int .i64 0,.slice none 0 0,.bool false,.int .i64 0] 125;have hWs:W.heap.size=w.heap.size+1+1:=by rw[hW];simp
 have hs2:¬(40:Int)<(s.size:Int):=o_;have HC:=y7_ (w.heap.size+1) s W hs (hw_ b1) hp;clear b1 hp;go_enter func68,ntmps68;go_upto_region 4 with fail;rw[<-hW];clear hW;go_wp2_with fail;refine HC.mono ?_;clear HC;rintro e w1 ⟨v,vn1,M,rfl,hm1,hB1⟩;have B1:Below w.heap.size w w1:=BW.trans (hB1.mono o_);have a0:=(hB1.block _ o_).trans b0;obtain⟨_,y1,_,_,_,_,_,_⟩:=hm1.par.cells;have hl1:=hm1.lt;clear hm1 hB1 b0;obtain⟨q0,q1,p0,p1⟩:=aa_ a0;go_wp2_with fail;go_region
 all_goals
  go_wp2_with fail;obtain⟨r0,r2,r1⟩:=a7_ (w:=w1) (u:= .slice none 0 0) (v:= .slice none 0 0) a0;refine bodyPost_ret (v:= .tuple #[.agg #[.slice none 0 0,.slice none 0 0],.int .i64 2,.int .i64 (t.a:Int)]) (by simp[results,results68,go_sem,r0,r1,r2]) rfl ?_;exact⟨rfl,(az_ B1 (b:=w.heap.size) o_ (.slice none 0 0) (.slice none 0 0)).drew⟩
theorem q6_ (s:ByteArray)(b:Int)(w:World)(hs:s.size<=40){p:Pat}{t:Sp}(hp:co_ s= .ok p t)(hta:t.a=s.size)(hbk:t.bk=true):Calls prog 68 #[.string s,.int .i64 b] w (ew_ 3 t.sp w):=by
 obtain⟨W,hW,BW,b0,b1⟩:=n2__ w #[.slice none 0 0,.slice none 0 0] 41 #[.string s,.int .i64 0,.slice none 0 0,.bool false,.int .i64 0] 125;have hWs:W.heap.size=w.heap.size+1+1:=by rw[hW];simp
 have hs2:¬(40:Int)<(s.size:Int):=o_;have HC:=k1_ (w.heap.size+1) s W hs (hw_ b1) hp hta;clear b1 hp hta;go_enter func68,ntmps68;go_upto_region 4 with fail;rw[<-hW];clear hW;go_wp2_with fail;refine HC.mono ?_;clear HC;rintro e w1 ⟨i,vn1,M,rfl,hm1,hN,hMl,hB1⟩;have B1:Below w.heap.size w w1:=BW.trans (hB1.mono o_);have a0:=(hB1.block _ o_).trans b0;obtain⟨_,_,_,y3,y4,_,_,_⟩:=hm1.par.cells;rw[hbk]at y3;have hl1:=hm1.lt;clear hm1 hB1 b0 hN hbk;obtain⟨q0,q1,p0,p1⟩:=aa_ a0;go_wp2_with fail;go_region
 all_goals
  go_wp2_with fail;obtain⟨r0,r2,r1⟩:=a7_ (w:=w1) (u:= .slice none 0 0) (v:= .slice none 0 0) a0;refine bodyPost_ret (v:= .tuple #[.agg #[.slice none 0 0,.slice none 0 0],.int .i64 3,.int .i64 (t.sp:Int)]) (by simp[results,results68,go_sem,r0,r1,r2]) rfl ?_;exact⟨rfl,(az_ B1 (b:=w.heap.size) o_ (.slice none 0 0) (.slice none 0 0)).drew⟩
theorem q7_ (s:ByteArray)(b:Int)(w:World)(hs:s.size<=40){p:Pat}{t:Sp}(hp:co_ s= .ok p t)(hta:t.a=s.size)(hbk:t.bk=false)(hsz:10<p.size):Calls prog 68 #[.string s,.int .i64 b] w (ew_ 4 0 w):=by
 obtain⟨W,hW,BW,b0,b1⟩:=n2__ w #[.slice none 0 0,.slice none 0 0] 41 #[.string s,.int .i64 0,.slice none 0 0,.bool false,.int .i64 0] 125;have hWs:W.heap.size=w.heap.size+1+1:=by rw[hW];simp
 have hs2:¬(40:Int)<(s.size:Int):=o_;have HC:=k1_ (w.heap.size+1) s W hs (hw_ b1) hp hta;clear b1 hp hta;go_enter func68,ntmps68;go_upto_region 4 with fail;rw[<-hW];clear hW;go_wp2_with fail;refine HC.mono ?_;clear HC;rintro e w1 ⟨i,vn1,M,rfl,hm1,hN,hMl,hB1⟩;obtain⟨d,hd,hdz⟩:=hN.node;obtain⟨gn,cap,rfl,hc⟩:=hm1.nd hd;have x1:=hc 1 o_;simp[nagg]at x1;obtain⟨z,HZ⟩:=hx__ (d.size);rw[HZ.out]at x1;obtain⟨_,_,y2,y3,_,_,_,_⟩:=hm1.par.cells;rw[hbk]at y3;have hil:i<M.length:=hN.lt;have hg2:gn<w1.heap.size:=(hm1.own.lt gn rfl).2;have B1:Below w.heap.size w w1:=BW.trans (hB1.mono o_);have a0:=(hB1.block _ o_).trans b0;have hs1:=hm1.lt;have hz10:(10:Int)<(z:Int):=by rw[<-HZ.out,hdz];omega
 clear hc hN hm1 hB1 hd hdz b0 HZ;obtain⟨q0,q1,p0,p1⟩:=aa_ a0;go_wp2_with fail;obtain⟨_,r2,r1⟩:=a7_ (u:= .slice none 0 0) (v:= .slice none 0 0) a0;refine bodyPost_ret (v:= .tuple #[.agg #[.slice none 0 0,.slice none 0 0],.int .i64 4,.int .i64 0]) (by simp[results,results68,go_sem,r1,r2]) rfl ?_;exact⟨rfl,az_ B1 (b:=w.heap.size) o_ (.slice none 0 0) (.slice none 0 0)⟩
theorem s0_ (s:ByteArray)(b:Int)(w:World)(hs:s.size<=40){p:Pat}{t:Sp}(hp:co_ s= .ok p t)(hta:t.a=s.size)(hbk:t.bk=false)(hsz:p.size<=10)(hb:b<1\/40<b):Calls prog 68 #[.string s,.int .i64 b] w (ew_ 8 0 w):=by
 obtain⟨W,hW,BW,b0,b1⟩:=n2__ w #[.slice none 0 0,.slice none 0 0] 41 #[.string s,.int .i64 0,.slice none 0 0,.bool false,.int .i64 0] 125;have hWs:W.heap.size=w.heap.size+1+1:=by rw[hW];simp
 have hs2:¬(40:Int)<(s.size:Int):=o_;have HC:=k1_ (w.heap.size+1) s W hs (hw_ b1) hp hta;clear b1 hp hta;go_enter func68,ntmps68;go_upto_region 4 with fail;rw[<-hW];clear hW;go_wp2_with fail;refine HC.mono ?_;clear HC;rintro e w1 ⟨i,vn1,M,rfl,hm1,hN,hMl,hB1⟩;obtain⟨d,hd,hdz⟩:=hN.node;obtain⟨gn,cap,rfl,hc⟩:=hm1.nd hd;have x1:=hc 1 o_;simp[nagg]at x1;obtain⟨z,HZ⟩:=hx__ (d.size);rw[HZ.out]at x1;obtain⟨_,_,y2,y3,_,_,_,_⟩:=hm1.par.cells;rw[hbk]at y3;have hil:i<M.length:=hN.lt;have hg2:gn<w1.heap.size:=(hm1.own.lt gn rfl).2;have B1:Below w.heap.size w w1:=BW.trans (hB1.mono o_);have a0:=(hB1.block _ o_).trans b0;have hs1:=hm1.lt;have hz10:¬(10:Int)<(z:Int):=by rw[<-HZ.out,hdz];omega
 have hNA:g8_ w1 gn M:=fun i d hi j hj=>by
  obtain⟨g',cap',he,hc'⟩:=hm1.nd hi;simp only[Value.slice.injEq,Option.some.injEq,Addr.mk.injEq]at he;obtain⟨⟨rfl,_⟩,_,rfl⟩:=he;exact hc' j hj
 have HC:=sy_ M gn cap i p w1 hN hNA hg2 hsz;clear hc hN hNA hm1 hB1 hd hdz b0;go_wp2_with fail;refine HC.mono ?_;clear HC;rintro e w2 ⟨hB2,m,ps,gw,ga,ca,gn',cn,hR,hlang,rfl,hWd⟩;have hz2:=hB2.size;have hbd:=Mach.bound hR;have HC:=o9_ gw ga ca gn' cn _ b w2 hWd (Mach.numbered hR) (by show ps.length<=100000000;omega) hb;have B2:Below w.heap.size w w2:=B1.trans (hB2.mono o_);have a1:=(hB2.block _ o_).trans a0;clear hR hWd hB2 hlang hb;go_wp2_with fail;refine HC.mono ?_;clear HC;rintro e w3 ⟨rfl,hB3⟩;have a3:=(hB3.block _ o_).trans a1;have hz3:=hB3.size;have B3:Below w.heap.size w w3:=B2.trans (hB3.mono o_);obtain⟨q0,q1,p0,p1⟩:=aa_ a3;have na:¬w.heap.size=w3.heap.size:=o_;have ma:w.heap.size<w3.heap.size:=o_;clear hB3 x1 y2 y3;go_wp2_with fail;obtain⟨r1,r2⟩:=jo_ (u:= .slice none 0 0) (v:= .slice none 0 0) a3 (.cells #[.slice none 0 0,.slice none 0 0] 41);refine bodyPost_ret (v:= .tuple #[.agg #[.slice none 0 0,.slice none 0 0],.int .i64 8,.int .i64 0]) (by simp[results,results68,go_sem,r1,r2]) rfl ?_;exact⟨rfl,(az_ B3 (b:=w.heap.size) o_ (.slice none 0 0) (.slice none 0 0)).alloc s_ _⟩
theorem ug_ (s:ByteArray)(b:Int)(w:World)(hss:s.size<=maxLen){er:Int}{pl:Nat}(h:gg_ s b=some (er,pl)):Calls prog 68 #[.string s,.int .i64 b] w (ew_ er pl w):=by
 unfold gg_ at h;split at h
 . rename_i h0;simp only[Option.some.injEq,Prod.mk.injEq]at h;obtain⟨rfl,rfl⟩:=h;exact q5_ s b w hss h0
 . rename_i h0;have hs:s.size<=40:=o_;cases hp:co_ s with
   |no t=>
    rw[hp]at h;simp only[Option.some.injEq,Prod.mk.injEq]at h;obtain⟨rfl,rfl⟩:=h;exact mb_ s b w hs (.inl hp)
   |ok p t=>
    rw[hp]at h;simp only at h;split at h
    . rename_i h1;simp only[Option.some.injEq,Prod.mk.injEq]at h;obtain⟨rfl,rfl⟩:=h;exact mb_ s b w hs (.inr ⟨p,hp,h1⟩)
    . rename_i h1;split at h
      . rename_i h2;simp only[Option.some.injEq,Prod.mk.injEq]at h;obtain⟨rfl,rfl⟩:=h;exact q6_ s b w hs hp o_ h2
      . rename_i h2;split at h
        . rename_i h3;simp only[Option.some.injEq,Prod.mk.injEq]at h;obtain⟨rfl,rfl⟩:=h;exact q7_ s b w hs hp o_ (by simpa using h2) h3
        . rename_i h3;split at h
          . rename_i h4;simp only[Option.some.injEq,Prod.mk.injEq]at h;obtain⟨rfl,rfl⟩:=h;exact s0_ s b w hs hp o_ (by simpa using h2) o_ h4
          . simp at h
theorem wp_ (s:ByteArray)(b:Nat)(w:World){p:Pat}{t:Sp}(hp:co_ s= .ok p t)(hta:t.a=s.size)(hbk:t.bk=false)(hsz:p.size<=10)(hs:s.size<=40)(hb1:1<=b)(hb2:b<=40):
 Calls prog 30 #[.string s,.int .i64 (b:Int)] w fun e w'=>∃n,nt_ (patL p) b n w e w':=by
 obtain⟨W,hW,BW,-,-⟩:=nw__ w #[.slice none 0 0,.slice none 0 0] 41;have hWs:W.heap.size=w.heap.size+1:=by rw[hW];simp
 have b0:=hn__ hW;have HC:=uf_ s b W hp hta hbk hsz hs hb1 hb2;clear hp hta hbk hsz hs hb1 hb2;go_enter func30,ntmps30;go_wp2_with fail;rw[<-hW];clear hW;refine HC.mono ?_;clear HC;rintro e w1 ⟨n,v,er',rfl,hp⟩;obtain⟨a0,n0,c0,a1,n1,c1,er,he,hB,hB1,hfin⟩:=hp.wrap3 BW o_;simp only[Ending.returned.injEq,Value.tuple.injEq,Array.mk.injEq,List.cons.injEq,Value.int.injEq,true_and,and_true]at he;obtain⟨rfl,rfl⟩:=he;have a2:=(hB1.block _ o_).trans b0;have HF:Hid _:=hfin w.heap.size o_ o_;obtain⟨q0,q1,p0,p1⟩:=aa_ a2;clear hp hfin hB1 b0;go_wp2_with fail;obtain⟨r1,r2,r3⟩:=a7_ (u:= .slice a0 n0 c0) (v:= .slice a1 n1 c1) a2;refine bodyPost_ret (v:= .tuple #[.agg #[.slice a0 n0 c0,.slice a1 n1 c1],.int .i64 er',.int .i64 0]) (by simp[results,results30,go_sem,r1,r2]) rfl ?_;exact⟨n,_,er',rfl,HF.out _ (by simpa using br__)⟩
theorem wq_ (s:ByteArray)(b:Int)(w:World)(hss:s.size<=maxLen){er:Int}{pl:Nat}(h:gg_ s b=some (er,pl)):Calls prog 30 #[.string s,.int .i64 b] w (ew_ er pl w):=by
 obtain⟨W,hW,BW,-,-⟩:=nw__ w #[.slice none 0 0,.slice none 0 0] 41;have hWs:W.heap.size=w.heap.size+1:=by rw[hW];simp
 have b0:=hn__ hW;have HC:=ug_ s b W hss h;clear h;go_enter func30,ntmps30;go_wp2_with fail;rw[<-hW];clear hW;refine HC.mono ?_;clear HC;rintro e w1 ⟨rfl,hB1⟩;have a2:=(hB1.block _ o_).trans b0;have B1:Below w.heap.size w w1:=BW.trans (hB1.mono o_);obtain⟨q0,q1,p0,p1⟩:=aa_ a2;clear hB1 b0;go_wp2_with fail;obtain⟨r1,r2,r3⟩:=a7_ (u:= .slice none 0 0) (v:= .slice none 0 0) a2;refine bodyPost_ret (v:= .tuple #[.agg #[.slice none 0 0,.slice none 0 0],.int .i64 er,.int .i64 (pl:Int)]) (by simp[results,results30,go_sem,r1,r2]) rfl ?_;exact⟨rfl,az_ B1 (b:=w.heap.size) o_ (.slice none 0 0) (.slice none 0 0)⟩
structure ExOk (E:Ex)(p:Pat):Prop where
 can:E.can
 lang:∀y,E.lang y↔p.norm.lang y
 let_:E.letters<=p.size
 wt:E.nm.length<=p.wt
 dp:E.dep<=p.dp
theorem s1_ (m:Mk)(q:Pat):(m.app q).norm=m.app q.norm:=by cases m<;>rfl
theorem ExOk.rep {x:Ex}{q:Pat}(h:ExOk x q){m:Mk}(hm:m.ok):ExOk (x.repd m.lo m.hi) (m.app q):=
 ⟨aa9_ h.can _ _,fun y=>by rw[s1_];exact x7_ x q.norm h.lang m hm y,r1_ x q h.let_ m hm,ad6_ x q h.wt m hm,ad7_ x q h.dp m hm⟩
theorem m8_ (p:Pat)(its:List Itm):(br_ p its).norm=br_ p.norm (its.map fun i=>⟨i.la,i.q.norm,i.m⟩):=by
 induction its generalizing p with
 |nil=>rfl
 |cons i its ih=>
  show(br_ (.chain p i.pat) its).norm=_
  rw[ih];show br_ (.chain p.norm i.pat.norm) _=br_ (.chain p.norm (Itm.pat ⟨i.la,i.q.norm,i.m⟩)) _
  rw[show i.pat.norm=Itm.pat ⟨i.la,i.q.norm,i.m⟩from s1_ i.m i.q]
theorem ExOk.nil:ExOk .nil (br_ .none []):=⟨trivial,fun y=>Iff.rfl,lr__,lr__,lr__⟩
theorem ExOk.cons {r e:Ex}{it:Itm}{its:List Itm}(hr:ExOk r it.pat)(he:ExOk e (br_ .none its)):ExOk (r.thn' e) (br_ .none (it::its)):=by
 refine⟨io_ hr.can he.can,fun y=> ?_, ?_, ?_, ?_⟩
 . rw[f4_,Cat.congr hr.lang he.lang y];show _↔(br_ (.chain .none it.pat) its).norm.lang y
   rw[m8_,m8_];show Cat it.pat.norm.lang (br_ .none _).lang y↔(br_ (.chain .none it.pat.norm) _).lang y
   rw[t5_ (.chain .none it.pat.norm)];exact Cat.congr (fun u=>(e9_ u).symm) (fun _=>Iff.rfl) y
 . have h1:=f2_ r e;have h2:=hr.let_;have h3:=he.let_;rw[ju_]at h3 ⊢;simp only[List.map_cons,List.sum_cons,Pat.size]at h3 ⊢;omega
 . have h1:=is_ r e;have h2:=hr.wt;have h3:=he.wt;rw[qd_]at h3 ⊢;simp only[List.map_cons,List.sum_cons,Pat.wt]at h3 ⊢;omega
 . have h1:=nr_ r e;have h2:=hr.dp;have h3:=he.dp;rw[qe_]at h3 ⊢;simp only[List.map_cons,List.sum_cons,Pat.dp]at h3 ⊢;omega
theorem ExOk.alt {e x:Ex}{p q:Pat}(he:ExOk e p)(hx:ExOk x q):ExOk (e.alt' x) (.alt p q):=by
 refine⟨r3_ he.can hx.can,fun y=> ?_, ?_, ?_, ?_⟩
 . rw[ql_,he.lang y,hx.lang y];exact Iff.rfl
 . have h1:=l0_ e x;have h2:=he.let_;have h3:=hx.let_;simp only[Pat.size];omega
 . have h1:=sm_ e x;have h2:=he.wt;have h3:=hx.wt;simp only[Pat.wt];omega
 . have h1:=so_ e x;have h2:=he.dp;have h3:=hx.dp;simp only[Pat.dp];omega
def gn_ (p:Pat)(w:World)(e:Ending)(w':World):Prop:=∃g E,e= .returned (.pointer (some ⟨g,0,none⟩))/\ExAt w' g E/\ExOk E p/\Below w.heap.size w w'
theorem gn_.of {E:Ex}{p:Pat}{w w':World}{e:Ending}(h:hs_ E w e w')(hE:ExOk E p):gn_ p w e w':=by
 obtain⟨g,h1,h2,h3⟩:=h;exact⟨g,E,h1,h2,hE,h3⟩
theorem ox_ {S S':Nat->Bool}(h:∀c,c<8->S' c=S c)(h8:∀c,8<=c->S' c=false):ExOk (.one S') (.one S):=by
 have e:S'=fun c=>decide (c<8)&&S c:=by
  funext c;by_cases hc:c<8
  . rw[h c hc];simp[hc]
  . rw[h8 c o_];simp[hc]
 exact⟨h8,fun y=>by subst e;exact Iff.rfl,lr__,ad5_ _,lr__⟩
theorem k2_ (f:Nat->Bool):∀c,8<=c->(decide (c<8)&&f c)=false:=fun c hc=>by
 have:¬c<8:=o_;simp[this]
theorem s2_ (a:ByteArray)(la:List Nat)(q:Pat)(w:World)(hs:a.size<=40)(h:eh_ la q)(ha:txt a=la):ad_ a 0≠40/\1<=a.size/\Calls prog 154 #[.string a] w (gn_ q w):=by
 have hsz:a.size=la.length:=by rw[<-bc_,ha]
 rcases h with ⟨c,hc,rfl,rfl⟩|⟨rfl,rfl⟩|⟨ps,hps,h1,⟨rfl,rfl⟩|⟨rfl,rfl⟩⟩
 . have hb:=(dp_ ha (j:=0) i_).2;refine⟨by rw[hb];simp;omega,by rw[hsz];simp,(p9_ a (97+c) w ha o_).mono (fun e w' h=>gn_.of h (ox_ (fun x hx=> ?_) (k2_ _)))⟩;have e1:(97+c==46)=false:=s_;have e2:(97+c==97+x)=decide (x=c):=by rw[Bool.eq_iff_iff];simp;omega
   rw[e1,e2];simp[hx]
 . have hb:=(dp_ ha (j:=0) i_).2;refine⟨by rw[hb];simp,by rw[hsz];simp,(p9_ a 46 w ha o_).mono (fun e w' h=>gn_.of h (ox_ (fun x hx=>by simp[hx]) (k2_ _)))⟩
 . have hb:=(dp_ ha (j:=0) i_).2;obtain⟨p0,ps',rfl⟩:∃p0 ps',ps=p0::ps':=by
    cases ps with
    |nil=>exact absurd rfl hps
    |cons p0 ps'=>exact⟨p0,ps',rfl⟩
   have hp0:=h1 p0 i_;have hln:2<=a.size:=by rw[hsz];simp;omega
   have hb1:ad_ a 1=97+p0.f:=by
    have:=(dp_ ha (j:=1) s_).2;rw[this,List.flatMap_cons];unfold Prt.text;cases p0.dash<;>rfl
   refine⟨by rw[hb];simp,o_,(qc_ a ((p0::ps').flatMap Prt.text++ [93]) false w hs (ha.trans i_) hln (by rw[hb1];simp;have:=hp0.1;omega) (sj_ h1)).mono (fun e w' h=>gn_.of h (ox_ (fun x hx=> ?_) (k2_ _)))⟩;have e1:=qb_ h1 x hx;rw[sk_,Bool.false_or,<-e1];simp only[hx,decide_true,Bool.true_and];cases covL ((p0::ps').flatMap Prt.text++ [93]) x<;>rfl
 . have hb:=(dp_ ha (j:=0) i_).2;have hln:2<=a.size:=by rw[hsz];simp
   have hb1:ad_ a 1=94:=by
    have:=(dp_ ha (j:=1) i_).2;rw[this];rfl
   have hokl:okL (94::ps.flatMap Prt.text++ [93]):=⟨fun h=>by simp[ai_]at h,sj_ h1⟩;refine⟨by rw[hb];simp,o_,(qc_ a (94::ps.flatMap Prt.text++ [93]) true w hs (ha.trans i_) hln (by rw[hb1];rfl) hokl).mono (fun e w' h=>gn_.of h (ox_ (fun x hx=> ?_) (k2_ _)))⟩;have e1:=qb_ h1 x hx;have e2:covL (94::ps.flatMap Prt.text++ [93]) x=covL (ps.flatMap Prt.text++ [93]) x:=by
    show((ai_ 94&&_&&_)||covL (ps.flatMap Prt.text++ [93]) x)=_
    rw[show ai_ 94=false from rfl];simp
   rw[sk_,Bool.false_or,<-e1,e2];simp only[hx,decide_true,Bool.true_and];cases covL (ps.flatMap Prt.text++ [93]) x<;>rfl
def wr_ (k:Nat):Prop:=∀(s:ByteArray) (p:Pat) (w:World),s.size<=40->PatT (dl_ k) (txt s) p->Calls prog 73 #[.string s] w (gn_ p w)
def rg_ (k:Nat):Prop:=∀(y:ByteArray) (la:List Nat) (q:Pat) (w:World),y.size<=40->dl_ k la q->txt y=la->
 (1<=y.size/\ad_ y 0≠40/\Calls prog 154 #[.string y] w (gn_ q w))\/(ad_ y 0=40/\2<=y.size/\Calls prog 73 #[.string (y.extract 1 (y.size - 1))] w (gn_ q w))
theorem ws_:rg_ 0:=fun y la q w hs h ht=>by
 obtain⟨h1,h2,h3⟩:=s2_ y la q w hs h ht;exact .inl ⟨h2,h1,h3⟩
theorem wu_ (k:Nat)(HM:wr_ k):rg_ (k+1):=by
 intro y la q w hs h ht;rcases h with h|⟨l',rfl,h⟩
 . obtain⟨h1,h2,h3⟩:=s2_ y la q w hs h ht;exact .inl ⟨h2,h1,h3⟩
 . have hyl:y.size=l'.length+2:=by rw[<-bc_,ht];simp
   have hin:txt (y.extract 1 (y.size - 1))=l':=by
    rw[fq_];have:=(mv_ (s:=y) (pre:=[40]) (l:=l') (post:=[41]) (by rw[ht];simp)).1;rw[hyl];simp only[List.length_singleton]at this;rw[show l'.length+2 - 1=1+l'.length by omega];exact this
   refine .inr ⟨?_,o_,HM _ _ w ?_ (by rw[hin];exact h)⟩
   . have:=(dp_ ht (j:=0) i_).2;rw[this];rfl
   . rw[<-bc_,hin];omega
theorem y9_ {its:List Itm}{j:Nat}{it:Itm}(h:its[j]? =some it):its.drop j=it::its.drop (j+1):=by
 have hj:=(List.getElem?_eq_some_iff.1 h).1;rw[List.drop_eq_getElem_cons hj];rw[List.getElem?_eq_getElem hj]at h;simp at h;rw[h]
theorem za_ {m:Mk}(h:m.ok):m.lo<=9/\m.hi<=9/\(m.hi<0\/(m.lo:Int)<=m.hi):=by
 cases m with
 |none=>exact⟨by show 1<=9;omega,by show(1:Int)<=9;omega,.inr (by show(1:Int)<=1;omega)⟩
 |star=>exact⟨by show 0<=9;omega,by show(-1:Int)<=9;omega,.inl (by show(-1:Int)<0;omega)⟩
 |plus=>exact⟨by show 1<=9;omega,by show(-1:Int)<=9;omega,.inl (by show(-1:Int)<0;omega)⟩
 |opt=>exact⟨by show 0<=9;omega,by show(1:Int)<=9;omega,.inr (by show(0:Int)<=1;omega)⟩
 |just n=>have h':n<=9:=h;exact⟨h',by show(n:Int)<=9;omega,.inr (by show(n:Int)<=n;omega)⟩
 |more n=>have h':n<=9:=h;exact⟨h',by show(-1:Int)<=9;omega,.inl (by show(-1:Int)<0;omega)⟩
 |span n m=>have h':n<=m/\m<=9:=h;exact⟨by show n<=9;omega,by show(m:Int)<=9;omega,.inr (by show(n:Int)<=m;omega)⟩
theorem s3_ (k:Nat)(HA:rg_ k)(s:ByteArray)(its:List Itm)(w:World)(hs:s.size<=40)(hits:∀i∈its,dl_ k i.la i.q/\i.m.ok)(ht:txt s=its.flatMap Itm.text):
 Calls prog 118 #[.string s] w (gn_ (br_ .none its) w):=by
 have HC:=op_ k s its w hs hits ht;have hil:its.length<=s.size:=by have:=vg_ hits;rw[<-ht,bc_]at this;exact this
 have HIT:Hid (∀(j:Nat) (it:Itm),its[j]? =some it->dl_ k it.la it.q/\it.m.ok/\it.la.length<=s.size):=by
  intro j it hj;have hm:=List.mem_of_getElem? hj;obtain⟨h1,h2⟩:=hits it hm;refine⟨h1,h2, ?_⟩;obtain⟨it',hj',_,_,_,_,h3,_⟩:=ph_ hits ht (j:=j) (List.getElem?_eq_some_iff.1 hj).1;rw[hj]at hj';simp only[Option.some.injEq]at hj';subst hj';omega
 clear hits ht;go_enter func118,ntmps118;go_wp2_with fail;refine HC.mono ?_;clear HC;rintro e w1 ⟨v,Ps,rfl,hP,hown,hB1⟩;obtain⟨ao,cap,rfl,_⟩:=af_ hown;have hPn:Ps.length=its.length:=by have:=congrArg List.length hP;simpa using this
 have HP:Hid (Ps.map (fun x=>(txt x.1,txt x.2))=its.map (fun i=>(i.la,i.m.text))):=hP;have HOW:Hid (w1.ownsRow w.heap.size 143 2 (.slice ao Ps.length cap) Ps.length (pieC Ps)):=hown;have hsz1:=hB1.size;obtain⟨n,HN⟩:=hx__ (its.length);rw[HN.out]at hPn hil;have HPN:Hid (Ps.length=n):=hPn;rw[hPn];clear hP hown hPn;have HC:=he_ w1;go_wp2_with fail;refine HC.mono ?_;clear HC;rintro e w2 ⟨g2,rfl,hE2,hB2⟩;have S0:ExOk .nil (br_ .none (its.drop n)):=by rw[List.drop_of_length_le (by rw[HN.out];omega)];exact ExOk.nil
 go_wp2_with fail;go_loopw [4,5,6,7,8,9] (fun v' i' _ _ _ _ wr=>∃(j g:Nat) (E:Ex),j<=n/\v'= .pointer (some ⟨g,0,none⟩)/\i'= .int .i64 ((j:Int)- 1)/\ExAt wr g E/\Hid (ExOk E (br_ .none (its.drop j)))/\Below w1.heap.size w1 wr) (fun _ i' _ _ _ _ _=>(intOf i'+1).toNat)
 case atStart=>exact⟨n,g2,.nil,lr__,rfl,rfl,hE2,S0,hB2⟩
 case round=>
  clear S0 hE2 hB2;obtain⟨j,g3,E,hj,rfl,rfl,hE3,HEO,hB3⟩:=hrel;have hsz3:=hB3.size;cases j with
  |zero=>
   have hB:Below w.heap.size w wr:=hB1.trans (hB3.mono o_);have HE:Hid (ExAt wr g3 E):=hE3;have HEO2:Hid (ExOk E (br_ .none its)):=HEO;clear hE3 HEO hB3;go_wp2_with fail;go_ret;exact⟨g3,E,rfl,HE.out,HEO2.out,hB⟩
  |succ j=>
   have hjj:(((j+1:Nat):Int)- 1)=(j:Int):=o_;rw[hjj];obtain⟨y,it,hy,hit,ht1,ht2⟩:=vh_ HP.out (j:=j) (by rw[HN.out];omega);obtain⟨g2',rfl,_,hg3,hg4,hc1,hc2⟩:=si_ HOW.out hy;obtain⟨hA,hok,hle⟩:=HIT.out j it hit;have e1:=(hB3.cell (p:=⟨g2',j*2,none⟩) hg4).trans hc1;have e2:=(hB3.cell (p:=⟨g2',j*2+1,none⟩) hg4).trans hc2;have hgl:g2'<wr.heap.size:=o_;have hyz:y.1.size<=40:=by rw[<-bc_,ht1];omega
   obtain⟨hb1,hb2,hb3⟩:=za_ hok;have HNEW:Hid (∀r e',ExOk r it.pat->ExOk e' (br_ .none (its.drop (j+1)))->ExOk (r.thn' e') (br_ .none (its.drop j))):=by
    intro r e' h1 h2;rw[y9_ hit];exact ExOk.cons h1 h2
   have HREP:Hid (∀x,ExOk x it.q->ExOk (x.repd it.m.lo it.m.hi) it.pat):=fun x hx=>hx.rep hok
   have HTM:=fun w=>f3_ it.m y.2 w hok ht2
   obtain⟨lo,HLO⟩:=hx__ (it.m.lo);obtain⟨hi,HHI⟩:=hx__ (it.m.hi);rw[HLO.out]at HTM hb1 hb3 HREP;rw[HHI.out]at HTM hb2 hb3 HREP;have HAT:=HA y.1 it.la it.q;clear hc1 hc2 hjj hy hit hok HLO HHI;obtain⟨y1,y2⟩:=y;simp only at HAT HTM e1 e2 hyz ht1;rcases HAT wr hyz hA ht1 with ⟨hp1,hne,HC⟩|⟨h40,hp2,_⟩
   . have hce:=a9_ (s:=y1) (a:=0) o_;have t40:((y1[0].toNat:Int)==40)=false:=by rw[<-hce];simp only[beq_eq_false_iff_ne,ne_eq];omega
     have hp1':0<y1.size:=o_;clear hce hne HAT hA ht1;go_wp2_with fail;refine HC.mono ?_;clear HC;rintro e w4 ⟨g4,X,rfl,hE4,hX,hB4⟩;have hsz4:=hB4.size;have f2:=(hB4.cell (p:=⟨g2',j*2+1,none⟩) hgl).trans e2;have hE3':=hE3.below hB4;have HX:Hid (ExOk X it.q):=hX;have hB14:Below w1.heap.size w1 w4:=hB3.trans (hB4.mono o_);clear e1 e2 hE3 hB3 hX;have HC:=HTM w4;go_wp2_with fail;refine HC.mono ?_;clear HC;rintro e w5 ⟨rfl,hB5⟩;have hsz5:=hB5.size;have HC:=l3_ g4 lo hi X w5 (hE4.below hB5) hb1 hb2 hb3;have hE3'':=hE3'.below hB5;have hB15:Below w1.heap.size w1 w5:=hB14.trans (hB5.mono o_);clear f2 hE4 hE3' hB14 hB5;go_wp2_with fail;refine HC.mono ?_;clear HC;rintro e w6 ⟨g6,rfl,hE6,hB6⟩;have hsz6:=hB6.size;have HC:=gp_ g6 g3 (X.repd lo hi) E w6 hE6 (hE3''.below hB6);have hB16:Below w1.heap.size w1 w6:=hB15.trans (hB6.mono o_);have HNW:Hid (ExOk ((X.repd lo hi).thn' E) (br_ .none (its.drop j))):=HNEW.out _ _ (HREP.out X HX.out) HEO.out;clear hE6 hE3'' hB15 hB6;go_wp2_with fail;refine HC.mono ?_;clear HC;rintro e w7 ⟨g7,rfl,hE7,hB7⟩;have hB17:Below w1.heap.size w1 w7:=hB16.trans (hB7.mono o_);clear hB16 hB7;go_wp2_with fail;go_roundw
     case rel=>exact⟨j,g7,_,o_,rfl,rfl,hE7,HNW,hB17⟩
     case measure=>simp[intOf]<;>omega
   . have hce:=a9_ (s:=y1) (a:=0) o_;have t40:((y1[0].toNat:Int)==40)=true:=by rw[<-hce,h40];rfl
     have hp1':0<y1.size:=o_;rcases HAT wr.drew hyz hA ht1 with ⟨_,hne,_⟩|⟨_,_,HC⟩
     . exact absurd h40 hne
     obtain⟨ye,HYE⟩:=hx__ (y1.size - 1);have hwy:IntKind.i64.wrap (ye:Int)=(ye:Int):=by rw[<-HYE.out,IntKind.wrap_i64];omega
     have hwy2:((y1.size:Int)- 1)=(ye:Int):=by rw[<-HYE.out];omega
     rw[HYE.out]at HC;have hy3:1<=ye:=by rw[<-HYE.out];omega
     have hy4:ye<=y1.size:=by rw[<-HYE.out];omega
     clear hce h40 HAT hA ht1;go_wp2_with fail;go_region_with (go_at_call 73;refine HC.mono ?_;rintro e w4 ⟨g4,X,rfl,hE4,hX,hB4'⟩;have hB4:Below wr.heap.size wr w4:=(Below.refl wr.heap.size wr).drew.trans hB4';clear hB4')
     all_goals
      have hsz4:=hB4.size;have f2:=(hB4.cell (p:=⟨g2',j*2+1,none⟩) hgl).trans e2;have hE3':=hE3.below hB4;have HX:Hid (ExOk X it.q):=hX;have hB14:Below w1.heap.size w1 w4:=hB3.trans (hB4.mono o_);clear e1 e2 hE3 hB3 hX;have HC:=HTM w4;go_wp2_with fail;refine HC.mono ?_;clear HC;rintro e w5 ⟨rfl,hB5⟩;have hsz5:=hB5.size;have HC:=l3_ g4 lo hi X w5 (hE4.below hB5) hb1 hb2 hb3;have hE3'':=hE3'.below hB5;have hB15:Below w1.heap.size w1 w5:=hB14.trans (hB5.mono o_);clear f2 hE4 hE3' hB14 hB5;go_wp2_with fail;refine HC.mono ?_;clear HC;rintro e w6 ⟨g6,rfl,hE6,hB6⟩;have hsz6:=hB6.size;have HC:=gp_ g6 g3 (X.repd lo hi) E w6 hE6 (hE3''.below hB6);have hB16:Below w1.heap.size w1 w6:=hB15.trans (hB6.mono o_);have HNW:Hid (ExOk ((X.repd lo hi).thn' E) (br_ .none (its.drop j))):=HNEW.out _ _ (HREP.out X HX.out) HEO.out;clear hE6 hE3'' hB15 hB6;go_wp2_with fail;refine HC.mono ?_;clear HC;rintro e w7 ⟨g7,rfl,hE7,hB7⟩;have hB17:Below w1.heap.size w1 w7:=hB16.trans (hB7.mono o_);clear hB16 hB7;go_wp2_with fail;go_roundw
      case rel=>exact⟨j,g7,_,o_,rfl,rfl,hE7,HNW,hB17⟩
      case measure=>simp[intOf]<;>omega
theorem lh_ (k:Nat)(HA:rg_ k):wr_ k:=by
 intro s p w hs hP;obtain⟨x,xs,hPP⟩:=hP.parts;have HC:=sb_ s w hs;unfold kv_ at HC;rw[hPP.split]at HC;have HPP:Hid (ir_ k s p x xs):=hPP;obtain⟨nl,HNL⟩:=hx__ ((x::xs).length);have HPAT:Hid (p=altL x.2 xs):=hPP.pat;clear hPP hP;go_enter func73,ntmps73;go_wp2_with fail;refine HC.mono ?_;clear HC;rintro e w1 ⟨v,Ls,rfl,hL,hown,hB1,hLl⟩;obtain⟨ao,cap,rfl,_⟩:=af_ hown;have hLn:Ls.length=nl:=by have:=congrArg List.length hL;simp only[List.length_map]at this;rw[this];exact HNL.out
 have HL:Hid (Ls.map txt=(x::xs).map (·.1)):=hL;have HOWN:Hid (w1.ownsRow w.heap.size 9 1 (.slice ao Ls.length cap) Ls.length (strs Ls)):=hown;have hnl:nl<=41:=o_;have hnl1:1<=nl:=by rw[<-HNL.out];simp
 have hsz1:=hB1.size;have HSQ:Hid (∀i,i<nl->∃(y:ByteArray) (g:Nat),ao=some ⟨g,0,none⟩/\g<w1.heap.size/\w1.cell? ⟨g,i,none⟩=some (.string y)/\∀w',Calls prog 118 #[.string y] w' (gn_ ((x::xs).getD i ([],.none)).2 w')):=by
  intro i hi;obtain⟨y,its,hy,hys,hyt,hits,hpat⟩:=HPP.out.one HL.out (i:=i) (by rw[HNL.out];exact hi);obtain⟨g,hg,_,_,hg2,hc⟩:=l8_ HOWN.out hy;refine⟨y,g,hg,hg2,hc,fun w'=> ?_⟩;rw[hpat];exact s3_ k HA y its w' o_ hits hyt
 rw[hLn];clear hL hown hLl hLn HL HOWN;obtain⟨y0,g0,rfl,hg0,hc0,HC0⟩:=HSQ.out 0 o_;have HC:=HC0 w1;simp only[List.getD_cons_zero]at HC;clear HC0;go_wp2_with fail;refine HC.mono ?_;clear HC;rintro e w2 ⟨g2,E2,rfl,hE2,hX2,hB2⟩;have HSX:Hid (∀i,1<=i->i<nl->∃q,xs[i - 1]? =some q/\((x::xs).getD i ([],.none)).2=q.2):=by
  intro i h1 h2;have h3:i - 1<xs.length:=by have:=HNL.out;simp at this;omega
  refine⟨xs[i - 1],by rw[List.getElem?_eq_getElem h3], ?_⟩;obtain⟨i,rfl⟩:∃m,i=m+1:=⟨i - 1,o_⟩;rw[List.getD_cons_succ,List.getD_eq_getElem?_getD,List.getElem?_eq_getElem (by simpa using h3)];rfl
 clear hc0;go_wp2_with fail;go_loopw [4,5,6] (fun v' i' _ wr=>∃(i g:Nat) (E:Ex),1<=i/\i<=nl/\v'= .pointer (some ⟨g,0,none⟩)/\i'= .int .i64 (i:Int)/\ExAt wr g E/\Hid (ExOk E (altL x.2 (xs.take (i - 1))))/\Below w1.heap.size w1 wr) (fun _ i' _ _=>100 - (intOf i').toNat)
 case atStart=>exact⟨1,g2,E2,lr__,hnl1,rfl,rfl,hE2,hX2,hB2⟩
 case round=>
  clear hE2 hX2 hB2;obtain⟨i,g3,E,hi1,hi2,rfl,rfl,hE3,HEO,hB3⟩:=hrel;have hsz3:=hB3.size;by_cases hlt:i<nl
  . have hlt2:(i:Int)<(nl:Int):=o_;obtain⟨y,g,hg,hg2',hc,HC0⟩:=HSQ.out i hlt;simp only[Option.some.injEq,Addr.mk.injEq]at hg;obtain⟨rfl,_⟩:=hg;obtain⟨q,hq1,hq2⟩:=HSX.out i hi1 hlt;rw[hq2]at HC0;have HC:=HC0 wr;have c0:=(hB3.cell (p:=⟨g0,i,none⟩) hg0).trans hc;have HNW:Hid (∀X,ExOk X q.2->ExOk (E.alt' X) (altL x.2 (xs.take (i+1 - 1)))):=by
     intro X hX;have e1:xs.take (i+1 - 1)=xs.take (i - 1)++ [q]:=by
      rw[show i+1 - 1=(i - 1)+1 by omega,List.take_add_one,hq1];rfl
     rw[e1];unfold altL;rw[List.foldl_append];exact ExOk.alt HEO.out hX
    clear hq1 hq2 HC0 hc hg2' HEO;go_wp2_with fail;refine HC.mono ?_;clear HC;rintro e w4 ⟨g4,X,rfl,hE4,hX,hB4⟩;have hsz4:=hB4.size;have HC:=oe_ g3 g4 E X w4 (hE3.below hB4) hE4;have hB14:Below w1.heap.size w1 w4:=hB3.trans (hB4.mono o_);have HX:Hid (ExOk (E.alt' X) (altL x.2 (xs.take (i+1 - 1)))):=HNW.out X hX;clear c0 hE3 hB3 hB4 hX hE4;go_wp2_with fail;refine HC.mono ?_;clear HC;rintro e w5 ⟨g5,rfl,hE5,hB5⟩;have hB15:Below w1.heap.size w1 w5:=hB14.trans (hB5.mono o_);clear hB14 hB5;go_wp2_with fail;go_roundw
    case rel=>exact⟨i+1,g5,_,o_,o_,rfl,by go_num,hE5,HX,hB15⟩
    case measure=>simp[intOf]<;>omega
  . have hlt2:¬(i:Int)<(nl:Int):=o_;obtain rfl:i=nl:=o_;have HE:Hid (ExAt wr g3 E):=hE3;have HEO2:Hid (ExOk E p):=by
     unfold Hid;rw[HPAT.out];have:=HEO.out;rw[List.take_of_length_le (by have:=HNL.out;simp at this;omega)]at this;exact this
    have hB:Below w.heap.size w wr:=hB1.trans (hB3.mono o_);clear hE3 HEO hB3;go_wp2_with fail;go_ret;exact⟨g3,E,rfl,HE.out,HEO2.out,hB⟩
theorem qk_:∀k,wr_ k
 |0=>lh_ 0 ws_
 |k+1=>lh_ (k+1) (wu_ k (qk_ k))
theorem uh_ {s:ByteArray}{r:Int}{a:Nat}(h:pe_ s r)(ha:b6_ s a):r=(a:Int):=by
 rcases h with ⟨b,hb,rfl⟩|⟨q,h1,h2,rfl⟩
 . rw[ha.uniq hb]
 . exact(ha.not_whole h1 h2).elim
theorem hk_ {s:ByteArray}{r:Int}{p:Pat}{t:Sp}(h:pe_ s r)(hp:co_ s= .ok p t)(he:t.a=s.size):r= -1:=by
 obtain⟨q,g,hq⟩:=jt_ hp he;rcases h with ⟨b,hb,rfl⟩|⟨q,h1,h2,rfl⟩
 . exact(hb.not_whole (he▸g.at_) hq).elim
 . rfl
def zb_ (s:ByteArray)(r:Int):Prop:=(∃i:Nat,r=(i:Int)/\BkT s i=true/\∀j,j<i->BkT s j=false)\/(r= -1/\∀j,BkT s j=false)
theorem ab1_ {s:ByteArray}{r:Int}{p:Pat}{t:Sp}(h:zb_ s r)(hp:co_ s= .ok p t)(he:t.a=s.size)(hb:t.bk=true):r=(t.sp:Int):=by
 obtain⟨q,g,hq⟩:=jt_ hp he;obtain⟨h1,h2⟩:=g.yes hb;rcases h with ⟨i,rfl,h3,h4⟩|⟨rfl,h3⟩
 . have:i=t.sp:=by
    rcases Nat.lt_trichotomy i t.sp with h|h|h
    . rw[h2 i h]at h3;cases h3
    . exact h
    . rw[h4 _ h]at h1;cases h1
   rw[this]
 . rw[h3]at h1;cases h1
theorem pm_ {s:ByteArray}{r:Int}{p:Pat}{t:Sp}(h:zb_ s r)(hp:co_ s= .ok p t)(he:t.a=s.size)(hb:t.bk=false):r= -1:=by
 obtain⟨q,g,hq⟩:=jt_ hp he;rcases h with ⟨i,rfl,h3,h4⟩|⟨rfl,_⟩
 . exfalso;by_cases hi:i+1<s.size
   . rw[g.no hb i o_]at h3;cases h3
   . unfold BkT at h3;rw[show decide (i+2<s.size)=false by simp;omega]at h3;simp at h3
 . rfl
theorem li_ {s:ByteArray}{b:Int}{er:Int}{pl:Nat}(h:gg_ s b=some (er,pl)):
 (40<s.size/\er=1/\pl=0)\/(s.size<=40/\b6_ s pl/\er=2)\/
 (s.size<=40/\∃p t,co_ s= .ok p t/\t.a=s.size/\((t.bk=true/\er=3/\pl=t.sp)\/(t.bk=false/\10<p.size/\er=4/\pl=0)\/(t.bk=false/\p.size<=10/\(b<1\/40<b)/\er=8/\pl=0))):=by
 unfold gg_ at h;split at h
 . rename_i h0;simp at h;exact .inl ⟨h0,h.1.symm,h.2.symm⟩
 . rename_i h0;cases hp:co_ s with
   |no t=>
    rw[hp]at h;simp at h;exact .inr (.inl ⟨o_,h.2▸aaw_ hp,h.1.symm⟩)
   |ok p t=>
    rw[hp]at h;simp only at h;split at h
    . rename_i h1;simp at h;exact .inr (.inl ⟨o_,h.2▸t4_ hp h1,h.1.symm⟩)
    . rename_i h1;refine .inr (.inr ⟨o_,p,t,rfl,o_, ?_⟩);split at h
      . rename_i h2;simp at h;exact .inl ⟨h2,h.1.symm,h.2.symm⟩
      . rename_i h2;have h2':t.bk=false:=by simpa using h2
        split at h
        . rename_i h3;simp at h;exact .inr (.inl ⟨h2',h3,h.1.symm,h.2.symm⟩)
        . rename_i h3;split at h
          . rename_i h4;simp at h;exact .inr (.inr ⟨h2',o_,h4,h.1.symm,h.2.symm⟩)
          . simp at h
theorem aef_ {E:Ex}{p:Pat}(h:ExOk E p)(x:List Nat)(hx:ax_ x):E.lang x↔patL p x=true:=by
 rw[sx_,h.lang x,yf_ p x hx]
def cv (n q:Nat):Nat:=q/40*n+q%40
def atv (n:Nat)(ps:List Nat)(r:Nat):Nat:=if r∈ps.map (cv n)then(ps.map (cv n)).idxOf r+1 else 0
theorem oy_ (aa an:Option Addr)(na ca nn cn:Nat)(budget:Int)(w:World)(h:budget<(nn:Int)):
 Calls prog 66 #[.agg #[.slice aa na ca,.slice an nn cn],.int .i64 budget] w
  fun e w'=>e= .returned (.tuple #[.agg #[.slice none 0 0,.slice none 0 0],.int .i64 5])/\Below w.heap.size w w':=by
 obtain⟨W,hW,BW,b0,b1⟩:=n2__ w #[.slice aa na ca,.slice an nn cn] 41 #[.slice none 0 0,.slice none 0 0] 41;obtain⟨x0,x1,_,_⟩:=aa_ b0;obtain⟨q0,q1,p0,p1⟩:=aa_ b1;have HF:Hid _:=az_ BW (b:=w.heap.size+1) o_ (.slice none 0 0) (.slice none 0 0);go_enter func66,ntmps66;go_upto_region 1 with fail;rw[<-hW];clear hW;go_wp2_with fail;obtain⟨_,r2,r1⟩:=a7_ (u:= .slice none 0 0) (v:= .slice none 0 0) b1;refine bodyPost_ret (v:= .tuple #[.agg #[.slice none 0 0,.slice none 0 0],.int .i64 5]) (by simp[results,results66,go_sem,r1,r2]) rfl ?_;exact⟨rfl,HF.out⟩
theorem m9_ (aa an:Option Addr)(na ca nn cn:Nat)(budget:Int)(w:World)(h:(nn:Int)<=budget):
 Calls prog 66 #[.agg #[.slice aa na ca,.slice an nn cn],.int .i64 budget] w
  fun e w'=>e= .returned (.tuple #[.agg #[.slice aa na ca,.slice an nn cn],.int .i64 0])/\Below w.heap.size w w':=by
 obtain⟨W,hW,BW,b0,b1⟩:=n2__ w #[.slice aa na ca,.slice an nn cn] 41 #[.slice none 0 0,.slice none 0 0] 41;obtain⟨x0,x1,_,_⟩:=aa_ b0;obtain⟨q0,q1,p0,p1⟩:=aa_ b1;have hn:¬budget<(nn:Int):=o_;have HF:Hid _:=az_ BW (b:=w.heap.size+1) o_ (.slice aa na ca) (.slice an nn cn);go_enter func66,ntmps66;go_upto_region 1 with fail;rw[<-hW];clear hW;go_wp2_with fail;obtain⟨_,r2,r1⟩:=a7_ (u:= .slice aa na ca) (v:= .slice an nn cn) b1;refine bodyPost_ret (v:= .tuple #[.agg #[.slice aa na ca,.slice an nn cn],.int .i64 0]) (by simp[results,results66,go_sem,r1,r2]) rfl ?_;exact⟨rfl,HF.out⟩
def afa_ (L:List Nat->Bool)(budget:Nat)(w:World)(e:Ending)(w':World):Prop:=
 Below w.heap.size w w'/\((∃(U:Lay) (R:Tab),b8_ R L/\R.n<=budget/\e= .returned (.tuple #[.agg #[.slice (some ⟨U.ba,U.oa,none⟩) R.n U.ca,.slice (some ⟨U.bn,U.on,none⟩) R.n U.cn],.int .i64 0])/\av_ w' U R)\/
  (e= .returned (.tuple #[.agg #[.slice none 0 0,.slice none 0 0],.int .i64 5])/\∃R,b8_ R L/\budget<R.n))
theorem b8_.lang_congr {R:Tab}{L L':List Nat->Bool}(h:b8_ R L)(he:∀x,ax_ x->L x=L' x):b8_ R L':=⟨h.num,h.apart,fun x hx=>(h.lang x hx).trans (he x hx)⟩
section
variable {w w2:World}
theorem wv_ {base base' e e' s s' n n':Nat}{v v':Value}{x x':List Value}(h:w.ownsRow base e s v n x)(h':w.ownsRow base' e' s' v' n' x')(hne:e≠e')(g:Nat)(hg:v.ownBlock=some g)(hg':v'.ownBlock=some g):False:=by
 rcases h.2 with ⟨rfl,_⟩|⟨a,cap,cur,rfl,_,h1,_⟩
 . simp[Value.ownBlock]at hg
 . rcases h'.2 with ⟨rfl,_⟩|⟨a',cap',cur',rfl,_,h2,_⟩
   . simp[Value.ownBlock]at hg'
   . simp only[Value.ownBlock,Option.some.injEq]at hg hg';subst hg;subst hg';rw[h1]at h2;simp only[Option.some.injEq,Obj.cells.injEq]at h2;exact hne h2.2.1
theorem j7_ {base e s n t b:Nat}{v:Value}{x:List Value}{cs:Array Value}{k:Nat×Nat}(h:w.ownsRow base e s v n x)(hb:w.heap[b]? =some (.cells cs t k))(hne:e≠t)(g:Nat)(hg:v.ownBlock=some g):g≠b:=by
 rcases h.2 with ⟨rfl,_⟩|⟨a,cap,cur,rfl,_,h1,_⟩
 . simp[Value.ownBlock]at hg
 . simp only[Value.ownBlock,Option.some.injEq]at hg;subst hg;rintro rfl;rw[h1]at hb;simp only[Option.some.injEq,Obj.cells.injEq]at hb;exact hne hb.2.1
theorem d5_ {base base' e e' s s' n n':Nat}{v v':Value}{x x':List Value}(h:w.ownsRow base e s v n x)(h':w.ownsRow base' e' s' v' n' x')(hne:e≠e')(hg:w.grownBy w2 v'.ownBlock):w2.ownsRow base e s v n x:=by
 refine h.kept hg ?_;cases hv:v.ownBlock with
 |none=>exact .inl rfl
 |some k=>exact .inr (fun e=>wv_ h h' hne k hv e.symm)
theorem ww_ {base e s n:Nat}{v v':Value}{x:List Value}(h:w.ownsRow base e s v n x)(hd:∀g,v.ownBlock=some g->v'.ownBlock=some g->False)(hg:w.grownBy w2 v'.ownBlock):w2.ownsRow base e s v n x:=by
 refine h.kept hg ?_;cases hv:v.ownBlock with
 |none=>exact .inl rfl
 |some k=>exact .inr (fun e=>hd k hv e.symm)
end
section
variable {W W':World} {b:Nat} {w w1 w2:World} {va vn vr vp:Value} {ka kn:Nat} {A:Nat->Bool} {R C:Nat->Nat} {X:Nat->Nat->Nat} {c:Nat} {x:List Value}
theorem au_.rebase (h:au_ W b w va vn ka kn A R C X):au_ w b w va vn ka kn A R C X:=
 ⟨⟨br__,h.two.blk,h.two.own0,h.two.own1,h.two.dis⟩,h.rows⟩
theorem s4_ {A A':Nat->Bool}{k:Nat}(h:∀i,i<k->A i=A' i):a0_ A k=a0_ A' k:=by
 induction k with
 |zero=>rfl
 |succ k ih=>simp only[a0_];rw[ih (fun i hi=>h i o_),h k o_]
theorem e8_ {X Y:Nat->Nat}{k:Nat}(h:∀i,i<k->X i=Y i):am_ X k=am_ Y k:=by
 simp only[am_];apply List.map_congr_left;intro i hi;rw[h i (by simpa using hi)]
theorem au_.congr (h:au_ W b w va vn ka kn A R C X){A':Nat->Bool}{X':Nat->Nat->Nat}(ha:∀i,i<ka->A i=A' i)(hx:∀i c,i<kn->c<8->X i c=X' i c):au_ W b w va vn ka kn A' R C X':=
 ⟨by have:=h.two;rw[s4_ ha]at this;exact this,fun i hi=>by have:=h.rows i hi;rw[e8_ (fun c hc=>hx i c hi hc)]at this;exact this⟩
end
structure mx_ (W:World)(B b:Nat)(w:World)(n mn:Nat)(ps:List Nat)(vp va vn:Value)(ka kn:Nat)(A:Nat->Bool)(R C:Nat->Nat)(X:Nat->Nat->Nat):Prop where
 blw:Below B W w
 tab:w.rowIs B 3 mn (fun r=> .int .i64 (atv n ps r:Nat))
 own:w.ownsRow (B+1) 3 1 vp ps.length (ints (ps.map (cv n)))
 bm:au_ w b w va vn ka kn A R C X
 dp:∀i,i<kn->vp.ownBlock≠some (R i)
 hb:B+1<=b
structure pn_ (W:World)(B b:Nat)(w:World)(n mn:Nat)(ps:List Nat)(vp va vn vr:Value)(ka kn c:Nat)(A:Nat->Bool)(R C:Nat->Nat)(X:Nat->Nat->Nat):Prop where
 mem:mx_ W B b w n mn ps vp va vn ka kn A R C X
 row:w.ownsRow (b+1) 3 1 vr c (am_ (X kn) c)
 dr:∀i,i<kn->vr.ownBlock≠some (R i)
 dpr:∀g,vp.ownBlock=some g->vr.ownBlock=some g->False
section
variable {W:World} {B b:Nat} {w w1 w2:World} {n mn:Nat} {ps:List Nat} {vp va vn vr:Value} {ka kn c:Nat} {A:Nat->Bool} {R C:Nat->Nat} {X:Nat->Nat->Nat}
theorem mx_.congr (h:mx_ W B b w n mn ps vp va vn ka kn A R C X){A':Nat->Bool}{X':Nat->Nat->Nat}(ha:∀i,i<ka->A i=A' i)(hx:∀i c,i<kn->c<8->X i c=X' i c):mx_ W B b w n mn ps vp va vn ka kn A' R C X':=
 ⟨h.blw,h.tab,h.own,h.bm.congr ha hx,h.dp,h.hb⟩
theorem pn_.congr (h:pn_ W B b w n mn ps vp va vn vr ka kn c A R C X){A':Nat->Bool}{X':Nat->Nat->Nat}(ha:∀i,i<ka->A i=A' i)(hx:∀i c,i<kn->c<8->X i c=X' i c)(hr:∀d,d<c->X kn d=X' kn d):pn_ W B b w n mn ps vp va vn vr ka kn c A' R C X':=
 ⟨h.mem.congr ha hx,by have:=h.row;rw[e8_ hr]at this;exact this,h.dr,h.dpr⟩
end
end Go.Proofs.YtpngikmcjkjdaaaGreatDoor
