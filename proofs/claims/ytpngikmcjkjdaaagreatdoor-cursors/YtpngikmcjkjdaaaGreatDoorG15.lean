import Derived.Test.YtpngikmcjkjdaaaGreatDoorG0
import Derived.Test.YtpngikmcjkjdaaaGreatDoorG14
set_option linter.unusedVariables false
set_option linter.unusedSimpArgs false
set_option maxRecDepth 20000
set_option maxHeartbeats 80000000
namespace Go.Proofs.YtpngikmcjkjdaaaGreatDoor
open Go.RowKit Tryz
def g8_ (w:World)(gn:Nat)(L:List Nd):Prop:=∀i d,L[i]? =some d->∀j,j<15->w.cell? ⟨gn,i*15+j,none⟩=(nagg d)[j]?
theorem g8_.block {w w1:World}{gn:Nat}{L:List Nd}(h:g8_ w gn L)(hb:w1.heap[gn]? =w.heap[gn]?):g8_ w1 gn L:=fun i d hi j hj=>(World.cell?_of_block (a:=⟨gn,_,none⟩) hb).trans (h i d hi j hj)
def g9_ (bm:Nat)(vb:Value)(n:Nat)(beh rdr:Nat->Nat)(p:Pat)(w:World)(e:Ending)(w':World):Prop:=
 ∃(em:Bool) (F La:Nat) (vb':Value) (beh' rdr':Nat->Nat),e= .returned (.agg #[.bool em,.int .i64 (F:Int),.int .i64 (La:Int)])/\Lays bm vb n beh rdr w vb' (n+p.size) beh' rdr' w'/\a4_ rdr' beh' n (n+p.size) em F La p.lang
structure er_ (w:World)(gn bm:Nat)(L:List Nd)(vb:Value)(n:Nat)(beh rdr:Nat->Nat):Prop where
 nod:g8_ w gn L
 ahead:gn<bm
 mach:cg_ w bm vb n beh rdr
 fresh:∀c q,n<=q->(rdr c).testBit q=false
 pos:1<=n
theorem er_.below {w w1:World}{gn bm:Nat}{L:List Nd}{vb:Value}{n:Nat}{beh rdr:Nat->Nat}(h:er_ w gn bm L vb n beh rdr)(hb:Below w.heap.size w w1):er_ w1 gn bm L vb n beh rdr:=
 ⟨h.nod.block (hb.block _ (by have:=h.mach.blk.lt;have:=h.ahead;omega)),h.ahead,h.mach.below hb,h.fresh,h.pos⟩
theorem er_.laid {w w1:World}{gn bm:Nat}{L:List Nd}{vb vb1:Value}{n n1:Nat}{beh rdr beh1 rdr1:Nat->Nat}(h:er_ w gn bm L vb n beh rdr)(hl:Lays bm vb n beh rdr w vb1 n1 beh1 rdr1 w1)(hn:n<=n1):er_ w1 gn bm L vb1 n1 beh1 rdr1:=by
 have ha:=h.ahead;have hb:=h.mach.blk.lt;refine⟨h.nod.block (hl.touch.block gn o_ ?_),ha,hl.mach,hl.fresh,by have:=h.pos;omega⟩;rintro(e|e)
 . omega
 . have:=(h.mach.own.lt _ e).1;omega
def LayC (p:Pat):Prop:=∀(L:List Nd) (gn cap i bm:Nat) (vb:Value) (n:Nat) (beh rdr:Nat->Nat) (w:World),be_ L i p->er_ w gn bm L vb n beh rdr->n+p.size<=11->
 Calls prog 143 #[.pointer (some ⟨bm,0,none⟩),.slice (some ⟨gn,0,none⟩) L.length cap,.int .i64 (i:Int)] w (g9_ bm vb n beh rdr p w)
theorem cc_ {bm:Nat}{vb:Value}{n:Nat}{beh rdr:Nat->Nat}{w w1:World}{b t:Nat}{cs:Array Value}(hm:cg_ w bm vb n beh rdr)(ht:ab_ (fun b=>b=bm\/vb.ownBlock=some b) w w1)(hb:w.heap[b]? =some (.cells cs t (0,0)))(hbm:bm<b)(hty:3≠t):w1.heap[b]? =some (.cells cs t (0,0)):=by
 refine(ht.block b (ac_ hb) ?_).trans hb;rintro(e|e)
 . omega
 . exact xy_ hm.own hb hty e
theorem f0_ {bm gb n cap:Nat}{w w1:World}(ht:ab_ (fun k=>k=gb) w w1):ab_ (fun k=>k=bm\/(Value.slice (some ⟨gb,0,none⟩) n cap).ownBlock=some k) w w1:=
 ⟨ht.os,ht.tape,ht.output,ht.size,fun k hk hn=>ht.block k hk (fun e=>hn (.inr (by simp only[Value.ownBlock];rw[show k=gb from e])))⟩
theorem d2_ {w:World}{b t:Nat}{d:Nd}(h:w.heap[b]? =some (.cells (nagg d) t (0,0))):∀j,j<15->w.cell? ⟨b,j,none⟩=(nagg d)[j]? :=fun j hj=>cell_of_row w b j (nagg d) t (0,0) h
theorem cg_.slice {w:World}{bm:Nat}{vb:Value}{n:Nat}{beh rdr:Nat->Nat}(h:cg_ w bm vb n beh rdr)(hn:1<=n):∃gb cap,vb= .slice (some ⟨gb,0,none⟩) n cap:=by
 obtain⟨ao,cap,rfl,hao⟩:=af_ h.own;obtain⟨g,rfl,_⟩:=hao o_;exact⟨g,cap,rfl⟩
theorem f1_ {bm:Nat}{vb vb1:Value}{n n1:Nat}{beh rdr beh1 rdr1:Nat->Nat}{w w1:World}(h:Lays bm vb n beh rdr w vb1 n1 beh1 rdr1 w1){b t:Nat}{x y z:Value}(hb:w1.heap[b]? =some (.cells #[x,y,z] t (0,0)))(hw:w.heap.size<=b)(hbm:bm<b)(hty:3≠t)(u v r:Value):
 Lays bm vb n beh rdr w vb1 n1 beh1 rdr1 (((w1.setCell ⟨b,0,none⟩ u).setCell ⟨b,1,none⟩ v).setCell ⟨b,2,none⟩ r)/\
 (((w1.setCell ⟨b,0,none⟩ u).setCell ⟨b,1,none⟩ v).setCell ⟨b,2,none⟩ r).heap[b]? =some (.cells #[u,v,r] t (0,0)):=by
 have h3:(((w1.setCell ⟨b,0,none⟩ u).setCell ⟨b,1,none⟩ v).setCell ⟨b,2,none⟩ r).heap[b]? =some (.cells #[u,v,r] t (0,0)):=by
  simp[World.setCell,Array.getElem?_modify,hb]
 have hown:∀g,vb1.ownBlock=some g->g≠b:=fun g hg e=>xy_ h.mach.own hb hty (by rw[hg,e])
 refine⟨⟨⟨((h.mach.blk.setOther s_ _).setOther s_ _).setOther s_ _,bb_ (bb_ (bb_ h.mach.own _ _ hown) _ _ hown) _ _ hown,h.mach.lb,h.mach.lr⟩,h.fresh,h.behs,h.rdrs,((h.touch.set _ _ (.inr hw)).set _ _ (.inr hw)).set _ _ (.inr hw),h.own⟩,h3⟩
theorem aar_ (L:List Nd)(gn cap i bm:Nat)(vb:Value)(n:Nat)(beh rdr:Nat->Nat)(w:World)(sz:Nat)(S:Nat->Bool)(le co:Nat)(en:Bool)(o t:Nat)(hd:L[i]? =some ⟨0,sz,S,le,co,en,o,t⟩)(hin:er_ w gn bm L vb n beh rdr):
 Calls prog 143 #[.pointer (some ⟨bm,0,none⟩),.slice (some ⟨gn,0,none⟩) L.length cap,.int .i64 (i:Int)] w (g9_ bm vb n beh rdr .none w):=by
 have hlt:i<L.length:=(List.getElem?_eq_some_iff.1 hd).1;have hbm:bm<w.heap.size:=hin.mach.blk.lt;have hgn:gn<w.heap.size:=by have:=hin.ahead;omega
 have hgne:¬gn=w.heap.size:=o_;have NC:=hin.nod i _ hd;have n0:=NC 0 o_;have n1:=NC 1 o_;have n2:=NC 2 o_;have n3:=NC 3 o_;have n4:=NC 4 o_;have n5:=NC 5 o_;have n6:=NC 6 o_;have n7:=NC 7 o_;have n8:=NC 8 o_;have n9:=NC 9 o_;have n10:=NC 10 o_;have n11:=NC 11 o_;have n12:=NC 12 o_;have n13:=NC 13 o_;have n14:=NC 14 o_;simp[nagg]at n0 n1 n2 n3 n4 n5 n6 n7 n8 n9 n10 n11 n12 n13 n14;clear NC;obtain⟨W,hW,BW,b0,b1⟩:=n2__ w #[.bool false,.int .i64 0,.int .i64 0] 187 (nagg ⟨0,sz,S,le,co,en,o,t⟩) 132;have hWs:W.heap.size=w.heap.size+1+1:=by rw[hW];simp
 have hin1:=hin.below BW;have KC:=d2_ b1;have k0:=KC 0 o_;simp[nagg]at k0;clear KC;unfold nagg at hW;simp only[show((0:Nat):Int)=0 from rfl,show((1:Nat):Int)=1 from rfl,show((2:Nat):Int)=2 from rfl,show((3:Nat):Int)=3 from rfl,show((4:Nat):Int)=4 from rfl]at hW;go_enter func143,ntmps143;go_upto_region 2 with fail;rw[<-hW];clear hW n0 n1 n2 n3 n4 n5 n6 n7 n8 n9 n10 n11 n12 n13 n14;have hL:Lays bm vb n beh rdr w vb n beh rdr W:=(Lays.refl hin.mach hin.fresh).grow BW;obtain⟨q0,q1,q2,p0,p1,p2⟩:=ak_ b0;obtain⟨hL9,hb9⟩:=f1_ hL b0 lr__ o_ d_ (.bool true) (.int .i64 0) (.int .i64 0);obtain⟨r0,r1,r2,_,_,_⟩:=ak_ hb9;have HR0:Hid _:=r0;have HR1:Hid _:=r1;have HR2:Hid _:=r2;clear r0 r1 r2 hb9;go_wp2_with fail;have r0:=HR0.out;have r1:=HR1.out;have r2:=HR2.out;refine bodyPost_ret (v:= .agg #[.bool true,.int .i64 0,.int .i64 0]) (by simp[results,results143,go_sem,r0,r1,r2]) rfl ?_;exact⟨true,0,0,vb,beh,rdr,rfl,hL9,a4_.nothing rdr beh n⟩
theorem adn_ (L:List Nd)(gn cap i bm:Nat)(vb:Value)(n:Nat)(beh rdr:Nat->Nat)(w:World)(sz:Nat)(S:Nat->Bool)(le co:Nat)(en:Bool)(o t:Nat)(hd:L[i]? =some ⟨1,sz,S,le,co,en,o,t⟩)(hin:er_ w gn bm L vb n beh rdr)(hn:n<11):
 Calls prog 143 #[.pointer (some ⟨bm,0,none⟩),.slice (some ⟨gn,0,none⟩) L.length cap,.int .i64 (i:Int)] w (g9_ bm vb n beh rdr (.one S) w):=by
 have hlt:i<L.length:=(List.getElem?_eq_some_iff.1 hd).1;have hbm:bm<w.heap.size:=hin.mach.blk.lt;have hgn:gn<w.heap.size:=by have:=hin.ahead;omega
 have hgne:¬gn=w.heap.size:=o_;have NC:=hin.nod i _ hd;have n0:=NC 0 o_;have n1:=NC 1 o_;have n2:=NC 2 o_;have n3:=NC 3 o_;have n4:=NC 4 o_;have n5:=NC 5 o_;have n6:=NC 6 o_;have n7:=NC 7 o_;have n8:=NC 8 o_;have n9:=NC 9 o_;have n10:=NC 10 o_;have n11:=NC 11 o_;have n12:=NC 12 o_;have n13:=NC 13 o_;have n14:=NC 14 o_;simp[nagg]at n0 n1 n2 n3 n4 n5 n6 n7 n8 n9 n10 n11 n12 n13 n14;clear NC;obtain⟨W,hW,BW,b0,b1⟩:=n2__ w #[.bool false,.int .i64 0,.int .i64 0] 187 (nagg ⟨1,sz,S,le,co,en,o,t⟩) 132;have hWs:W.heap.size=w.heap.size+1+1:=by rw[hW];simp
 have hin1:=hin.below BW;have KC:=d2_ b1;have k0:=KC 0 o_;have k2:=KC 2 o_;have k3:=KC 3 o_;have k4:=KC 4 o_;have k5:=KC 5 o_;have k6:=KC 6 o_;have k7:=KC 7 o_;have k8:=KC 8 o_;have k9:=KC 9 o_;simp[nagg]at k0 k2 k3 k4 k5 k6 k7 k8 k9;clear KC;unfold nagg at hW;simp only[show((0:Nat):Int)=0 from rfl,show((1:Nat):Int)=1 from rfl,show((2:Nat):Int)=2 from rfl,show((3:Nat):Int)=3 from rfl,show((4:Nat):Int)=4 from rfl]at hW;go_enter func143,ntmps143;go_upto_region 2 with fail;rw[<-hW];clear hW n0 n1 n2 n3 n4 n5 n6 n7 n8 n9 n10 n11 n12 n13 n14;have HC:=n5_ bm vb n beh rdr S W hn hin1.mach;unfold ap_ at HC;go_wp2_with fail;refine HC.mono ?_;clear HC;rintro e w1 ⟨rfl,vb',hm1,ht1,ho1⟩;have hz1:=ht1.size;have bb:=cc_ hin1.mach ht1 b0 o_ d_;have hb':∀p,p<n->(if p=n then 0 else beh p)=beh p:=fun p hp=>if_neg o_
 have hb2:∀(x c q:Nat),(if S c then rdr c|||2^n else rdr c).testBit q=(if q=n then(S c||(rdr c).testBit n)else(rdr c).testBit q):=by
  intro x c q;by_cases hq:q=n
  . subst hq;rw[if_pos rfl];cases S c
    . simp
    . simp[Nat.testBit_or,Nat.testBit_two_pow]
  . rw[if_neg hq];cases S c
    . simp
    . have:¬n=q:=fun e=>hq e.symm
      simp[Nat.testBit_or,Nat.testBit_two_pow,this]
 have hL:Lays bm vb n beh rdr w vb' (n+1) (fun p=>if p=n then 0 else beh p) (fun c=>if S c then rdr c|||2^n else rdr c) w1:=by
  refine Lays.pre ⟨hm1,fun c q hq=> ?_,fun p hp=>hb' p hp,fun p c hp=> ?_,ht1,ho1⟩ BW
  . rw[hb2 0 c q,if_neg o_];exact hin.fresh c q o_
  . rw[hb2 0 c p,if_neg o_]
 have hS:a4_ (fun c=>if S c then rdr c|||2^n else rdr c) (fun p=>if p=n then 0 else beh p) n (n+1) false (2^n) (2^n) (Pat.one S).lang:=by
  refine a4_.spot i_ (fun c=> ?_);rw[hb2 0 c n,if_pos rfl,hin.fresh c n lr__];simp
 obtain⟨pw,HPW⟩:∃x,Hid (2^n=x):=⟨2^n,rfl⟩;have HL:=hi__ hL;have HS:=hi__ hS;clear hb2 hb' hS hL hm1 ht1 ho1 hin1;rw[HPW.out];obtain⟨q0,q1,q2,p0,p1,p2⟩:=ak_ bb;obtain⟨hL9,hb9⟩:=f1_ HL.out bb lr__ o_ d_ (.bool false) (.int .i64 (pw:Int)) (.int .i64 (pw:Int));obtain⟨r0,r1,r2,_,_,_⟩:=ak_ hb9;have HR0:Hid _:=r0;have HR1:Hid _:=r1;have HR2:Hid _:=r2;clear r0 r1 r2 hb9;go_wp2_with fail;have r0:=HR0.out;have r1:=HR1.out;have r2:=HR2.out;refine bodyPost_ret (v:= .agg #[.bool false,.int .i64 (pw:Int),.int .i64 (pw:Int)]) (by simp[results,results143,go_sem,r0,r1,r2]) rfl ?_;refine⟨false,2^n,2^n,vb',_,_,by rw[HPW.out],hL9,HS.out⟩
theorem xz_ (a b:Pat)(HA:LayC a)(HB:LayC b)(L:List Nd)(gn cap i bm:Nat)(vb:Value)(n:Nat)(beh rdr:Nat->Nat)(w:World)(sz:Nat)(S:Nat->Bool)(le co:Nat)(en:Bool)(o t:Nat)(hd:L[i]? =some ⟨2,sz,S,le,co,en,o,t⟩)(ha:be_ L o a)(hb:be_ L t b)(hin:er_ w gn bm L vb n beh rdr)(hn:n+(a.size+b.size)<=11):
 Calls prog 143 #[.pointer (some ⟨bm,0,none⟩),.slice (some ⟨gn,0,none⟩) L.length cap,.int .i64 (i:Int)] w (g9_ bm vb n beh rdr (.chain a b) w):=by
 have hlt:i<L.length:=(List.getElem?_eq_some_iff.1 hd).1;have hbm:bm<w.heap.size:=hin.mach.blk.lt;have hgn:gn<w.heap.size:=by have:=hin.ahead;omega
 have hgne:¬gn=w.heap.size:=o_;have NC:=hin.nod i _ hd;have n0:=NC 0 o_;have n1:=NC 1 o_;have n2:=NC 2 o_;have n3:=NC 3 o_;have n4:=NC 4 o_;have n5:=NC 5 o_;have n6:=NC 6 o_;have n7:=NC 7 o_;have n8:=NC 8 o_;have n9:=NC 9 o_;have n10:=NC 10 o_;have n11:=NC 11 o_;have n12:=NC 12 o_;have n13:=NC 13 o_;have n14:=NC 14 o_;simp[nagg]at n0 n1 n2 n3 n4 n5 n6 n7 n8 n9 n10 n11 n12 n13 n14;clear NC;obtain⟨W,hW,BW,b0,b1⟩:=n2__ w #[.bool false,.int .i64 0,.int .i64 0] 187 (nagg ⟨2,sz,S,le,co,en,o,t⟩) 132;have hWs:W.heap.size=w.heap.size+1+1:=by rw[hW];simp
 have hin1:=hin.below BW;have KC:=d2_ b1;have k0:=KC 0 o_;have k13:=KC 13 o_;have k14:=KC 14 o_;simp[nagg]at k0 k13 k14;clear KC;unfold nagg at hW;simp only[show((0:Nat):Int)=0 from rfl,show((1:Nat):Int)=1 from rfl,show((2:Nat):Int)=2 from rfl,show((3:Nat):Int)=3 from rfl,show((4:Nat):Int)=4 from rfl]at hW;go_enter func143,ntmps143;go_upto_region 2 with fail;rw[<-hW];clear hW n0 n1 n2 n3 n4 n5 n6 n7 n8 n9 n10 n11 n12 n13 n14;have HC:=HA L gn cap o bm vb n beh rdr W ha hin1 o_;go_wp2_with fail;refine HC.mono ?_;clear HC;rintro e w1 ⟨e1,F1,L1,vb1,beh1,rdr1,rfl,hl1,hs1⟩;have c0:=cc_ hin1.mach hl1.touch b0 o_ d_;have c1:=cc_ hin1.mach hl1.touch b1 o_ d_;have hz1:=hl1.touch.size;obtain⟨W1,hW1,BW1,-,d2⟩:=nw__ w1 #[.bool e1,.int .i64 (F1:Int),.int .i64 (L1:Int)] 187;have hWs1:W1.heap.size=w1.heap.size+1:=by rw[hW1];simp
 have hL1:Lays bm vb n beh rdr w vb1 (n+a.size) beh1 rdr1 W1:=(hl1.pre BW).grow BW1;have hin2:er_ W1 gn bm L vb1 (n+a.size) beh1 rdr1:=hin.laid hL1 o_;have d0:=(BW1.block _ (ac_ c0)).trans c0;have d1:=(BW1.block _ (ac_ c1)).trans c1;have KC:=d2_ d1;have k14':=KC 14 o_;have k13':=KC 13 o_;simp[nagg]at k14' k13';clear KC k0 k13 k14 b0 b1 c0 c1;have HC:=HB L gn cap t bm vb1 (n+a.size) beh1 rdr1 W1 hb hin2 o_;go_upto_region 8 with fail;rw[<-hW1];clear hW1;go_wp2_with fail;refine HC.mono ?_;clear HC;rintro e w2 ⟨e2,F2,L2,vb2,beh2,rdr2,rfl,hl2,hs2⟩;have f0:=cc_ hin2.mach hl2.touch d0 o_ d_;have f2:=cc_ hin2.mach hl2.touch d2 o_ d_;have hz2:=hl2.touch.size;obtain⟨W2,hW2,BW2,-,g3⟩:=nw__ w2 #[.bool e2,.int .i64 (F2:Int),.int .i64 (L2:Int)] 187;have hWs2:W2.heap.size=w2.heap.size+1:=by rw[hW2];simp
 have hL2:Lays bm vb n beh rdr w vb2 (n+a.size+b.size) beh2 rdr2 W2:=hL1.trans (hl2.grow BW2) o_;have g0:=(BW2.block _ (ac_ f0)).trans f0;have g2:=(BW2.block _ (ac_ f2)).trans f2;have hs1':=hs1.laid hl2;have hF1:=hs1'.F_lt o_;have hLL1:=hs1'.L_lt o_;have hF2:=hs2.F_lt o_;have hLL2:=hs2.L_lt o_;clear d0 d1 d2 k13' k14' f0 f2;obtain⟨s0,s1,s2,_,_,_⟩:=ak_ g2;obtain⟨u0,u1,u2,_,_,_⟩:=ak_ g3;obtain⟨gb,cap2,rfl⟩:=hL2.mach.slice (by have:=hin.pos;omega);have HC:=hp_ bm gb (n+a.size+b.size) cap2 beh2 rdr2 e1 e2 F1 L1 F2 L2 W2 o_ hL2.mach hF1 hLL1 hF2 hLL2;obtain⟨F3,HF3⟩:=hx__ (if e1 then F1|||F2 else F1);obtain⟨L3,HL3⟩:=hx__ (if e2 then L2|||L1 else L2);rw[HF3.out,HL3.out]at HC;have HST:Hid (a4_ rdr2 (bw_ beh2 L1 F2) n (n+a.size+b.size) (e1&&e2) F3 L3 (Cat a.lang b.lang)):=by
  have:=hs1'.chain hs2;rw[HF3.out,HL3.out]at this;exact this
 obtain⟨e3,HE3⟩:=hx__ (e1&&e2);rw[HE3.out]at HC HST;go_upto_region 9 with fail;rw[<-hW2];clear hW2;go_wp2_with fail;refine HC.mono ?_;clear HC;rintro e w3 ⟨rfl,hm3,ht3⟩;have hL3:Lays bm vb n beh rdr w (.slice (some ⟨gb,0,none⟩) (n+a.size+b.size) cap2) (n+a.size+b.size) (bw_ beh2 L1 F2) rdr2 w3:=hL2.linked hm3 ht3 (fun p hp=>(hs1'.la p hp).1);have h0:=cc_ hL2.mach (f0_ ht3) g0 o_ d_;clear hm3 ht3 hs1 hs2 hs1' hl1 hl2 g0 g2 g3 s0 s1 s2 u0 u1 u2 hin1 hin2;obtain⟨q0,q1,q2,p0,p1,p2⟩:=ak_ h0;obtain⟨hL9,hb9⟩:=f1_ hL3 h0 lr__ o_ d_ (.bool e3) (.int .i64 (F3:Int)) (.int .i64 (L3:Int));obtain⟨r0,r1,r2,_,_,_⟩:=ak_ hb9;have HR0:Hid _:=r0;have HR1:Hid _:=r1;have HR2:Hid _:=r2;clear r0 r1 r2 hb9;go_wp2_with fail;have r0:=HR0.out;have r1:=HR1.out;have r2:=HR2.out;refine bodyPost_ret (v:= .agg #[.bool e3,.int .i64 (F3:Int),.int .i64 (L3:Int)]) (by simp[results,results143,go_sem,r0,r1,r2]) rfl ?_;have hsz:n+(Pat.chain a b).size=n+a.size+b.size:=by simp only[Pat.size];omega
 exact⟨e3,F3,L3,_,_,_,rfl,by rw[hsz];exact hL9,by rw[hsz];exact HST.out⟩
theorem ado_ (a b:Pat)(HA:LayC a)(HB:LayC b)(L:List Nd)(gn cap i bm:Nat)(vb:Value)(n:Nat)(beh rdr:Nat->Nat)(w:World)(sz:Nat)(S:Nat->Bool)(le co:Nat)(en:Bool)(o t:Nat)(hd:L[i]? =some ⟨3,sz,S,le,co,en,o,t⟩)(ha:be_ L o a)(hb:be_ L t b)(hin:er_ w gn bm L vb n beh rdr)(hn:n+(a.size+b.size)<=11):
 Calls prog 143 #[.pointer (some ⟨bm,0,none⟩),.slice (some ⟨gn,0,none⟩) L.length cap,.int .i64 (i:Int)] w (g9_ bm vb n beh rdr (.alt a b) w):=by
 have hlt:i<L.length:=(List.getElem?_eq_some_iff.1 hd).1;have hbm:bm<w.heap.size:=hin.mach.blk.lt;have hgn:gn<w.heap.size:=by have:=hin.ahead;omega
 have hgne:¬gn=w.heap.size:=o_;have NC:=hin.nod i _ hd;have n0:=NC 0 o_;have n1:=NC 1 o_;have n2:=NC 2 o_;have n3:=NC 3 o_;have n4:=NC 4 o_;have n5:=NC 5 o_;have n6:=NC 6 o_;have n7:=NC 7 o_;have n8:=NC 8 o_;have n9:=NC 9 o_;have n10:=NC 10 o_;have n11:=NC 11 o_;have n12:=NC 12 o_;have n13:=NC 13 o_;have n14:=NC 14 o_;simp[nagg]at n0 n1 n2 n3 n4 n5 n6 n7 n8 n9 n10 n11 n12 n13 n14;clear NC;obtain⟨W,hW,BW,b0,b1⟩:=n2__ w #[.bool false,.int .i64 0,.int .i64 0] 187 (nagg ⟨3,sz,S,le,co,en,o,t⟩) 132;have hWs:W.heap.size=w.heap.size+1+1:=by rw[hW];simp
 have hin1:=hin.below BW;have KC:=d2_ b1;have k0:=KC 0 o_;have k13:=KC 13 o_;have k14:=KC 14 o_;simp[nagg]at k0 k13 k14;clear KC;unfold nagg at hW;simp only[show((0:Nat):Int)=0 from rfl,show((1:Nat):Int)=1 from rfl,show((2:Nat):Int)=2 from rfl,show((3:Nat):Int)=3 from rfl,show((4:Nat):Int)=4 from rfl]at hW;go_enter func143,ntmps143;go_upto_region 2 with fail;rw[<-hW];clear hW n0 n1 n2 n3 n4 n5 n6 n7 n8 n9 n10 n11 n12 n13 n14;have HC:=HA L gn cap o bm vb n beh rdr W ha hin1 o_;go_wp2_with fail;refine HC.mono ?_;clear HC;rintro e w1 ⟨e1,F1,L1,vb1,beh1,rdr1,rfl,hl1,hs1⟩;have c0:=cc_ hin1.mach hl1.touch b0 o_ d_;have c1:=cc_ hin1.mach hl1.touch b1 o_ d_;have hz1:=hl1.touch.size;obtain⟨W1,hW1,BW1,-,d2⟩:=nw__ w1 #[.bool e1,.int .i64 (F1:Int),.int .i64 (L1:Int)] 187;have hWs1:W1.heap.size=w1.heap.size+1:=by rw[hW1];simp
 have hL1:Lays bm vb n beh rdr w vb1 (n+a.size) beh1 rdr1 W1:=(hl1.pre BW).grow BW1;have hin2:er_ W1 gn bm L vb1 (n+a.size) beh1 rdr1:=hin.laid hL1 o_;have d0:=(BW1.block _ (ac_ c0)).trans c0;have d1:=(BW1.block _ (ac_ c1)).trans c1;have KC:=d2_ d1;have k14':=KC 14 o_;have k13':=KC 13 o_;simp[nagg]at k14' k13';clear KC k0 k13 k14 b0 b1 c0 c1;have HC:=HB L gn cap t bm vb1 (n+a.size) beh1 rdr1 W1 hb hin2 o_;go_upto_region 12 with fail;rw[<-hW1];clear hW1;go_wp2_with fail;refine HC.mono ?_;clear HC;rintro e w2 ⟨e2,F2,L2,vb2,beh2,rdr2,rfl,hl2,hs2⟩;have f0:=cc_ hin2.mach hl2.touch d0 o_ d_;have f2:=cc_ hin2.mach hl2.touch d2 o_ d_;have hz2:=hl2.touch.size;obtain⟨W2,hW2,BW2,-,g3⟩:=nw__ w2 #[.bool e2,.int .i64 (F2:Int),.int .i64 (L2:Int)] 187;have hWs2:W2.heap.size=w2.heap.size+1:=by rw[hW2];simp
 have hL2:Lays bm vb n beh rdr w vb2 (n+a.size+b.size) beh2 rdr2 W2:=hL1.trans (hl2.grow BW2) o_;have g0:=(BW2.block _ (ac_ f0)).trans f0;have g2:=(BW2.block _ (ac_ f2)).trans f2;have hs1':=hs1.laid hl2;have hF1:=hs1'.F_lt o_;have hLL1:=hs1'.L_lt o_;have hF2:=hs2.F_lt o_;have hLL2:=hs2.L_lt o_;clear d0 d1 d2 k13' k14' f0 f2;obtain⟨s0,s1,s2,_,_,_⟩:=ak_ g2;obtain⟨u0,u1,u2,_,_,_⟩:=ak_ g3;have ho1:=e4_ F1 F2 hF1 hF2;have ho2:=e4_ L1 L2 hLL1 hLL2;have HST:Hid (a4_ rdr2 beh2 n (n+a.size+b.size) (e1||e2) (F1|||F2) (L1|||L2) (fun x=>a.lang x\/b.lang x)):=hs1'.alt hs2;obtain⟨F3,HF3⟩:=hx__ (F1|||F2);obtain⟨L3,HL3⟩:=hx__ (L1|||L2);rw[HF3.out]at ho1 HST;rw[HL3.out]at ho2 HST;clear hs1 hs2 hs1' hl1 hl2 g2 g3 hin1 hin2;have na:¬w.heap.size=w2.heap.size:=o_;have nb:¬w1.heap.size=w2.heap.size:=o_;obtain⟨q0,q1,q2,p0,p1,p2⟩:=ak_ g0;obtain⟨hL9,hb9⟩:=f1_ hL2 g0 lr__ o_ d_ (.bool (e1||e2)) (.int .i64 (F3:Int)) (.int .i64 (L3:Int));obtain⟨r0,r1,r2,_,_,_⟩:=ak_ hb9;have HR0:Hid _:=r0;have HR1:Hid _:=r1;have HR2:Hid _:=r2;clear r0 r1 r2 hb9;go_upto_region 13 with fail;rw[<-hW2];clear hW2;cases e1
 . simp only[Bool.false_or]at*;go_wp2_with fail;have r0:=HR0.out;have r1:=HR1.out;have r2:=HR2.out;refine bodyPost_ret (v:= .agg #[.bool e2,.int .i64 (F3:Int),.int .i64 (L3:Int)]) (by simp[results,results143,go_sem,r0,r1,r2]) rfl ?_;have hsz:n+(Pat.alt a b).size=n+a.size+b.size:=by simp only[Pat.size];omega
   exact⟨e2,F3,L3,_,_,_,rfl,by rw[hsz];exact hL9,by rw[hsz];exact HST.out⟩
 . simp only[Bool.true_or]at*;go_wp2_with fail;have r0:=HR0.out;have r1:=HR1.out;have r2:=HR2.out;refine bodyPost_ret (v:= .agg #[.bool true,.int .i64 (F3:Int),.int .i64 (L3:Int)]) (by simp[results,results143,go_sem,r0,r1,r2]) rfl ?_;have hsz:n+(Pat.alt a b).size=n+a.size+b.size:=by simp only[Pat.size];omega
   exact⟨true,F3,L3,_,_,_,rfl,by rw[hsz];exact hL9,by rw[hsz];exact HST.out⟩
theorem aas_ (bm gb n cap:Nat)(beh rdr:Nat->Nat)(L F:Nat)(w:World)(hn:n<=11)(h:cg_ w bm (.slice (some ⟨gb,0,none⟩) n cap) n beh rdr)(hL:L<2048)(hF:F<2048):
 Calls prog 172 #[.pointer (some ⟨bm,0,none⟩),.int .i64 L,.int .i64 F] w fun e w'=>e= .returned (.tuple #[])/\cg_ w' bm (.slice (some ⟨gb,0,none⟩) n cap) n (bw_ beh L F) rdr/\ab_ (fun b=>b=gb) w w':=by
 have x0:=h.blk.cell (i:=0) o_;simp only[if_true]at x0;have hgb:=h.own.lt gb rfl;refine(vb_ bm (bm+1) gb n cap beh L F w hn hL hF h.lb x0 o_ h.own).mono ?_;rintro e w1 ⟨rfl,hT,hO⟩;exact⟨rfl,⟨h.blk.of_block (hT.block _ h.blk.lt (fun e=>by have:=hgb.1;omega)),hO,rq_ hF h.lb,h.lr⟩,hT⟩
structure LcSt (a:Pat)(lo:Nat)(en:Bool)(w:World)(bm:Nat)(vb:Value)(n:Nat)(beh rdr:Nat->Nat)(D:Nd)(wr:World)(i:Nat)(vbi:Value)(behi rdri:Nat->Nat)(em:Bool)(F La:Nat):Prop where
 lays:Lays bm vb n beh rdr w vbi (n+a.size*i) behi rdri wr
 str:a4_ rdri behi n (n+a.size*i) em F La (d4_ a.lang lo en i)
 nb:wr.heap[w.heap.size]? =some (.cells (nagg D) 132 (0,0))
 rb:wr.heap[w.heap.size+1]? =some (.cells #[.bool false,.int .i64 0,.int .i64 0] 187 (0,0))
 wb:wr.heap[w.heap.size+1+1]? =some (.cells #[.bool em,.int .i64 (F:Int),.int .i64 (La:Int)] 187 (0,0))
theorem LcSt.next {a:Pat}{lo:Nat}{en:Bool}{w:World}{bm:Nat}{vb:Value}{n:Nat}{beh rdr:Nat->Nat}{D:Nd}{wr:World}{i:Nat}{vbi:Value}{behi rdri:Nat->Nat}{em:Bool}{F La:Nat}(h:LcSt a lo en w bm vb n beh rdr D wr i vbi behi rdri em F La)
 (hbm:bm<w.heap.size) {W1 w3:World} {gb cap1:Nat} {beh1 rdr1:Nat->Nat} {e2:Bool} {F1 L1 F3 L3:Nat} {e3:Bool}
 (hL:Lays bm vb n beh rdr w (.slice (some ⟨gb,0,none⟩) (n+a.size*i+a.size) cap1) (n+a.size*i+a.size) beh1 rdr1 W1)
 (hs:a4_ rdr1 beh1 (n+a.size*i) (n+a.size*i+a.size) e2 F1 L1 (Copy a.lang lo i en)) (hs0:a4_ rdr1 beh1 n (n+a.size*i) em F La (d4_ a.lang lo en i))
 (b0:W1.heap[w.heap.size]? =some (.cells (nagg D) 132 (0,0))) (b1:W1.heap[w.heap.size+1]? =some (.cells #[.bool false,.int .i64 0,.int .i64 0] 187 (0,0))) (b2:W1.heap[w.heap.size+1+1]? =some (.cells #[.bool em,.int .i64 (F:Int),.int .i64 (La:Int)] 187 (0,0)))
 (hm3:cg_ w3 bm (.slice (some ⟨gb,0,none⟩) (n+a.size*i+a.size) cap1) (n+a.size*i+a.size) (bw_ beh1 La F1) rdr1) (ht3:ab_ (fun b=>b=gb) W1 w3)
 (hF3:(if em then F|||F1 else F)=F3) (hL3:(if e2 then L1|||La else L1)=L3) (he3:(em&&e2)=e3):
 w3.heap[w.heap.size+1+1]? =some (.cells #[.bool em,.int .i64 (F:Int),.int .i64 (La:Int)] 187 (0,0))/\
 LcSt a lo en w bm vb n beh rdr D (((w3.setCell ⟨w.heap.size+1+1,0,none⟩ (.bool e3)).setCell ⟨w.heap.size+1+1,1,none⟩ (.int .i64 (F3:Int))).setCell ⟨w.heap.size+1+1,2,none⟩ (.int .i64 (L3:Int))) (i+1) (.slice (some ⟨gb,0,none⟩) (n+a.size*i+a.size) cap1) (bw_ beh1 La F1) rdr1 e3 F3 L3:=by
 have hsz:n+a.size*(i+1)=n+a.size*i+a.size:=by rw[Nat.mul_succ];omega
 have hLL:Lays bm vb n beh rdr w (.slice (some ⟨gb,0,none⟩) (n+a.size*i+a.size) cap1) (n+a.size*i+a.size) (bw_ beh1 La F1) rdr1 w3:=hL.linked hm3 ht3 (fun p hp=>(hs0.la p hp).1);have c0:=cc_ hL.mach (f0_ ht3) b0 o_ d_;have c1:=cc_ hL.mach (f0_ ht3) b1 o_ d_;have c2:=cc_ hL.mach (f0_ ht3) b2 o_ d_;obtain⟨h9,hb9⟩:=f1_ hLL c2 o_ o_ d_ (.bool e3) (.int .i64 (F3:Int)) (.int .i64 (L3:Int));refine⟨c2,⟨by rw[hsz];exact h9, ?_, ?_, ?_,hb9⟩⟩
 . rw[hsz];have:=hs0.chain hs;rw[hF3,hL3,he3]at this;exact this
 . exact aj_ (aj_ (aj_ c0 l_) l_) l_
 . exact aj_ (aj_ (aj_ c1 l_) l_) l_
theorem rr_ (a:Pat)(HA:LayC a)(L:List Nd)(gn cap bm:Nat)(vb:Value)(n:Nat)(beh rdr:Nat->Nat)(w:World)(kind:Nat)(S:Nat->Bool)(lo co:Nat)(en:Bool)(ix t:Nat)(ha:be_ L ix a)(hin:er_ w gn bm L vb n beh rdr)(hn:n+a.size*co<=11):
 Calls prog 171 #[.pointer (some ⟨bm,0,none⟩),.slice (some ⟨gn,0,none⟩) L.length cap,.agg (nagg ⟨kind,a.size*co,S,lo,co,en,ix,t⟩)] w (g9_ bm vb n beh rdr (.rep a lo co en) w):=by
 have hbm:bm<w.heap.size:=hin.mach.blk.lt;obtain⟨W,hW,BW,b0,b1,b2⟩:=n3__ w (nagg ⟨kind,a.size*co,S,lo,co,en,ix,t⟩) 132 #[.bool false,.int .i64 0,.int .i64 0] 187 #[.bool true,.int .i64 0,.int .i64 0] 187;have hWs:W.heap.size=w.heap.size+1+1+1:=by rw[hW];simp
 obtain⟨psz,HPS⟩:=hx__ (a.size*co);rw[HPS.out]at hW b0 hn ⊢;have KC:=d2_ b0;have k1:=KC 1 o_;simp[nagg]at k1;clear KC;have hL0:Lays bm vb n beh rdr w vb n beh rdr W:=(Lays.refl hin.mach hin.fresh).grow BW;unfold nagg at hW;by_cases hz:psz=0
 . have hz2:((psz:Int)==0)=true:=by simp[hz]
   have HZ:Hid (psz=0):=hz;have HPZ:Hid (a.size*co=0):=by unfold Hid;rw[HPS.out];exact hz
   clear hz;obtain⟨q0,q1,q2,p0,p1,p2⟩:=ak_ b1;obtain⟨y0,y1,y2,_,_,_⟩:=ak_ b2;obtain⟨hL9,hb9⟩:=f1_ hL0 b1 o_ o_ d_ (.bool true) (.int .i64 0) (.int .i64 0);obtain⟨r0,r1,r2,_,_,_⟩:=ak_ hb9;have HR0:Hid _:=r0;have HR1:Hid _:=r1;have HR2:Hid _:=r2;clear r0 r1 r2 hb9;unfold nagg;go_enter func171,ntmps171;go_upto_region 2 with fail;rw[<-hW];clear hW;go_wp2_with fail;have r0:=HR0.out;have r1:=HR1.out;have r2:=HR2.out;refine bodyPost_ret (v:= .agg #[.bool true,.int .i64 0,.int .i64 0]) (by simp[results,results171,go_sem,r0,r1,r2]) rfl ?_;have hsz:n+(Pat.rep a lo co en).size=n:=by simp only[Pat.size];rw[HPZ.out];rfl
   refine⟨true,0,0,vb,beh,rdr,rfl,by rw[hsz];exact hL9, ?_⟩;rw[hsz];exact(a4_.nothing rdr beh n).lcongr (fun x=>(yl_ (.rep a lo co en) HPZ.out x).symm)
 . have hz2:((psz:Int)==0)=false:=s_;have hco:co<=10:=by
    have hp:=hin.pos;have h1:1<=a.size:=by
     rcases Nat.eq_zero_or_pos a.size with h0|h0
     . rw[h0,Nat.zero_mul]at HPS;exact absurd HPS.out.symm hz
     . exact h0
    have h2:1*co<=a.size*co:=Nat.mul_le_mul_right _ h1;rw[HPS.out]at h2;omega
   have HSTART:LcSt a lo en w bm vb n beh rdr ⟨kind,psz,S,lo,co,en,ix,t⟩ W 0 vb beh rdr true 0 0:=by
    refine⟨by rw[Nat.mul_zero];exact hL0, ?_,b0,b1,b2⟩;rw[Nat.mul_zero];exact a4_.nothing rdr beh n
   unfold nagg;go_enter func171,ntmps171;go_upto_region 2 with fail;rw[<-hW];clear hW;go_wp2_with fail;clear k1 b0 b1 b2 hL0 hz2;go_loopw [8,9] (fun i' _ wr=>∃(i:Nat) (vbi:Value) (behi rdri:Nat->Nat) (em:Bool) (F La:Nat),i'= .int .i64 (i:Int)/\i<=co/\LcSt a lo en w bm vb n beh rdr ⟨kind,psz,S,lo,co,en,ix,t⟩ wr i vbi behi rdri em F La) (fun i' _ _=>20 - (intOf i').toNat)
   case atStart=>exact⟨0,vb,beh,rdr,true,0,0,rfl,o_,HSTART⟩
   case round=>
    clear HSTART;obtain⟨i,vbi,behi,rdri,em,F,La,rfl,hi,hS⟩:=hrel;have KC:=d2_ hS.nb;have k10:=KC 10 o_;have k11:=KC 11 o_;have k12:=KC 12 o_;have k13:=KC 13 o_;simp[nagg]at k10 k11 k12 k13;clear KC;by_cases hlt:i<co
    . have hlt2:(i:Int)<(co:Int):=o_;have hmul:a.size*i+a.size<=psz:=by
       rw[<-HPS.out,<-Nat.mul_succ];exact Nat.mul_le_mul_left _ o_
      have hin1:er_ wr gn bm L vbi (n+a.size*i) behi rdri:=hin.laid hS.lays o_;have HC:=HA L gn cap ix bm vbi (n+a.size*i) behi rdri wr ha hin1 o_;have HS:Hid (LcSt a lo en w bm vb n beh rdr ⟨kind,psz,S,lo,co,en,ix,t⟩ wr i vbi behi rdri em F La):=hS;go_wp2_with fail;refine HC.mono ?_;clear HC;rintro e w1 ⟨e1,F1,L1,vb1,beh1,rdr1,rfl,hl1,hs1⟩;have c0:=cc_ hin1.mach hl1.touch hS.nb o_ d_;have c1:=cc_ hin1.mach hl1.touch hS.rb o_ d_;have c2:=cc_ hin1.mach hl1.touch hS.wb o_ d_;have hz1:=hl1.touch.size;have hzr:=hS.lays.touch.size;have hsL:=ac_ c2;have hs0:=hS.str.laid hl1;have hF0:=hs0.F_lt o_;have hLa0:=hs0.L_lt o_;have hF1:=hs1.F_lt o_;have hLa1:=hs1.L_lt o_;have hL1:Lays bm vb n beh rdr w vb1 (n+a.size*i+a.size) beh1 rdr1 w1:=hS.lays.trans hl1 o_;obtain⟨gb,cap1,rfl⟩:=hL1.mach.slice (by have:=hin.pos;omega);have KC:=d2_ c0;have j10:=KC 10 o_;have j12:=KC 12 o_;simp[nagg]at j10 j12;clear KC k10 k11 k12 k13 hS hin1 hl1;have n0:¬w.heap.size=w1.heap.size:=o_;have n1:¬w.heap.size+1=w1.heap.size:=o_;have n2:¬w.heap.size+1+1=w1.heap.size:=o_;have m0:w.heap.size<w1.heap.size:=o_;have m1:w.heap.size+1<w1.heap.size:=o_;have m2:w.heap.size+1+1<w1.heap.size:=o_;by_cases hil:i<lo
      . have hil2:¬(lo:Int)<=(i:Int):=o_;obtain⟨W1,hW1,BW1,-,dp⟩:=nw__ w1 #[.bool e1,.int .i64 (F1:Int),.int .i64 (L1:Int)] 187;have hWs1:W1.heap.size=w1.heap.size+1:=by rw[hW1];simp
        have dn:W1.heap[w.heap.size]? =some (.cells (nagg ⟨kind,psz,S,lo,co,en,ix,t⟩) 132 (0,0)):=by rw[hW1];exact ah_ c0
        have dr:W1.heap[w.heap.size+1]? =some (.cells #[.bool false,.int .i64 0,.int .i64 0] 187 (0,0)):=by rw[hW1];exact ah_ c1
        have dw:W1.heap[w.heap.size+1+1]? =some (.cells #[.bool em,.int .i64 (F:Int),.int .i64 (La:Int)] 187 (0,0)):=by rw[hW1];exact ah_ c2
        have hL2:=hL1.grow BW1;go_upto_region 12 with fail;rw[<-hW1];clear hW1;obtain⟨F3,HF3⟩:=hx__ (if em then F|||F1 else F);obtain⟨L3,HL3⟩:=hx__ (if e1 then L1|||La else L1);obtain⟨e3,HE3⟩:=hx__ (em&&e1);have HC:=hp_ bm gb (n+a.size*i+a.size) cap1 beh1 rdr1 em e1 F La F1 L1 W1 o_ hL2.mach hF0 hLa0 hF1 hLa1;rw[HF3.out,HL3.out,HE3.out]at HC;obtain⟨s0,s1,s2,_,_,_⟩:=ak_ dw;obtain⟨u0,u1,u2,_,_,_⟩:=ak_ dp;go_wp2_with fail;refine HC.mono ?_;clear HC;rintro e w3 ⟨rfl,hm3,ht3⟩;obtain⟨f2,hS3⟩:=HS.out.next hbm hL2 (hs1.copyMust hil) hs0 dn dr dw hm3 ht3 HF3.out HL3.out HE3.out;obtain⟨q0,q1,q2,p0,p1,p2⟩:=ak_ f2;have HS3:Hid _:=hS3;clear hS3 hm3 ht3 s0 s1 s2 u0 u1 u2 dw dp dn dr j10 j12 HS;go_wp2_with fail;go_roundw
        case rel=>exact⟨i+1,_,_,_,_,_,_,by go_num,o_,HS3.out⟩
        case measure=>simp[intOf];omega
      . have hil2:(lo:Int)<=(i:Int):=o_;cases en
        . obtain⟨W1,hW1⟩:=ew__ (w1.alloc (.cells #[.bool true,.int .i64 (F1:Int),.int .i64 (L1:Int)] 187));have BW1:=bw__ hW1;have dp:=hn__ hW1;have hWs1:W1.heap.size=w1.heap.size+1:=by rw[hW1];simp
          have dn:W1.heap[w.heap.size]? =some (.cells (nagg ⟨kind,psz,S,lo,co,false,ix,t⟩) 132 (0,0)):=by rw[hW1];exact ah_ c0
          have dr:W1.heap[w.heap.size+1]? =some (.cells #[.bool false,.int .i64 0,.int .i64 0] 187 (0,0)):=by rw[hW1];exact ah_ c1
          have dw:W1.heap[w.heap.size+1+1]? =some (.cells #[.bool em,.int .i64 (F:Int),.int .i64 (La:Int)] 187 (0,0)):=by rw[hW1];exact ah_ c2
          have hL2:=hL1.grow BW1;go_upto_region 12 with fail;rw[<-hW1];clear hW1;obtain⟨F3,HF3⟩:=hx__ (if em then F|||F1 else F);obtain⟨L3,HL3⟩:=hx__ (if true then L1|||La else L1);obtain⟨e3,HE3⟩:=hx__ (em&&true);have HC:=hp_ bm gb (n+a.size*i+a.size) cap1 beh1 rdr1 em true F La F1 L1 W1 o_ hL2.mach hF0 hLa0 hF1 hLa1;rw[HF3.out,HL3.out,HE3.out]at HC;obtain⟨s0,s1,s2,_,_,_⟩:=ak_ dw;obtain⟨u0,u1,u2,_,_,_⟩:=ak_ dp;go_wp2_with fail;refine HC.mono ?_;clear HC;rintro e w3 ⟨rfl,hm3,ht3⟩;obtain⟨f2,hS3⟩:=HS.out.next hbm hL2 (hs1.copyOpt hil) hs0 dn dr dw hm3 ht3 HF3.out HL3.out HE3.out;obtain⟨q0,q1,q2,p0,p1,p2⟩:=ak_ f2;have HS3:Hid _:=hS3;clear hS3 hm3 ht3 s0 s1 s2 u0 u1 u2 dw dp dn dr j10 j12 HS;go_wp2_with fail;go_roundw
          case rel=>exact⟨i+1,_,_,_,_,_,_,by go_num,o_,HS3.out⟩
          case measure=>simp[intOf];omega
        . obtain⟨W1,hW1⟩:=ew__ (w1.alloc (.cells #[.bool true,.int .i64 (F1:Int),.int .i64 (L1:Int)] 187));have BW1:=bw__ hW1;have dp:=hn__ hW1;have hWs1:W1.heap.size=w1.heap.size+1:=by rw[hW1];simp
          have dn:W1.heap[w.heap.size]? =some (.cells (nagg ⟨kind,psz,S,lo,co,true,ix,t⟩) 132 (0,0)):=by rw[hW1];exact ah_ c0
          have dr:W1.heap[w.heap.size+1]? =some (.cells #[.bool false,.int .i64 0,.int .i64 0] 187 (0,0)):=by rw[hW1];exact ah_ c1
          have dw:W1.heap[w.heap.size+1+1]? =some (.cells #[.bool em,.int .i64 (F:Int),.int .i64 (La:Int)] 187 (0,0)):=by rw[hW1];exact ah_ c2
          have hL2:=hL1.grow BW1;go_upto_region 11 with fail;rw[<-hW1];clear hW1;have HC:=aas_ bm gb (n+a.size*i+a.size) cap1 beh1 rdr1 L1 F1 W1 o_ hL2.mach hLa1 hF1;obtain⟨u0,u1,u2,_,_,_⟩:=ak_ dp;go_wp2_with fail;refine HC.mono ?_;clear HC;rintro e w2 ⟨rfl,hm2,ht2⟩;have hL2':Lays bm vb n beh rdr w (.slice (some ⟨gb,0,none⟩) (n+a.size*i+a.size) cap1) (n+a.size*i+a.size) (bw_ beh1 L1 F1) rdr1 w2:=hL2.linked hm2 ht2 (fun p hp=>by have:=(hs1.la p hp).1;omega);have hs0':a4_ rdr1 (bw_ beh1 L1 F1) n (n+a.size*i) em F La (d4_ a.lang lo true i):=hs0.later (fun p _ hp=>pv_ (by
           cases hb:L1.testBit p
           . rfl
           . have:=(hs1.la p hb).1;omega)) (fun _ _ _=>rfl)
          have dn2:=cc_ hL2.mach (f0_ ht2) dn o_ d_;have dr2:=cc_ hL2.mach (f0_ ht2) dr o_ d_;have dw2:=cc_ hL2.mach (f0_ ht2) dw o_ d_;have dp2:=cc_ hL2.mach (f0_ ht2) dp o_ d_;have hz2:=ht2.size;clear dn dr dw dp u0 u1 u2 hm2 ht2;have dn:=dn2;have dr:=dr2;have dw:=dw2;have dp:=dp2;clear dn2 dr2 dw2 dp2;obtain⟨F3,HF3⟩:=hx__ (if em then F|||F1 else F);obtain⟨L3,HL3⟩:=hx__ (if true then L1|||La else L1);obtain⟨e3,HE3⟩:=hx__ (em&&true);have HC:=hp_ bm gb (n+a.size*i+a.size) cap1 (bw_ beh1 L1 F1) rdr1 em true F La F1 L1 w2 o_ hL2'.mach hF0 hLa0 hF1 hLa1;rw[HF3.out,HL3.out,HE3.out]at HC;obtain⟨s0,s1,s2,_,_,_⟩:=ak_ dw;obtain⟨u0,u1,u2,_,_,_⟩:=ak_ dp;go_wp2_with fail;refine HC.mono ?_;clear HC;rintro e w3 ⟨rfl,hm3,ht3⟩;obtain⟨f2,hS3⟩:=HS.out.next hbm hL2' (hs1.copyStar hil) hs0' dn dr dw hm3 ht3 HF3.out HL3.out HE3.out;obtain⟨q0,q1,q2,p0,p1,p2⟩:=ak_ f2;have HS3:Hid _:=hS3;clear hS3 hm3 ht3 s0 s1 s2 u0 u1 u2 dw dp dn dr j10 j12 HS;go_wp2_with fail;go_roundw
          case rel=>exact⟨i+1,_,_,_,_,_,_,by go_num,o_,HS3.out⟩
          case measure=>simp[intOf];omega
    . have hlt2:¬(i:Int)<(co:Int):=o_;obtain rfl:i=co:=o_;obtain⟨q0,q1,q2,p0,p1,p2⟩:=ak_ hS.rb;obtain⟨y0,y1,y2,_,_,_⟩:=ak_ hS.wb;obtain⟨hL9,hb9⟩:=f1_ hS.lays hS.rb o_ o_ d_ (.bool em) (.int .i64 (F:Int)) (.int .i64 (La:Int));obtain⟨r0,r1,r2,_,_,_⟩:=ak_ hb9;have HR0:Hid _:=r0;have HR1:Hid _:=r1;have HR2:Hid _:=r2;have HST:Hid _:=hS.str;clear r0 r1 r2 hb9 hS;go_wp2_with fail;have r0:=HR0.out;have r1:=HR1.out;have r2:=HR2.out;refine bodyPost_ret (v:= .agg #[.bool em,.int .i64 (F:Int),.int .i64 (La:Int)]) (by simp[results,results171,go_sem,r0,r1,r2]) rfl ?_;exact⟨em,F,La,vbi,behi,rdri,rfl,hL9,HST.out⟩
theorem adp_ (a:Pat)(HA:LayC a)(L:List Nd)(gn cap i bm:Nat)(vb:Value)(n:Nat)(beh rdr:Nat->Nat)(w:World)(S:Nat->Bool)(lo co:Nat)(en:Bool)(ix t:Nat)(hd:L[i]? =some ⟨4,a.size*co,S,lo,co,en,ix,t⟩)(ha:be_ L ix a)(hin:er_ w gn bm L vb n beh rdr)(hn:n+a.size*co<=11):
 Calls prog 143 #[.pointer (some ⟨bm,0,none⟩),.slice (some ⟨gn,0,none⟩) L.length cap,.int .i64 (i:Int)] w (g9_ bm vb n beh rdr (.rep a lo co en) w):=by
 obtain⟨psz,HPS⟩:=hx__ (a.size*co);rw[HPS.out]at hd;have hlt:i<L.length:=(List.getElem?_eq_some_iff.1 hd).1;have hbm:bm<w.heap.size:=hin.mach.blk.lt;have hgn:gn<w.heap.size:=by have:=hin.ahead;omega
 have hgne:¬gn=w.heap.size:=o_;have NC:=hin.nod i _ hd;have n0:=NC 0 o_;have n1:=NC 1 o_;have n2:=NC 2 o_;have n3:=NC 3 o_;have n4:=NC 4 o_;have n5:=NC 5 o_;have n6:=NC 6 o_;have n7:=NC 7 o_;have n8:=NC 8 o_;have n9:=NC 9 o_;have n10:=NC 10 o_;have n11:=NC 11 o_;have n12:=NC 12 o_;have n13:=NC 13 o_;have n14:=NC 14 o_;simp[nagg]at n0 n1 n2 n3 n4 n5 n6 n7 n8 n9 n10 n11 n12 n13 n14;clear NC;obtain⟨W,hW,BW,b0,b1⟩:=n2__ w #[.bool false,.int .i64 0,.int .i64 0] 187 (nagg ⟨4,psz,S,lo,co,en,ix,t⟩) 132;have hWs:W.heap.size=w.heap.size+1+1:=by rw[hW];simp
 have hin1:=hin.below BW;have KC:=d2_ b1;have k0:=KC 0 o_;have k1:=KC 1 o_;have k2:=KC 2 o_;have k3:=KC 3 o_;have k4:=KC 4 o_;have k5:=KC 5 o_;have k6:=KC 6 o_;have k7:=KC 7 o_;have k8:=KC 8 o_;have k9:=KC 9 o_;have k10:=KC 10 o_;have k11:=KC 11 o_;have k12:=KC 12 o_;have k13:=KC 13 o_;have k14:=KC 14 o_;simp[nagg]at k0 k1 k2 k3 k4 k5 k6 k7 k8 k9 k10 k11 k12 k13 k14;clear KC;unfold nagg at hW;simp only[show((0:Nat):Int)=0 from rfl,show((1:Nat):Int)=1 from rfl,show((2:Nat):Int)=2 from rfl,show((3:Nat):Int)=3 from rfl,show((4:Nat):Int)=4 from rfl]at hW;go_enter func143,ntmps143;go_upto_region 2 with fail;rw[<-hW];clear hW n0 n1 n2 n3 n4 n5 n6 n7 n8 n9 n10 n11 n12 n13 n14;have HC:=rr_ a HA L gn cap bm vb n beh rdr W 4 S lo co en ix t ha hin1 hn;rw[HPS.out]at HC;unfold nagg at HC;simp only[show((4:Nat):Int)=4 from rfl]at HC;go_wp2_with fail;refine HC.mono ?_;clear HC;rintro e w1 ⟨e1,F1,L1,vb1,beh1,rdr1,rfl,hl1,hs1⟩;have c0:=cc_ hin1.mach hl1.touch b0 o_ d_;have hL1:Lays bm vb n beh rdr w vb1 (n+(Pat.rep a lo co en).size) beh1 rdr1 w1:=hl1.pre BW;clear k0 k1 k2 k3 k4 k5 k6 k7 k8 k9 k10 k11 k12 k13 k14 hl1;obtain⟨q0,q1,q2,p0,p1,p2⟩:=ak_ c0;obtain⟨hL9,hb9⟩:=f1_ hL1 c0 lr__ o_ d_ (.bool e1) (.int .i64 (F1:Int)) (.int .i64 (L1:Int));obtain⟨r0,r1,r2,_,_,_⟩:=ak_ hb9;have HR0:Hid _:=r0;have HR1:Hid _:=r1;have HR2:Hid _:=r2;clear r0 r1 r2 hb9;go_wp2_with fail;have r0:=HR0.out;have r1:=HR1.out;have r2:=HR2.out;refine bodyPost_ret (v:= .agg #[.bool e1,.int .i64 (F1:Int),.int .i64 (L1:Int)]) (by simp[results,results143,go_sem,r0,r1,r2]) rfl ?_;exact⟨e1,F1,L1,vb1,beh1,rdr1,rfl,hL9,hs1⟩
theorem adq_ (p:Pat):LayC p:=by
 induction p with
 |none=>
  intro L gn cap i bm vb n beh rdr w h hin hn;cases h with
  |none hd hk hs=>
   rename_i d;obtain⟨k,sz,S,le,co,en,o,t⟩:=d;obtain rfl:k=0:=hk;exact aar_ L gn cap i bm vb n beh rdr w sz S le co en o t hd hin
 |one S=>
  intro L gn cap i bm vb n beh rdr w h hin hn;cases h with
  |one hd hk hs hS=>
   rename_i d;obtain⟨k,sz,S',le,co,en,o,t⟩:=d;obtain rfl:k=1:=hk;obtain rfl:S'=S:=hS;exact adn_ L gn cap i bm vb n beh rdr w sz S' le co en o t hd hin (by simp only[Pat.size]at hn;omega)
 |chain a b iha ihb=>
  intro L gn cap i bm vb n beh rdr w h hin hn;cases h with
  |chain hd hk hs ho ht h1 h2=>
   rename_i d;obtain⟨k,sz,S',le,co,en,o,t⟩:=d;obtain rfl:k=2:=hk;subst ho ht;exact xz_ a b iha ihb L gn cap i bm vb n beh rdr w sz S' le co en o t hd h1 h2 hin hn
 |alt a b iha ihb=>
  intro L gn cap i bm vb n beh rdr w h hin hn;cases h with
  |alt hd hk hs ho ht h1 h2=>
   rename_i d;obtain⟨k,sz,S',le,co,en,o,t⟩:=d;obtain rfl:k=3:=hk;subst ho ht;exact ado_ a b iha ihb L gn cap i bm vb n beh rdr w sz S' le co en o t hd h1 h2 hin hn
 |rep a lo co en iha=>
  intro L gn cap i bm vb n beh rdr w h hin hn;cases h with
  |rep hd hk hs ho hl hc he h1=>
   rename_i d;obtain⟨k,sz,S',le,co',en',o,t⟩:=d;obtain rfl:k=4:=hk;simp only at hs ho hl hc he;subst ho hl hc he hs;exact adp_ a iha L gn cap i bm vb n beh rdr w S' le co' en' o t hd h1 hin hn
end Go.Proofs.YtpngikmcjkjdaaaGreatDoor
