import Derived.Test.YtpngikmcjkjdaaaGreatDoorC11
set_option linter.unusedVariables false
set_option linter.unusedSimpArgs false
set_option maxRecDepth 20000
set_option maxHeartbeats 80000000
namespace Go.Proofs.YtpngikmcjkjdaaaGreatDoor
open Go.RowKit Tryz List Nat
variable {cs:Array Value} {e:Bool} {l:List Nat->Prop} {F L b bm cap gb gn hi i lo n n1 t:Nat} {cj beh1 cw rdr1:Nat->Nat} {S:Nat->Prop} {vb vb1 x y z:Value} {W w w1:World}
theorem um_ (hF:F<2048)(hb:∀i,i<n->cj i<2048)(i:Nat)(hi:i<n):bf_ cj L F i<2048:=by
 unfold bf_;split
 . exact or_lt_two_pow (n:=11) (hb i hi) hF
 . exact hb i hi
theorem ay_ {t:TypeId}(h:w.heap[b]? =some (.cells #[x,y,z] t (0,0))):w.cell? ⟨b,0,none⟩=some x/\w.cell? ⟨b,1,none⟩=some y/\w.cell? ⟨b,2,none⟩=some z/\w.frozen? ⟨b,0,none⟩=false/\w.frozen? ⟨b,1,none⟩=false/\w.frozen? ⟨b,2,none⟩=false:=by
 simp[World.cell?,World.frozen?,h]
theorem on_ (hM:c6_ w1 bm (.slice (some ⟨gb,0,none⟩) n cap) n cj cw)(hT:ε (fun b=>b=gb) w w1)(hbm:bm<w.heap.size)(hgb:gb<w.heap.size){t:TypeId}(hb:w.heap.size<=b)
 (hblk:w1.heap[b]? =some (.cells #[x,y,z] t (0,0))) (u v s:Value) (o:Obj):
 ((((w1.setCell ⟨b,0,none⟩ u).setCell ⟨b,1,none⟩ v).setCell ⟨b,2,none⟩ s).alloc o).cell? ⟨b,0,none⟩=some u/\((((w1.setCell ⟨b,0,none⟩ u).setCell ⟨b,1,none⟩ v).setCell ⟨b,2,none⟩ s).alloc o).cell? ⟨b,1,none⟩=some v/\((((w1.setCell ⟨b,0,none⟩ u).setCell ⟨b,1,none⟩ v).setCell ⟨b,2,none⟩ s).alloc o).cell? ⟨b,2,none⟩=some s/\
 c6_ ((((w1.setCell ⟨b,0,none⟩ u).setCell ⟨b,1,none⟩ v).setCell ⟨b,2,none⟩ s).alloc o) bm (.slice (some ⟨gb,0,none⟩) n cap) n cj cw/\ε (fun b=>b=gb) w ((((w1.setCell ⟨b,0,none⟩ u).setCell ⟨b,1,none⟩ v).setCell ⟨b,2,none⟩ s).alloc o):=by
 have h:(((w1.setCell ⟨b,0,none⟩ u).setCell ⟨b,1,none⟩ v).setCell ⟨b,2,none⟩ s).heap[b]? =some (.cells #[u,v,s] t (0,0)):=by
  simp[World.setCell,Array.getElem?_modify,hblk]
 obtain⟨c,d,f,_,_,_⟩:=ay_ (φ (o:=o) h);have a:=fun g (e:(Value.slice (some (⟨gb,0,none⟩:Addr)) n cap).ownBlock=some g)=>(show g≠b by simp only[Value.ownBlock,Δ]at e;omega)
 refine⟨c,d,f,⟨(((hM.cg.setOther s_ _).setOther s_ _).setOther s_ _).alloc o,(bg_ (bg_ (bg_ hM.own _ _ a) _ _ a) _ _ a).alloc o,hM.lb,hM.lr⟩,(((hT.set _ _ (.inr hb)).set _ _ (.inr hb)).set _ _ (.inr hb)).alloc o⟩
theorem m1_ (bm gb n cap:Nat)(cj cw:Nat->Nat)(e1 e2:Bool)(F1 L1 F2 L2:Nat)(w:World)(hn:n<=11)(h:c6_ w bm (.slice (some ⟨gb,0,none⟩) n cap) n cj cw)(hF1:F1<2048)(hL1:L1<2048)(hF2:F2<2048)(hL2:L2<2048):
 Calls prog 144 #[.pointer (some ⟨bm,0,none⟩),.agg #[.bool e1,.int .i64 F1,.int .i64 L1],.agg #[.bool e2,.int .i64 F2,.int .i64 L2]] w
  fun e w'=>e= .returned (.agg #[.bool (e1&&e2),.int .i64 (((if e1 then F1|||F2 else F1):Nat):Int),.int .i64 (((if e2 then L2|||L1 else L2):Nat):Int)])/\c6_ w' bm (.slice (some ⟨gb,0,none⟩) n cap) n (bf_ cj L1 F2) cw/\ε (fun b=>b=gb) w w':=by
 obtain⟨W,D,m,B,C,I⟩:=fe_ w #[.bool e1,.int .i64 F1,.int .i64 L1] 187 #[.bool e2,.int .i64 F2,.int .i64 L2] 187 #[.bool false,.int .i64 0,.int .i64 0] 187;have S:w.heap.size+1+1<W.heap.size:=by rw[D];simp
 have q:=h.below m;have E:=q.cg.cell (i:=0) o_;simp only[if_true]at E;have c:=(h.own.lt gb rfl);have F:=uc_ bm (bm+1) gb n cap cj L1 F2 W hn hL1 hF2 h.lb E o_ q.own;obtain⟨M,N,O,_,_,_⟩:=ay_ B;obtain⟨P,Q,R,_,_,_⟩:=ay_ C;clear E;go_enter func144,ntmps144;go_upto_region 1 with fail;rw[<-D];clear D;go_wp2_with fail;refine F.mono ?_;clear F;rintro e r ⟨rfl,a,J⟩;have T:=a.size;have t:Hid (c6_ r bm (.slice (some ⟨gb,0,none⟩) n cap) n (bf_ cj L1 F2) cw):=⟨q.cg.of_block (a.block _ q.cg.lt (fun e=>by have:=c.1;omega)),J,um_ hF2 h.lb,h.lr⟩;have u:Hid (ε (fun b=>b=gb) w r):=by
  refine⟨a.os.trans m.os,a.tape.trans m.tape,a.output.trans m.output,by have:=m.size;omega,fun k hk hne=>(a.block k o_ hne).trans (m.block k hk)⟩
 have G:=(a.block _ o_ (fun e=>by have:=c.2;omega)).trans B;have H:=(a.block _ o_ (fun e=>by have:=c.2;omega)).trans C;have A:=(a.block _ o_ (fun e=>by have:=c.2;omega)).trans I;obtain⟨aa,ab,ac,_,_,_⟩:=ay_ G;obtain⟨ad,ae,af,_,_,_⟩:=ay_ H;obtain⟨q0,q1,q2,Y,Z,p2⟩:=ay_ A;have K:=ks_ F1 F2 hF1 hF2;have L:=ks_ L2 L1 hL2 hL1;clear M N O P Q R a J q B C I;obtain⟨o,y⟩:=δ (F1|||F2);obtain⟨p,z⟩:=δ (L2|||L1);rw[y.out]at K;rw[z.out]at L;have U:w.heap.size<r.heap.size:=o_;have V:w.heap.size+1<r.heap.size:=o_;have X:w.heap.size+1+1<r.heap.size:=o_;have s:Hid _:=A;clear G H A;have x:bm<w.heap.size:=h.cg.lt;cases e1
 . cases e2
   . go_wp2_with fail;obtain⟨g,j,l,d,f⟩:=on_ t.out u.out x c.2 (show w.heap.size<=w.heap.size+1+1 by omega) s.out (.bool false) (.int .i64 (F1:Int)) (.int .i64 (L2:Int)) (.cells #[.bool false,.int .i64 (F1:Int),.int .i64 (L2:Int)] 187);refine bodyPost_ret (v:= .agg #[.bool false,.int .i64 (F1:Int),.int .i64 (L2:Int)]) (by simp[results,results144,go_sem,g,j,l]) rfl ?_;exact⟨i_,d,f⟩
   . go_wp2_with fail;obtain⟨g,j,l,d,f⟩:=on_ t.out u.out x c.2 (show w.heap.size<=w.heap.size+1+1 by omega) s.out (.bool false) (.int .i64 (F1:Int)) (.int .i64 (p:Int)) (.cells #[.bool false,.int .i64 (F1:Int),.int .i64 (p:Int)] 187);refine bodyPost_ret (v:= .agg #[.bool false,.int .i64 (F1:Int),.int .i64 (p:Int)]) (by simp[results,results144,go_sem,g,j,l]) rfl ?_;exact⟨by simp[z.out],d,f⟩
 . cases e2
   . go_wp2_with fail;obtain⟨g,j,l,d,f⟩:=on_ t.out u.out x c.2 (show w.heap.size<=w.heap.size+1+1 by omega) s.out (.bool false) (.int .i64 (o:Int)) (.int .i64 (L2:Int)) (.cells #[.bool false,.int .i64 (o:Int),.int .i64 (L2:Int)] 187);refine bodyPost_ret (v:= .agg #[.bool false,.int .i64 (o:Int),.int .i64 (L2:Int)]) (by simp[results,results144,go_sem,g,j,l]) rfl ?_;exact⟨by simp[y.out],d,f⟩
   . go_wp2_with fail;obtain⟨g,j,l,d,f⟩:=on_ t.out u.out x c.2 (show w.heap.size<=w.heap.size+1+1 by omega) s.out (.bool true) (.int .i64 (o:Int)) (.int .i64 (p:Int)) (.cells #[.bool true,.int .i64 (o:Int),.int .i64 (p:Int)] 187);refine bodyPost_ret (v:= .agg #[.bool true,.int .i64 (o:Int),.int .i64 (p:Int)]) (by simp[results,results144,go_sem,g,j,l]) rfl ?_;exact⟨by simp[y.out,z.out],d,f⟩
theorem ε.join {S':Nat->Prop}{w2:World}(h:ε S w w1)(h':ε S' w1 w2)(hs:∀k,k<w.heap.size->S' k->S k):ε S w w2:=
 ⟨h'.os.trans h.os,h'.tape.trans h.tape,h'.output.trans h.output,Nat.le_trans h.size h'.size,fun k hk hn=>(h'.block k (Nat.lt_of_lt_of_le hk h.size) (fun e=>hn (hs k hk e))).trans (h.block k hk hn)⟩
theorem qz_ (h:Bl w w1):ε S w w1:=⟨h.os,h.tape,h.output,h.size,fun k hk _=>h.block k hk⟩
theorem un_ {base e s:Nat}{v:Value}{x:List Value}{fr:Nat×Nat}(h:w.ownsRow base e s v n x)(hb:w.heap[b]? =some (.cells cs t fr))(hne:e≠t):v.ownBlock≠some b:=by
 intro c;rcases h.2 with ⟨rfl,_⟩|⟨a,f,g,rfl,_,d,_⟩
 . simp[Value.ownBlock]at c
 . simp only[Value.ownBlock,Δ]at c;subst c;rw[d]at hb;simp only[Δ,Obj.cells.injEq]at hb;exact hne hb.2.1
structure bp_ (bm:Nat)(vb:Value)(n:Nat)(cj cw:Nat->Nat)(w:World)(vb':Value)(n':Nat)(beh' rdr':Nat->Nat)(w':World):Prop where
 cD:c6_ w' bm vb' n' beh' rdr'
 fresh:∀c p,n'<=p->(rdr' c).testBit p=false
 dH:∀p,p<n->beh' p=cj p
 dM:∀p c,p<n->(rdr' c).testBit p=(cw c).testBit p
 cJ:ε (fun b=>b=bm\/vb.ownBlock=some b) w w'
 own:∀g,vb'.ownBlock=some g->vb.ownBlock=some g\/w.heap.size<=g
section
variable {bm:Nat} {vb vb1 vb2:Value} {n n1 n2:Nat} {cj beh1 beh2 cw rdr1 rdr2:Nat->Nat} {w w1 w2:World}
theorem bp_.refl (h:c6_ w bm vb n cj cw)(hf:∀c p,n<=p->(cw c).testBit p=false):bp_ bm vb n cj cw w vb n cj cw w:=
 ⟨h,hf,fun _ _=>rfl,fun _ _ _=>rfl,ε.refl _ _,fun g hg=> .inl hg⟩
theorem bp_.grow (h:bp_ bm vb n cj cw w vb1 n1 beh1 rdr1 w1)(hb:Bl w1 w2):bp_ bm vb n cj cw w vb1 n1 beh1 rdr1 w2:=
 ⟨h.cD.below hb,h.fresh,h.dH,h.dM,h.cJ.join (qz_ (S:=fun _=>False) hb) (fun _ _ h=>False.elim h),h.own⟩
theorem bp_.pre (h:bp_ bm vb n cj cw w1 vb1 n1 beh1 rdr1 w2)(hb:Bl w w1):bp_ bm vb n cj cw w vb1 n1 beh1 rdr1 w2:=
 ⟨h.cD,h.fresh,h.dH,h.dM,(qz_ (S:=fun b=>b=bm\/vb.ownBlock=some b) hb).join h.cJ (fun _ _ h=>h),fun g hg=>(h.own g hg).imp id (fun h=>Nat.le_trans hb.size h)⟩
theorem bp_.trans (h:bp_ bm vb n cj cw w vb1 n1 beh1 rdr1 w1)(h':bp_ bm vb1 n1 beh1 rdr1 w1 vb2 n2 beh2 rdr2 w2)(hn:n<=n1):bp_ bm vb n cj cw w vb2 n2 beh2 rdr2 w2:=
 ⟨h'.cD,h'.fresh,fun p hp=>(h'.dH p o_).trans (h.dH p hp),fun p c hp=>(h'.dM p c o_).trans (h.dM p c hp),
  h.cJ.join h'.cJ (fun k hk hs=>by
   rcases hs with hs|hs
   . exact .inl hs
   . rcases h.own k hs with h1|h1
     . exact .inr h1
     . omega),fun g hg=>by
   rcases h'.own g hg with h1|h1
   . exact h.own g h1
   . right;have:=h.cJ.size;omega⟩
theorem uo_ {cj:Nat->Nat}{p:Nat}(h:L.testBit p=false):bf_ cj L F p=cj p:=by unfold bf_;rw[if_neg (by simp[h])]
theorem bp_.linked (h:bp_ bm vb n cj cw w (.slice (some ⟨gb,0,none⟩) n1 cap) n1 beh1 rdr1 w1)(hm:c6_ w2 bm (.slice (some ⟨gb,0,none⟩) n1 cap) n1 (bf_ beh1 L F) rdr1)(ht:ε (fun b=>b=gb) w1 w2)(hL:∀p,L.testBit p=true->n<=p):
 bp_ bm vb n cj cw w (.slice (some ⟨gb,0,none⟩) n1 cap) n1 (bf_ beh1 L F) rdr1 w2:=
 ⟨hm,h.fresh,fun p hp=>by
  rw[uo_ (by
   cases hb:L.testBit p
   . rfl
   . have:=hL p hb;omega)]
  exact h.dH p hp,h.dM,h.cJ.join ht (fun k hk hs=>by
   have hs':k=gb:=hs;subst hs';rcases h.own k rfl with h1|h1
   . exact .inr h1
   . omega),h.own⟩
theorem ah_.dP (h:ah_ cw cj lo hi e F L l)(hh:hi<=11):F<2048:=
 lt_pow_two_of_testBit (n:=11) F (fun i hi=>by
  cases hb:F.testBit i
  . rfl
  . have:=(h.fi i hb).2;omega)
theorem ah_.dK (h:ah_ cw cj lo hi e F L l)(hh:hi<=11):L<2048:=
 lt_pow_two_of_testBit (n:=11) L (fun i hi=>by
  cases hb:L.testBit i
  . rfl
  . have:=(h.la i hb).2;omega)
theorem ah_.laid (h:ah_ rdr1 beh1 lo n1 e F L l)(h':bp_ bm vb1 n1 beh1 rdr1 w1 vb2 n2 beh2 rdr2 w2):ah_ rdr2 beh2 lo n1 e F L l:=
 h.later (fun p _ hp=>h'.dH p hp) (fun p c hp=>h'.dM p c hp)
end
theorem bz_ {f:Nat->Bool}(h:w.rowIs b t 8 (fun i=> .bool (f i))):
 w.cell? ⟨b,0,none⟩=some (.bool (f 0))/\w.cell? ⟨b,1,none⟩=some (.bool (f 1))/\w.cell? ⟨b,2,none⟩=some (.bool (f 2))/\w.cell? ⟨b,3,none⟩=some (.bool (f 3))/\w.cell? ⟨b,4,none⟩=some (.bool (f 4))/\w.cell? ⟨b,5,none⟩=some (.bool (f 5))/\w.cell? ⟨b,6,none⟩=some (.bool (f 6))/\w.cell? ⟨b,7,none⟩=some (.bool (f 7)):=
 ⟨h.cell (i:=0) o_,h.cell (i:=1) o_,h.cell (i:=2) o_,h.cell (i:=3) o_,h.cell (i:=4) o_,h.cell (i:=5) o_,h.cell (i:=6) o_,h.cell (i:=7) o_⟩
theorem oo_ {f:Nat->Value}(h:w.rowIs b t 8 f):
 w.frozen? ⟨b,0,none⟩=false/\w.frozen? ⟨b,1,none⟩=false/\w.frozen? ⟨b,2,none⟩=false/\w.frozen? ⟨b,3,none⟩=false/\w.frozen? ⟨b,4,none⟩=false/\w.frozen? ⟨b,5,none⟩=false/\w.frozen? ⟨b,6,none⟩=false/\w.frozen? ⟨b,7,none⟩=false:=
 ⟨h.frozen 0,h.frozen 1,h.frozen 2,h.frozen 3,h.frozen 4,h.frozen 5,h.frozen 6,h.frozen 7⟩
def fo_ (w:World)(b:Nat)(f:Nat->Bool):World:=((((((((w.setCell ⟨b,0,none⟩ (.bool (f 0))).setCell ⟨b,1,none⟩ (.bool (f 1))).setCell ⟨b,2,none⟩ (.bool (f 2))).setCell ⟨b,3,none⟩ (.bool (f 3))).setCell ⟨b,4,none⟩ (.bool (f 4))).setCell ⟨b,5,none⟩ (.bool (f 5))).setCell ⟨b,6,none⟩ (.bool (f 6))).setCell ⟨b,7,none⟩ (.bool (f 7)))
theorem op_ {g:Nat->Value}(f:Nat->Bool)(h:w.rowIs b t 8 g):(fo_ w b f).rowIs b t 8 (fun i=> .bool (f i)):=by
 unfold fo_;refine((((((((h.set 0 _).set 1 _).set 2 _).set 3 _).set 4 _).set 5 _).set 6 _).set 7 _).congr (fun i hi=> ?_);rcases (show i=0\/i=1\/i=2\/i=3\/i=4\/i=5\/i=6\/i=7 by omega)with rfl|rfl|rfl|rfl|rfl|rfl|rfl|rfl<;>simp
theorem acn_ {B:Nat}(f:Nat->Bool)(h:Below B W w)(hb:B<=b):Below B W (fo_ w b f):=by
 unfold fo_;exact((((((((h.setCell hb _).setCell hb _).setCell hb _).setCell hb _).setCell hb _).setCell hb _).setCell hb _).setCell hb _)
theorem q0_ (f:Nat->Bool)(h:ε S W w)(hb:S b\/W.heap.size<=b):ε S W (fo_ w b f):=by
 unfold fo_;exact((((((((h.set _ _ hb).set _ _ hb).set _ _ hb).set _ _ hb).set _ _ hb).set _ _ hb).set _ _ hb).set _ _ hb)
theorem q1_ (f:Nat->Bool)(w:World):
 Calls prog 193 #[.agg (Ε f)] w fun e w'=>e= .returned (.agg (Ε (fun c=> !f c)))/\Bl w w':=by
 obtain⟨W,u,H,L,M,N⟩:=fe_ w (Ε f) 128 (Ε (fun _=>false)) 128 (Ε (fun _=>false)) 128
 have E:=co_ L;have F:=co_ M;have G:=co_ N;simp only[show Ε (fun _=>false)= #[.bool false,.bool false,.bool false,.bool false,.bool false,.bool false,.bool false,.bool false]from rfl]at u;go_enter func193,ntmps193;go_wp2_with fail;rw[<-u];clear u;go_loopw [4] (fun i' wr=>∃i:Nat,i<=8/\i'= .int .i64 i/\Below (w.heap.size+1+1) W wr/\wr.rowIs (w.heap.size+1+1) 128 8 (fun j=> .bool (if j<i then !f j else false))) (fun i' _=>8 - (intOf i').toNat)
 case atStart=>exact⟨0,o_,rfl,μ,G.congr (fun j _=>i_)⟩
 case round=>
  obtain⟨i,hi,rfl,a,b⟩:=hrel;clear G;have z:=E.of_block (a.block _ o_);have h:=F.of_block (a.block _ o_);by_cases aa:i<8
  . have k:=b.cell (i:=i) o_;have l:=b.frozen i;have d:=z.cell (i:=i) o_;have J:=α b;have n:Hid _:=a;clear b a z h;obtain⟨Z,A⟩:=δ (f i);rw[A.out]at d;go_wp2_with fail;go_roundw
    case rel=>
     refine⟨i+1,o_,by go_num,n.out.setCell (p:=⟨w.heap.size+1+1,i,none⟩) ι _,(J.out.set i _).congr (fun j _=> ?_)⟩;by_cases e:j=i
     . subst e;simp[A.out]
     . by_cases B:j<i
       . simp only[e,B,if_false,if_true];rw[if_pos o_]
       . simp only[e,B,if_false];rw[if_neg o_]
    case measure=>exact c_
  . have O:i=8:=o_;subst O;have y:wr.rowIs (w.heap.size+1+1) 128 8 (fun j=> .bool ((fun c=> !f c) j)):=b.congr (fun j hj=>by rw[if_pos hj]);clear b;obtain⟨g,x⟩:∃g:Nat->Bool,g=(fun c=> !f c):=⟨_,rfl⟩;rw[<-x]at y;obtain⟨k,l,d,o,q,r,s,t⟩:=bz_ y;obtain⟨d0,d1,d2,d3,d4,d5,d6,d7⟩:=bz_ h;obtain⟨Q,R,S,T,U,V,X,Y⟩:=oo_ h;have K:=α h;have n:Hid _:=a;have I:=α x;clear z h y a x E F;go_wp2_with fail;obtain⟨P,m⟩:=af_ (fo_ wr (w.heap.size+1) g);have D:=op_ g K.out;have C:Bl w (fo_ wr (w.heap.size+1) g):=acn_ g (H.trans (n.out.mono o_)) o_;rw[<-m]at D C;unfold fo_ at m;rw[<-m];clear m k l d o q r s t;obtain⟨k,l,d,o,q,r,s,t⟩:=bz_ D;refine bodyPost_ret (v:= .agg (Ε g)) (by simp[results,results193,go_sem,Ε,k,l,d,o,q,r,s,t]) rfl ?_;exact⟨by rw[I.out],C⟩
def kv_ (bp:Nat)(s:ByteArray)(t:Sp)(L:List Nd)(d:Nd)(w:World)(e:Ending)(w':World):Prop:=
 e= .returned (.int .i64 ((L.length:Nat):Int))/\∃vn',τ w' bp s t vn' (L++ [d])/\Below bp w w'
theorem ez_ (bp:Nat)(s:ByteArray)(t:Sp)(vn:Value)(L:List Nd)(f:Nat->Bool)(w:World)(h:τ w bp s t vn L)(hl:L.length<=1000):
 Calls prog 192 #[.pointer (some ⟨bp,2,none⟩),.agg (Ε f)] w (kv_ bp s t L ⟨1,1,f,0,0,false,0,0⟩ w):=by
 have u:=h.lt;obtain⟨W,d,b,-,c⟩:=ν w (Ε f) 128;obtain⟨k,l,m,n,o,p,q,r⟩:=bz_ (co_ c);have a:=om_ bp s t vn L ⟨1,1,f,0,0,false,0,0⟩ W (h.below b) hl;unfold Α at a;simp only[show((0:Nat):Int)=0 from rfl,show((1:Nat):Int)=1 from rfl]at a;clear c;go_enter func192,ntmps192;go_upto_region 1 with fail;rw[<-d];clear d;go_wp2_with fail;refine a.mono ?_;rintro e v ⟨rfl,j,i,g⟩;go_wp2_with fail;go_ret;exact⟨rfl,j,i,(b.mono o_).trans g⟩
theorem τ.nd {bp:Nat}{s:ByteArray}{t:Sp}{vn:Value}{L:List Nd}(h:τ w bp s t vn L){d:Nd}(hi:L[i]? =some d):
 ∃g cap,vn= .slice (some ⟨g,0,none⟩) L.length cap/\∀j,j<15->w.cell? ⟨g,i*15+j,none⟩=(Α d)[j]? :=by
 have e:i<L.length:=(gs_.1 hi).1;obtain⟨c,cap,rfl,a⟩:=Β h.own;obtain⟨g,rfl,b⟩:=a o_;exact⟨g,cap,rfl,fun j hj=>(b (i*15+j) o_).trans (acl_ L i j d hi hj)⟩
theorem up_ (bp:Nat)(s:ByteArray)(t:Sp)(vn:Value)(L:List Nd)(kind one two:Nat)(d1 d2:Nd)(w:World)(h:τ w bp s t vn L)(hl:L.length<=1000)(h1:L[one]? =some d1)(h2:L[two]? =some d2)(hs1:d1.size<=1000000000)(hs2:d2.size<=1000000000):
 Calls prog 170 #[.pointer (some ⟨bp,2,none⟩),.int .i64 (kind:Int),.int .i64 (one:Int),.int .i64 (two:Int)] w (kv_ bp s t L ⟨kind,d1.size+d2.size,fun _=>false,0,0,false,one,two⟩ w):=by
 have z:=h.lt;obtain⟨g,q,rfl,d⟩:=h.nd h1;obtain⟨y,x,j,f⟩:=h.nd h2;simp only[Value.slice.injEq,Δ,Addr.mk.injEq]at j;obtain⟨⟨rfl,_⟩,_,rfl⟩:=j;have k:=d 1 o_;have l:=f 1 o_;obtain⟨b,o⟩:=δ (d1.size);obtain⟨c,p⟩:=δ (d2.size);simp[Α]at k l;rw[o.out]at k hs1 ⊢;rw[p.out]at l hs2 ⊢;have A:one<L.length:=(gs_.1 h1).1;have B:two<L.length:=(gs_.1 h2).1;obtain⟨_,_,D,_,_,_,_,_⟩:=h.par.cells;have a:=fun w=>om_ bp s t (.slice (some ⟨g,0,none⟩) L.length q) L ⟨kind,b+c,fun _=>false,0,0,false,one,two⟩ w
 unfold Α at a;simp only[show((0:Nat):Int)=0 from rfl,show((4:Nat):Int)=4 from rfl]at a;have n:=α h;clear d f h h1 h2;have i:((b+c:Nat):Int)=(b:Int)+(c:Int):=i_;rw[i]at a;clear i;go_enter func170,ntmps170;go_wp2_with fail;go_quiet (fail);have m:=a (w.drewN nq) (n.out.below (below_drewN (Below.refl w.heap.size w) nq)) hl;clear a;go_wp2_with fail;refine m.mono ?_;rintro e C ⟨rfl,v,u,r⟩;go_wp2_with fail;go_ret;exact⟨rfl,v,u,((below_drewN (Below.refl w.heap.size w) nq).mono o_).trans r⟩
theorem aco_ {a b:Int}(ha:0<=a)(hb:0<=b)(ha2:a<=1000000000)(hb2:b<=10):wrap64 (a*b)=a*b:=by
 have c:a*b<=1000000000*10:=Int.mul_le_mul ha2 hb2 hb o_;have d:0<=a*b:=Int.mul_nonneg ha hb;unfold wrap64;omega
theorem oq_ (bp:Nat)(s:ByteArray)(t:Sp)(vn:Value)(L:List Nd)(one lo co:Nat)(en:Bool)(d1:Nd)(w:World)(h:τ w bp s t vn L)(hl:L.length<=1000)(h1:L[one]? =some d1)(hs1:d1.size<=1000000000)(hco:co<=10):
 Calls prog 189 #[.pointer (some ⟨bp,2,none⟩),.int .i64 (one:Int),.agg #[.int .i64 (lo:Int),.int .i64 (co:Int),.bool en]] w (kv_ bp s t L ⟨4,d1.size*co,fun _=>false,lo,co,en,one,0⟩ w):=by
 have C:=h.lt;obtain⟨W,k,i,-,j⟩:=ν w #[.int .i64 (lo:Int),.int .i64 (co:Int),.bool en] 130;obtain⟨y,z,A,_,_,_⟩:=ay_ j;have d:=h.below i;obtain⟨g,r,rfl,l⟩:=d.nd h1;have n:=l 1 o_;obtain⟨f,q⟩:=δ (d1.size);simp[Α]at n;rw[q.out]at n hs1 ⊢;have D:one<L.length:=(gs_.1 h1).1;obtain⟨_,_,G,_,_,_,_,_⟩:=d.par.cells;have c:=fun w=>om_ bp s t (.slice (some ⟨g,0,none⟩) L.length r) L ⟨4,f*co,fun _=>false,lo,co,en,one,0⟩ w
 unfold Α at c;simp only[show((0:Nat):Int)=0 from rfl,show((4:Nat):Int)=4 from rfl]at c;have p:=α d;have m:((f*co:Nat):Int)=(f:Int)*(co:Int):=i_;have E:=aco_ (a:=(f:Int)) (b:=(co:Int)) o_ o_ o_ o_;rw[m]at c;clear m l h d h1 j;have B:=i.size;go_enter func189,ntmps189;go_upto_region 1 with fail;rw[<-k];clear k;go_wp2_with fail;go_quiet (fail);have o:=c (W.drewN nq) (p.out.below (below_drewN (Below.refl W.heap.size W) nq)) hl;clear c;go_wp2_with fail;refine o.mono ?_;rintro e F ⟨rfl,x,v,u⟩;go_wp2_with fail;go_ret;exact⟨rfl,x,v,(i.mono o_).trans (((below_drewN (Below.refl W.heap.size W) nq).mono o_).trans u)⟩
def kw_ (w:World)(gn:Nat)(L:List Nd):Prop:=∀i d,L[i]? =some d->∀j,j<15->w.cell? ⟨gn,i*15+j,none⟩=(Α d)[j]?
theorem kw_.block {L:List Nd}(h:kw_ w gn L)(hb:w1.heap[gn]? =w.heap[gn]?):kw_ w1 gn L:=fun i d hi j hj=>(World.cell?_of_block (a:=⟨gn,_,none⟩) hb).trans (h i d hi j hj)
def kx_ (bm:Nat)(vb:Value)(n:Nat)(cj cw:Nat->Nat)(p:ζ)(w:World)(e:Ending)(w':World):Prop:=
 ∃(em:Bool) (F La:Nat) (vb':Value) (beh' rdr':Nat->Nat),e= .returned (.agg #[.bool em,.int .i64 (F:Int),.int .i64 (La:Int)])/\bp_ bm vb n cj cw w vb' (n+p.size) beh' rdr' w'/\ah_ rdr' beh' n (n+p.size) em F La p.lang
structure fp_ (w:World)(gn bm:Nat)(L:List Nd)(vb:Value)(n:Nat)(cj cw:Nat->Nat):Prop where
 dL:kw_ w gn L
 ahead:gn<bm
 cD:c6_ w bm vb n cj cw
 fresh:∀c q,n<=q->(cw c).testBit q=false
 pos:1<=n
theorem fp_.below {L:List Nd}(h:fp_ w gn bm L vb n cj cw)(hb:Bl w w1):fp_ w1 gn bm L vb n cj cw:=
 ⟨h.dL.block (hb.block _ (by have:=h.cD.cg.lt;have:=h.ahead;omega)),h.ahead,h.cD.below hb,h.fresh,h.pos⟩
theorem fp_.laid {L:List Nd}(h:fp_ w gn bm L vb n cj cw)(hl:bp_ bm vb n cj cw w vb1 n1 beh1 rdr1 w1)(hn:n<=n1):fp_ w1 gn bm L vb1 n1 beh1 rdr1:=by
 have a:=h.ahead;have b:=h.cD.cg.lt;refine⟨h.dL.block (hl.cJ.block gn o_ ?_),a,hl.cD,hl.fresh,by have:=h.pos;omega⟩;rintro(e|e)
 . omega
 . have:=(h.cD.own.lt _ e).1;omega
def ky_ (p:ζ):Prop:=∀(L:List Nd) (gn cap i bm:Nat) (vb:Value) (n:Nat) (cj cw:Nat->Nat) (w:World),b3_ L i p->fp_ w gn bm L vb n cj cw->n+p.size<=11->
 Calls prog 143 #[.pointer (some ⟨bm,0,none⟩),.slice (some ⟨gn,0,none⟩) L.length cap,.int .i64 (i:Int)] w (kx_ bm vb n cj cw p w)
theorem ed_ (hm:c6_ w bm vb n cj cw)(ht:ε (fun b=>b=bm\/vb.ownBlock=some b) w w1)(hb:w.heap[b]? =some (.cells cs t (0,0)))(hbm:bm<b)(hty:3≠t):w1.heap[b]? =some (.cells cs t (0,0)):=by
 refine(ht.block b (κ hb) ?_).trans hb;rintro(e|e)
 . omega
 . exact un_ hm.own hb hty e
theorem j0_ (ht:ε (fun k=>k=gb) w w1):ε (fun k=>k=bm\/(Value.slice (some ⟨gb,0,none⟩) n cap).ownBlock=some k) w w1:=
 ⟨ht.os,ht.tape,ht.output,ht.size,fun k hk hn=>ht.block k hk (fun e=>hn (.inr (by simp only[Value.ownBlock];rw[show k=gb from e])))⟩
theorem io_ {d:Nd}(h:w.heap[b]? =some (.cells (Α d) t (0,0))):∀j,j<15->w.cell? ⟨b,j,none⟩=(Α d)[j]? :=fun j hj=>cell_of_row w b j (Α d) t (0,0) h
theorem c6_.slice (h:c6_ w bm vb n cj cw)(hn:1<=n):∃gb cap,vb= .slice (some ⟨gb,0,none⟩) n cap:=by
 obtain⟨b,cap,rfl,a⟩:=Β h.own;obtain⟨g,rfl,_⟩:=a o_;exact⟨g,cap,rfl⟩
theorem j1_ (h:bp_ bm vb n cj cw w vb1 n1 beh1 rdr1 w1)(hb:w1.heap[b]? =some (.cells #[x,y,z] t (0,0)))(hw:w.heap.size<=b)(hbm:bm<b)(hty:3≠t)(u v r:Value):
 bp_ bm vb n cj cw w vb1 n1 beh1 rdr1 (((w1.setCell ⟨b,0,none⟩ u).setCell ⟨b,1,none⟩ v).setCell ⟨b,2,none⟩ r)/\
 (((w1.setCell ⟨b,0,none⟩ u).setCell ⟨b,1,none⟩ v).setCell ⟨b,2,none⟩ r).heap[b]? =some (.cells #[u,v,r] t (0,0)):=by
 have c:(((w1.setCell ⟨b,0,none⟩ u).setCell ⟨b,1,none⟩ v).setCell ⟨b,2,none⟩ r).heap[b]? =some (.cells #[u,v,r] t (0,0)):=by
  simp[World.setCell,Array.getElem?_modify,hb]
 have a:∀g,vb1.ownBlock=some g->g≠b:=fun g hg e=>un_ h.cD.own hb hty (by rw[hg,e])
 refine⟨⟨⟨((h.cD.cg.setOther s_ _).setOther s_ _).setOther s_ _,bg_ (bg_ (bg_ h.cD.own _ _ a) _ _ a) _ _ a,h.cD.lb,h.cD.lr⟩,h.fresh,h.dH,h.dM,((h.cJ.set _ _ (.inr hw)).set _ _ (.inr hw)).set _ _ (.inr hw),h.own⟩,c⟩
theorem acp_ (L:List Nd)(gn cap i bm:Nat)(vb:Value)(n:Nat)(cj cw:Nat->Nat)(w:World)(sz:Nat)(S:Nat->Bool)(le co:Nat)(en:Bool)(o t:Nat)(hd:L[i]? =some ⟨0,sz,S,le,co,en,o,t⟩)(hin:fp_ w gn bm L vb n cj cw):
 Calls prog 143 #[.pointer (some ⟨bm,0,none⟩),.slice (some ⟨gn,0,none⟩) L.length cap,.int .i64 (i:Int)] w (kx_ bm vb n cj cw .none w):=by
 have O:i<L.length:=(gs_.1 hd).1;have M:bm<w.heap.size:=hin.cD.cg.lt;have N:gn<w.heap.size:=by have:=hin.ahead;omega
 have a:=hin.dL i _ hd;have j:=a 0 o_;have k:=a 1 o_;have s:=a 2 o_;have u:=a 3 o_;have x:=a 4 o_;have y:=a 5 o_;have z:=a 6 o_;have A:=a 7 o_;have B:=a 8 o_;have C:=a 9 o_;have l:=a 10 o_;have m:=a 11 o_;have p:=a 12 o_;have q:=a 13 o_;have r:=a 14 o_;simp[Α]at j k s u x y z A B C l m p q r;clear a;obtain⟨W,b,D,g,H⟩:=bl_ w #[.bool false,.int .i64 0,.int .i64 0] 187 (Α ⟨0,sz,S,le,co,en,o,t⟩) 132
 have f:=io_ H;have K:=f 0 o_;simp[Α]at K;clear f;unfold Α at b;simp only[show((0:Nat):Int)=0 from rfl,show((1:Nat):Int)=1 from rfl,show((2:Nat):Int)=2 from rfl,show((3:Nat):Int)=3 from rfl,show((4:Nat):Int)=4 from rfl]at b;go_enter func143,ntmps143;go_upto_region 2 with fail;rw[<-b];clear b j k s u x y z A B C l m p q r;have I:bp_ bm vb n cj cw w vb n cj cw W:=(bp_.refl hin.cD hin.fresh).grow D;obtain⟨T,U,V,P,Q,R⟩:=ay_ g;obtain⟨J,h⟩:=j1_ I g ι o_ d_ (.bool true) (.int .i64 0) (.int .i64 0);obtain⟨c,d,e,_,_,_⟩:=ay_ h;have E:Hid _:=c;have F:Hid _:=d;have G:Hid _:=e;clear c d e h;go_wp2_with fail;have c:=E.out;have d:=F.out;have e:=G.out;refine bodyPost_ret (v:= .agg #[.bool true,.int .i64 0,.int .i64 0]) (by simp[results,results143,go_sem,c,d,e]) rfl ?_;exact⟨true,0,0,vb,cj,cw,rfl,J,ah_.nothing cw cj n⟩
theorem acq_ (L:List Nd)(gn cap i bm:Nat)(vb:Value)(n:Nat)(cj cw:Nat->Nat)(w:World)(sz:Nat)(S:Nat->Bool)(le co:Nat)(en:Bool)(o t:Nat)(hd:L[i]? =some ⟨1,sz,S,le,co,en,o,t⟩)(hin:fp_ w gn bm L vb n cj cw)(hn:n<11):
 Calls prog 143 #[.pointer (some ⟨bm,0,none⟩),.slice (some ⟨gn,0,none⟩) L.length cap,.int .i64 (i:Int)] w (kx_ bm vb n cj cw (.one S) w):=by
 have ag:i<L.length:=(gs_.1 hd).1;have ae:bm<w.heap.size:=hin.cD.cg.lt;have af:gn<w.heap.size:=by have:=hin.ahead;omega
 have a:=hin.dL i _ hd;have G:=a 0 o_;have H:=a 1 o_;have O:=a 2 o_;have P:=a 3 o_;have Q:=a 4 o_;have R:=a 5 o_;have T:=a 6 o_;have U:=a 7 o_;have V:=a 8 o_;have X:=a 9 o_;have I:=a 10 o_;have J:=a 11 o_;have K:=a 12 o_;have M:=a 13 o_;have N:=a 14 o_;simp[Α]at G H O P Q R T U V X I J K M N;clear a;obtain⟨W,d,u,b0,b1⟩:=bl_ w #[.bool false,.int .i64 0,.int .i64 0] 187 (Α ⟨1,sz,S,le,co,en,o,t⟩) 132
 have r:=hin.below u;have b:=io_ b1;have k0:=b 0 o_;have k2:=b 2 o_;have k3:=b 3 o_;have k4:=b 4 o_;have k5:=b 5 o_;have k6:=b 6 o_;have k7:=b 7 o_;have k8:=b 8 o_;have k9:=b 9 o_;simp[Α]at k0 k2 k3 k4 k5 k6 k7 k8 k9;clear b;unfold Α at d;simp only[show((0:Nat):Int)=0 from rfl,show((1:Nat):Int)=1 from rfl,show((2:Nat):Int)=2 from rfl,show((3:Nat):Int)=3 from rfl,show((4:Nat):Int)=4 from rfl]at d;go_enter func143,ntmps143;go_upto_region 2 with fail;rw[<-d];clear d G H O P Q R T U V X I J K M N;have m:=ug_ bm vb n cj cw S W hn r.cD;unfold Ε at m;go_wp2_with fail;refine m.mono ?_;clear m;rintro e w1 ⟨rfl,Y,E,s,F⟩;have z:=ed_ r.cD s b0 o_ d_;have C:∀p,p<n->(if p=n then 0 else cj p)=cj p:=fun p hp=>if_neg o_
 have f:∀(x c q:Nat),(if S c then cw c|||2^n else cw c).testBit q=(if q=n then(S c||(cw c).testBit n)else(cw c).testBit q):=by
  intro x c q;by_cases g:q=n
  . subst g;rw[if_pos rfl];cases S c
    . simp
    . simp[testBit_or,testBit_two_pow]
  . rw[if_neg g];cases S c
    . simp
    . have:¬n=q:=fun e=>g e.symm
      simp[testBit_or,testBit_two_pow,this]
 have A:bp_ bm vb n cj cw w Y (n+1) (fun p=>if p=n then 0 else cj p) (fun c=>if S c then cw c|||2^n else cw c) w1:=by
  refine bp_.pre ⟨E,fun c q g=> ?_,fun p hp=>C p hp,fun p c hp=> ?_,s,F⟩ u
  . rw[f 0 c q,if_neg o_];exact hin.fresh c q o_
  . rw[f 0 c p,if_neg o_]
 have B:ah_ (fun c=>if S c then cw c|||2^n else cw c) (fun p=>if p=n then 0 else cj p) n (n+1) false (2^n) (2^n) (ζ.one S).lang:=by
  refine ah_.spot i_ (fun c=> ?_);rw[f 0 c n,if_pos rfl,hin.fresh c n ι];simp
 obtain⟨h,y⟩:∃x,Hid (2^n=x):=⟨2^n,rfl⟩;have Z:=α A;have HS:=α B;clear f C B A E s F r;rw[y.out];obtain⟨q0,q1,q2,p0,p1,p2⟩:=ay_ z;obtain⟨ad,D⟩:=j1_ Z.out z ι o_ d_ (.bool false) (.int .i64 (h:Int)) (.int .i64 (h:Int));obtain⟨j,k,l,_,_,_⟩:=ay_ D;have aa:Hid _:=j;have ab:Hid _:=k;have ac:Hid _:=l;clear j k l D;go_wp2_with fail;have j:=aa.out;have k:=ab.out;have l:=ac.out;refine bodyPost_ret (v:= .agg #[.bool false,.int .i64 (h:Int),.int .i64 (h:Int)]) (by simp[results,results143,go_sem,j,k,l]) rfl ?_;refine⟨false,2^n,2^n,Y,_,_,by rw[y.out],ad,HS.out⟩
theorem acr_ (a b:ζ)(HA:ky_ a)(HB:ky_ b)(L:List Nd)(gn cap i bm:Nat)(vb:Value)(n:Nat)(cj cw:Nat->Nat)(w:World)(sz:Nat)(S:Nat->Bool)(le co:Nat)(en:Bool)(o t:Nat)(hd:L[i]? =some ⟨2,sz,S,le,co,en,o,t⟩)(ha:b3_ L o a)(hb:b3_ L t b)(hin:fp_ w gn bm L vb n cj cw)(hn:n+(a.size+b.size)<=11):
 Calls prog 143 #[.pointer (some ⟨bm,0,none⟩),.slice (some ⟨gn,0,none⟩) L.length cap,.int .i64 (i:Int)] w (kx_ bm vb n cj cw (.chain a b) w):=by
 have aI:i<L.length:=(gs_.1 hd).1;have aG:bm<w.heap.size:=hin.cD.cg.lt;have aH:gn<w.heap.size:=by have:=hin.ahead;omega
 have c:=hin.dL i _ hd;have n0:=c 0 o_;have n1:=c 1 o_;have n2:=c 2 o_;have n3:=c 3 o_;have n4:=c 4 o_;have n5:=c 5 o_;have n6:=c 6 o_;have n7:=c 7 o_;have n8:=c 8 o_;have n9:=c 9 o_;have am:=c 10 o_;have an:=c 11 o_;have ao:=c 12 o_;have ap:=c 13 o_;have aq:=c 14 o_;simp[Α]at n0 n1 n2 n3 n4 n5 n6 n7 n8 n9 am an ao ap aq;clear c;obtain⟨W,l,X,b0,M⟩:=bl_ w #[.bool false,.int .i64 0,.int .i64 0] 187 (Α ⟨2,sz,S,le,co,en,o,t⟩) 132;have aE:W.heap.size=w.heap.size+1+1:=by rw[l];simp
 have C:=hin.below X;have f:=io_ M;have k0:=f 0 o_;have ai:=f 13 o_;have ak:=f 14 o_;simp[Α]at k0 ai ak;clear f;unfold Α at l;simp only[show((0:Nat):Int)=0 from rfl,show((1:Nat):Int)=1 from rfl,show((2:Nat):Int)=2 from rfl,show((3:Nat):Int)=3 from rfl,show((4:Nat):Int)=4 from rfl]at l;go_enter func143,ntmps143;go_upto_region 2 with fail;rw[<-l];clear l n0 n1 n2 n3 n4 n5 n6 n7 n8 n9 am an ao ap aq;have d:=HA L gn cap o bm vb n cj cw W ha C o_;go_wp2_with fail;refine d.mono ?_;clear d;rintro e w1 ⟨j,s,h,V,N,U,rfl,m,ag⟩;have O:=ed_ C.cD m.cJ b0 o_ d_;have P:=ed_ C.cD m.cJ M o_ d_;have aJ:=m.cJ.size;obtain⟨z,R,J,-,d2⟩:=ν w1 #[.bool j,.int .i64 (s:Int),.int .i64 (h:Int)] 187;have aF:z.heap.size=w1.heap.size+1:=by rw[R];simp
 have ac:bp_ bm vb n cj cw w V (n+a.size) N U z:=(m.pre X).grow J;have D:fp_ z gn bm L V (n+a.size) N U:=hin.laid ac o_;have d0:=(J.block _ (κ O)).trans O;have d1:=(J.block _ (κ P)).trans P;have f:=io_ d1;have al:=f 14 o_;have aj:=f 13 o_;simp[Α]at al aj;clear f k0 ai ak b0 M O P;have d:=HB L gn cap t bm V (n+a.size) N U z hb D o_;go_upto_region 8 with fail;rw[<-R];clear R;go_wp2_with fail;refine d.mono ?_;clear d;rintro e w2 ⟨k,g,x,aD,A,I,rfl,q,E⟩;have f0:=ed_ D.cD q.cJ d0 o_ d_;have f2:=ed_ D.cD q.cJ d2 o_ d_;obtain⟨W2,ad,K,-,g3⟩:=ν w2 #[.bool k,.int .i64 (g:Int),.int .i64 (x:Int)] 187
 have B:bp_ bm vb n cj cw w aD (n+a.size+b.size) A I W2:=ac.trans (q.grow K) o_;have g0:=(K.block _ (κ f0)).trans f0;have g2:=(K.block _ (κ f2)).trans f2;have r:=ag.laid q;have ax:=r.dP o_;have aB:=r.dK o_;have ay:=E.dP o_;have aC:=E.dK o_;clear d0 d1 d2 aj al f0 f2;obtain⟨s0,s1,s2,_,_,_⟩:=ay_ g2;obtain⟨u0,u1,u2,_,_,_⟩:=ay_ g3;obtain⟨gb,ab,rfl⟩:=B.cD.slice (by have:=hin.pos;omega);have d:=m1_ bm gb (n+a.size+b.size) ab A I j k s h g x W2 o_ B.cD ax aB ay aC;obtain⟨u,Y⟩:=δ (if j then s|||g else s);obtain⟨y,Z⟩:=δ (if k then x|||h else x);rw[Y.out,Z.out]at d;have aa:Hid (ah_ I (bf_ A h g) n (n+a.size+b.size) (j&&k) u y (Cat a.lang b.lang)):=by
  have:=r.chain E;rw[Y.out,Z.out]at this;exact this
 obtain⟨Q,ar⟩:=δ (j&&k);rw[ar.out]at d aa;go_upto_region 9 with fail;rw[<-ad];clear ad;go_wp2_with fail;refine d.mono ?_;clear d;rintro e w3 ⟨rfl,af,T⟩;have az:bp_ bm vb n cj cw w (.slice (some ⟨gb,0,none⟩) (n+a.size+b.size) ab) (n+a.size+b.size) (bf_ A h g) I w3:=B.linked af T (fun p hp=>(r.la p hp).1);have h0:=ed_ B.cD (j0_ T) g0 o_ d_;clear af T ag E r m q g0 g2 g3 s0 s1 s2 u0 u1 u2 C D;obtain⟨q0,q1,q2,p0,p1,p2⟩:=ay_ h0;obtain⟨aA,ae⟩:=j1_ az h0 ι o_ d_ (.bool Q) (.int .i64 (u:Int)) (.int .i64 (y:Int));obtain⟨F,G,H,_,_,_⟩:=ay_ ae;have au:Hid _:=F;have av:Hid _:=G;have aw:Hid _:=H;clear F G H ae;go_wp2_with fail;have F:=au.out;have G:=av.out;have H:=aw.out;refine bodyPost_ret (v:= .agg #[.bool Q,.int .i64 (u:Int),.int .i64 (y:Int)]) (by simp[results,results143,go_sem,F,G,H]) rfl ?_;have ah:n+(ζ.chain a b).size=n+a.size+b.size:=by simp only[ζ.size];omega
 exact⟨Q,u,y,_,_,_,rfl,by rw[ah];exact aA,by rw[ah];exact aa.out⟩
theorem acs_ (a b:ζ)(HA:ky_ a)(HB:ky_ b)(L:List Nd)(gn cap i bm:Nat)(vb:Value)(n:Nat)(cj cw:Nat->Nat)(w:World)(sz:Nat)(S:Nat->Bool)(le co:Nat)(en:Bool)(o t:Nat)(hd:L[i]? =some ⟨3,sz,S,le,co,en,o,t⟩)(ha:b3_ L o a)(hb:b3_ L t b)(hin:fp_ w gn bm L vb n cj cw)(hn:n+(a.size+b.size)<=11):
 Calls prog 143 #[.pointer (some ⟨bm,0,none⟩),.slice (some ⟨gn,0,none⟩) L.length cap,.int .i64 (i:Int)] w (kx_ bm vb n cj cw (.alt a b) w):=by
 have aG:i<L.length:=(gs_.1 hd).1;have aE:bm<w.heap.size:=hin.cD.cg.lt;have aF:gn<w.heap.size:=by have:=hin.ahead;omega
 have c:=hin.dL i _ hd;have n0:=c 0 o_;have n1:=c 1 o_;have n2:=c 2 o_;have n3:=c 3 o_;have n4:=c 4 o_;have n5:=c 5 o_;have n6:=c 6 o_;have n7:=c 7 o_;have n8:=c 8 o_;have n9:=c 9 o_;have aj:=c 10 o_;have ak:=c 11 o_;have al:=c 12 o_;have am:=c 13 o_;have an:=c 14 o_;simp[Α]at n0 n1 n2 n3 n4 n5 n6 n7 n8 n9 aj ak al am an;clear c;obtain⟨W,q,U,b0,K⟩:=bl_ w #[.bool false,.int .i64 0,.int .i64 0] 187 (Α ⟨3,sz,S,le,co,en,o,t⟩) 132;have aB:W.heap.size=w.heap.size+1+1:=by rw[q];simp
 have E:=hin.below U;have d:=io_ K;have k0:=d 0 o_;have af:=d 13 o_;have ah:=d 14 o_;simp[Α]at k0 af ah;clear d;unfold Α at q;simp only[show((0:Nat):Int)=0 from rfl,show((1:Nat):Int)=1 from rfl,show((2:Nat):Int)=2 from rfl,show((3:Nat):Int)=3 from rfl,show((4:Nat):Int)=4 from rfl]at q;go_enter func143,ntmps143;go_upto_region 2 with fail;rw[<-q];clear q n0 n1 n2 n3 n4 n5 n6 n7 n8 n9 aj ak al am an;have l:=HA L gn cap o bm vb n cj cw W ha E o_;go_wp2_with fail;refine l.mono ?_;clear l;rintro e w1 ⟨D,u,A,T,M,R,rfl,r,ae⟩;have N:=ed_ E.cD r.cJ b0 o_ d_;have O:=ed_ E.cD r.cJ K o_ d_;have aH:=r.cJ.size;obtain⟨C,P,I,-,d2⟩:=ν w1 #[.bool D,.int .i64 (u:Int),.int .i64 (A:Int)] 187;have aC:C.heap.size=w1.heap.size+1:=by rw[P];simp
 have ab:bp_ bm vb n cj cw w T (n+a.size) M R C:=(r.pre U).grow I;have F:fp_ C gn bm L T (n+a.size) M R:=hin.laid ab o_;have d0:=(I.block _ (κ N)).trans N;have d1:=(I.block _ (κ O)).trans O;have d:=io_ d1;have ai:=d 14 o_;have ag:=d 13 o_;simp[Α]at ai ag;clear d k0 af ah b0 K N O;have l:=HB L gn cap t bm T (n+a.size) M R C hb F o_;go_upto_region 12 with fail;rw[<-P];clear P;go_wp2_with fail;refine l.mono ?_;clear l;rintro e w2 ⟨p,y,B,aA,aa,ao,rfl,f,H⟩;have f0:=ed_ F.cD f.cJ d0 o_ d_;have f2:=ed_ F.cD f.cJ d2 o_ d_;have aI:=f.cJ.size;obtain⟨Z,Q,J,-,g3⟩:=ν w2 #[.bool p,.int .i64 (y:Int),.int .i64 (B:Int)] 187;have aD:Z.heap.size=w2.heap.size+1:=by rw[Q];simp
 have av:bp_ bm vb n cj cw w aA (n+a.size+b.size) aa ao Z:=ab.trans (f.grow J) o_;have g0:=(J.block _ (κ f0)).trans f0;have g2:=(J.block _ (κ f2)).trans f2;have G:=ae.laid f;have ar:=G.dP o_;have aw:=G.dK o_;have au:=H.dP o_;have ax:=H.dK o_;clear d0 d1 d2 ag ai f0 f2;obtain⟨s0,s1,s2,_,_,_⟩:=ay_ g2;obtain⟨u0,u1,u2,_,_,_⟩:=ay_ g3;have ay:=ks_ u y ar au;have az:=ks_ A B aw ax;have z:Hid (ah_ ao aa n (n+a.size+b.size) (D||p) (u|||y) (A|||B) (fun x=>a.lang x\/b.lang x)):=G.alt H;obtain⟨k,ap⟩:=δ (u|||y);obtain⟨m,aq⟩:=δ (A|||B);rw[ap.out]at ay z;rw[aq.out]at az z;clear ae H G r f g2 g3 E F;obtain⟨q0,q1,q2,p0,p1,p2⟩:=ay_ g0;obtain⟨ac,ad⟩:=j1_ av g0 ι o_ d_ (.bool (D||p)) (.int .i64 (k:Int)) (.int .i64 (m:Int));obtain⟨g,h,j,_,_,_⟩:=ay_ ad;have V:Hid _:=g;have X:Hid _:=h;have Y:Hid _:=j;clear g h j ad;go_upto_region 13 with fail;rw[<-Q];clear Q;cases D
 . simp only[Bool.false_or]at*;go_wp2_with fail;have g:=V.out;have h:=X.out;have j:=Y.out;refine bodyPost_ret (v:= .agg #[.bool p,.int .i64 (k:Int),.int .i64 (m:Int)]) (by simp[results,results143,go_sem,g,h,j]) rfl ?_;have s:n+(ζ.alt a b).size=n+a.size+b.size:=by simp only[ζ.size];omega
   exact⟨p,k,m,_,_,_,rfl,by rw[s];exact ac,by rw[s];exact z.out⟩
 . simp only[Bool.true_or]at*;go_wp2_with fail;have g:=V.out;have h:=X.out;have j:=Y.out;refine bodyPost_ret (v:= .agg #[.bool true,.int .i64 (k:Int),.int .i64 (m:Int)]) (by simp[results,results143,go_sem,g,h,j]) rfl ?_;have s:n+(ζ.alt a b).size=n+a.size+b.size:=by simp only[ζ.size];omega
   exact⟨true,k,m,_,_,_,rfl,by rw[s];exact ac,by rw[s];exact z.out⟩
theorem act_ (bm gb n cap:Nat)(cj cw:Nat->Nat)(L F:Nat)(w:World)(hn:n<=11)(h:c6_ w bm (.slice (some ⟨gb,0,none⟩) n cap) n cj cw)(hL:L<2048)(hF:F<2048):
 Calls prog 172 #[.pointer (some ⟨bm,0,none⟩),.int .i64 L,.int .i64 F] w fun e w'=>e= .returned (.tuple #[])/\c6_ w' bm (.slice (some ⟨gb,0,none⟩) n cap) n (bf_ cj L F) cw/\ε (fun b=>b=gb) w w':=by
 have c:=h.cg.cell (i:=0) o_;simp only[if_true]at c;have f:=h.own.lt gb rfl;refine(uc_ bm (bm+1) gb n cap cj L F w hn hL hF h.lb c o_ h.own).mono ?_;rintro e g ⟨rfl,a,d⟩;exact⟨rfl,⟨h.cg.of_block (a.block _ h.cg.lt (fun e=>by have:=f.1;omega)),d,um_ hF h.lb,h.lr⟩,a⟩
structure m2_ (a:ζ)(lo:Nat)(en:Bool)(w:World)(bm:Nat)(vb:Value)(n:Nat)(cj cw:Nat->Nat)(D:Nd)(wr:World)(i:Nat)(vbi:Value)(behi rdri:Nat->Nat)(em:Bool)(F La:Nat):Prop where
 eN:bp_ bm vb n cj cw w vbi (n+a.size*i) behi rdri wr
 str:ah_ rdri behi n (n+a.size*i) em F La (fs_ a.lang lo en i)
 nb:wr.heap[w.heap.size]? =some (.cells (Α D) 132 (0,0))
 rb:wr.heap[w.heap.size+1]? =some (.cells #[.bool false,.int .i64 0,.int .i64 0] 187 (0,0))
 wb:wr.heap[w.heap.size+1+1]? =some (.cells #[.bool em,.int .i64 (F:Int),.int .i64 (La:Int)] 187 (0,0))
theorem m2_.next {a:ζ}{en:Bool}{D:Nd}{wr:World}{vbi:Value}{behi rdri:Nat->Nat}{em:Bool}{La:Nat}(h:m2_ a lo en w bm vb n cj cw D wr i vbi behi rdri em F La)
 (hbm:bm<w.heap.size) {W1 w3:World} {cap1:Nat}  {e2:Bool} {F1 L1 F3 L3:Nat} {e3:Bool}
 (hL:bp_ bm vb n cj cw w (.slice (some ⟨gb,0,none⟩) (n+a.size*i+a.size) cap1) (n+a.size*i+a.size) beh1 rdr1 W1)
 (hs:ah_ rdr1 beh1 (n+a.size*i) (n+a.size*i+a.size) e2 F1 L1 (fi_ a.lang lo i en)) (hs0:ah_ rdr1 beh1 n (n+a.size*i) em F La (fs_ a.lang lo en i))
 (b0:W1.heap[w.heap.size]? =some (.cells (Α D) 132 (0,0))) (b1:W1.heap[w.heap.size+1]? =some (.cells #[.bool false,.int .i64 0,.int .i64 0] 187 (0,0))) (b2:W1.heap[w.heap.size+1+1]? =some (.cells #[.bool em,.int .i64 (F:Int),.int .i64 (La:Int)] 187 (0,0)))
 (hm3:c6_ w3 bm (.slice (some ⟨gb,0,none⟩) (n+a.size*i+a.size) cap1) (n+a.size*i+a.size) (bf_ beh1 La F1) rdr1) (ht3:ε (fun b=>b=gb) W1 w3)
 (hF3:(if em then F|||F1 else F)=F3) (hL3:(if e2 then L1|||La else L1)=L3) (he3:(em&&e2)=e3):
 w3.heap[w.heap.size+1+1]? =some (.cells #[.bool em,.int .i64 (F:Int),.int .i64 (La:Int)] 187 (0,0))/\
 m2_ a lo en w bm vb n cj cw D (((w3.setCell ⟨w.heap.size+1+1,0,none⟩ (.bool e3)).setCell ⟨w.heap.size+1+1,1,none⟩ (.int .i64 (F3:Int))).setCell ⟨w.heap.size+1+1,2,none⟩ (.int .i64 (L3:Int))) (i+1) (.slice (some ⟨gb,0,none⟩) (n+a.size*i+a.size) cap1) (bf_ beh1 La F1) rdr1 e3 F3 L3:=by
 have d:n+a.size*(i+1)=n+a.size*i+a.size:=by rw[mul_succ];omega
 have j:bp_ bm vb n cj cw w (.slice (some ⟨gb,0,none⟩) (n+a.size*i+a.size) cap1) (n+a.size*i+a.size) (bf_ beh1 La F1) rdr1 w3:=hL.linked hm3 ht3 (fun p hp=>(hs0.la p hp).1);have e:=ed_ hL.cD (j0_ ht3) b0 o_ d_;have f:=ed_ hL.cD (j0_ ht3) b1 o_ d_;have c:=ed_ hL.cD (j0_ ht3) b2 o_ d_;obtain⟨g,k⟩:=j1_ j c o_ o_ d_ (.bool e3) (.int .i64 (F3:Int)) (.int .i64 (L3:Int));refine⟨c,⟨by rw[d];exact g, ?_, ?_, ?_,k⟩⟩
 . rw[d];have:=hs0.chain hs;rw[hF3,hL3,he3]at this;exact this
 . exact a3_ (a3_ (a3_ e l_) l_) l_
 . exact a3_ (a3_ (a3_ f l_) l_) l_
theorem acu_ (a:ζ)(HA:ky_ a)(L:List Nd)(gn cap bm:Nat)(vb:Value)(n:Nat)(cj cw:Nat->Nat)(w:World)(kind:Nat)(S:Nat->Bool)(lo co:Nat)(en:Bool)(ix t:Nat)(ha:b3_ L ix a)(hin:fp_ w gn bm L vb n cj cw)(hn:n+a.size*co<=11):
 Calls prog 171 #[.pointer (some ⟨bm,0,none⟩),.slice (some ⟨gn,0,none⟩) L.length cap,.agg (Α ⟨kind,a.size*co,S,lo,co,en,ix,t⟩)] w (kx_ bm vb n cj cw (.rep a lo co en) w):=by
 have au:bm<w.heap.size:=hin.cD.cg.lt;obtain⟨W,K,BW,b0,b1,b2⟩:=fe_ w (Α ⟨kind,a.size*co,S,lo,co,en,ix,t⟩) 132 #[.bool false,.int .i64 0,.int .i64 0] 187 #[.bool true,.int .i64 0,.int .i64 0] 187;have aQ:W.heap.size=w.heap.size+1+1+1:=by rw[K];simp
 obtain⟨u,T⟩:=δ (a.size*co);rw[T.out]at K b0 hn ⊢;have m:=io_ b0;have k1:=m 1 o_;simp[Α]at k1;clear m;have ap:bp_ bm vb n cj cw w vb n cj cw W:=(bp_.refl hin.cD hin.fresh).grow BW;unfold Α at K;by_cases hz:u=0
 . have aw:((u:Int)==0)=true:=by simp[hz]
   have ax:Hid (a.size*co=0):=by unfold Hid;rw[T.out];exact hz
   clear hz;obtain⟨q0,q1,q2,p0,p1,p2⟩:=ay_ b1;obtain⟨y0,y1,y2,_,_,_⟩:=ay_ b2;obtain⟨aq,ab⟩:=j1_ ap b1 o_ o_ d_ (.bool true) (.int .i64 0) (.int .i64 0);obtain⟨y,z,A,_,_,_⟩:=ay_ ab;have al:Hid _:=y;have am:Hid _:=z;have an:Hid _:=A;clear y z A ab;unfold Α;go_enter func171,ntmps171;go_upto_region 2 with fail;rw[<-K];clear K;go_wp2_with fail;have y:=al.out;have z:=am.out;have A:=an.out;refine bodyPost_ret (v:= .agg #[.bool true,.int .i64 0,.int .i64 0]) (by simp[results,results171,go_sem,y,z,A]) rfl ?_;have aG:n+(ζ.rep a lo co en).size=n:=by simp only[ζ.size];rw[ax.out];rfl
   refine⟨true,0,0,vb,cj,cw,rfl,by rw[aG];exact aq, ?_⟩;rw[aG];exact(ah_.nothing cw cj n).dB (fun x=>(ags_ (.rep a lo co en) ax.out x).symm)
 . have aw:((u:Int)==0)=false:=s_;have aR:co<=10:=by
    have hp:=hin.pos;have h1:1<=a.size:=by
     rcases eq_zero_or_pos a.size with h0|h0
     . rw[h0,Nat.zero_mul]at T;exact absurd T.out.symm hz
     . exact h0
    have h2:1*co<=a.size*co:=mul_le_mul_right _ h1;rw[T.out]at h2;omega
   have ay:m2_ a lo en w bm vb n cj cw ⟨kind,u,S,lo,co,en,ix,t⟩ W 0 vb cj cw true 0 0:=by
    refine⟨by rw[Nat.mul_zero];exact ap, ?_,b0,b1,b2⟩;rw[Nat.mul_zero];exact ah_.nothing cw cj n
   unfold Α;go_enter func171,ntmps171;go_upto_region 2 with fail;rw[<-K];clear K;go_wp2_with fail;clear k1 b0 b1 b2 ap aw;go_loopw [8,9] (fun i' _ wr=>∃(i:Nat) (af:Value) (Z ae:Nat->Nat) (c:Bool) (F h:Nat),i'= .int .i64 (i:Int)/\i<=co/\m2_ a lo en w bm vb n cj cw ⟨kind,u,S,lo,co,en,ix,t⟩ wr i af Z ae c F h) (fun i' _ _=>20 - (intOf i').toNat)
   case atStart=>exact⟨0,vb,cj,cw,true,0,0,rfl,o_,ay⟩
   case round=>
    clear ay;obtain⟨i,af,Z,ae,c,F,h,rfl,hi,j⟩:=hrel;have m:=io_ j.nb;have aH:=m 10 o_;have aI:=m 11 o_;have aJ:=m 12 o_;have aK:=m 13 o_;simp[Α]at aH aI aJ aK;clear m;by_cases aS:i<co
    . have aN:(i:Int)<(co:Int):=o_;have aT:a.size*i+a.size<=u:=by
       rw[<-T.out,<-mul_succ];exact mul_le_mul_left _ o_
      have ac:fp_ wr gn bm L af (n+a.size*i) Z ae:=hin.laid j.eN o_;have d:=HA L gn cap ix bm af (n+a.size*i) Z ae wr ha ac o_;have U:=α j;go_wp2_with fail;refine d.mono ?_;clear d;rintro e I ⟨e1,l,f,aP,J,O,rfl,V,M⟩;have c0:=ed_ ac.cD V.cJ j.nb o_ d_;have c1:=ed_ ac.cD V.cJ j.rb o_ d_;have c2:=ed_ ac.cD V.cJ j.wb o_ d_;have aU:=κ c2;have ad:=j.str.laid V;have ao:=ad.dP o_;have ar:=ad.dK o_;have ag:=M.dP o_;have ai:=M.dK o_;have ah:bp_ bm vb n cj cw w aP (n+a.size*i+a.size) J O I:=j.eN.trans V o_;obtain⟨gb,aa,rfl⟩:=ah.cD.slice (by have:=hin.pos;omega);have m:=io_ c0;have aj:=m 10 o_;have ak:=m 12 o_;simp[Α]at aj ak;clear m aH aI aJ aK j ac V;have m0:w.heap.size<I.heap.size:=o_;by_cases av:i<lo
      . have aM:¬(lo:Int)<=(i:Int):=o_;obtain⟨g,b,X,-,o⟩:=ν I #[.bool e1,.int .i64 (l:Int),.int .i64 (f:Int)] 187;have aE:g.heap.size=I.heap.size+1:=by rw[b];simp
        have r:g.heap[w.heap.size]? =some (.cells (Α ⟨kind,u,S,lo,co,en,ix,t⟩) 132 (0,0)):=by rw[b];exact φ c0
        have s:g.heap[w.heap.size+1]? =some (.cells #[.bool false,.int .i64 0,.int .i64 0] 187 (0,0)):=by rw[b];exact φ c1
        have k:g.heap[w.heap.size+1+1]? =some (.cells #[.bool c,.int .i64 (F:Int),.int .i64 (h:Int)] 187 (0,0)):=by rw[b];exact φ c2
        have q:=ah.grow X;go_upto_region 12 with fail;rw[<-b];clear b;obtain⟨F3,C⟩:=δ (if c then F|||l else F);obtain⟨L3,D⟩:=δ (if e1 then f|||h else f);obtain⟨e3,B⟩:=δ (c&&e1);have d:=m1_ bm gb (n+a.size*i+a.size) aa J O c e1 F h l f g o_ q.cD ao ar ag ai;rw[C.out,D.out,B.out]at d;obtain⟨s0,s1,s2,_,_,_⟩:=ay_ k;obtain⟨P,Q,R,_,_,_⟩:=ay_ o;go_wp2_with fail;refine d.mono ?_;clear d;rintro e w3 ⟨rfl,G,H⟩;obtain⟨f2,E⟩:=U.out.next au q (M.dX av) ad r s k G H C.out D.out B.out;obtain⟨q0,q1,q2,p0,p1,p2⟩:=ay_ f2;have Y:Hid _:=E;clear E G H s0 s1 s2 P Q R k o r s aj ak U;go_wp2_with fail;go_roundw
        case rel=>exact⟨i+1,_,_,_,_,_,_,by go_num,o_,Y.out⟩
        case measure=>exact c_
      . have aM:(lo:Int)<=(i:Int):=o_;cases en
        . obtain⟨g,b⟩:=af_ (I.alloc (.cells #[.bool true,.int .i64 (l:Int),.int .i64 (f:Int)] 187));have X:=ob_ b;have o:=aw_ b;have aE:g.heap.size=I.heap.size+1:=by rw[b];simp
          have r:g.heap[w.heap.size]? =some (.cells (Α ⟨kind,u,S,lo,co,false,ix,t⟩) 132 (0,0)):=by rw[b];exact φ c0
          have s:g.heap[w.heap.size+1]? =some (.cells #[.bool false,.int .i64 0,.int .i64 0] 187 (0,0)):=by rw[b];exact φ c1
          have k:g.heap[w.heap.size+1+1]? =some (.cells #[.bool c,.int .i64 (F:Int),.int .i64 (h:Int)] 187 (0,0)):=by rw[b];exact φ c2
          have q:=ah.grow X;go_upto_region 12 with fail;rw[<-b];clear b;obtain⟨F3,C⟩:=δ (if c then F|||l else F);obtain⟨L3,D⟩:=δ (if true then f|||h else f);obtain⟨e3,B⟩:=δ (c&&true);have d:=m1_ bm gb (n+a.size*i+a.size) aa J O c true F h l f g o_ q.cD ao ar ag ai;rw[C.out,D.out,B.out]at d;obtain⟨s0,s1,s2,_,_,_⟩:=ay_ k;obtain⟨P,Q,R,_,_,_⟩:=ay_ o;go_wp2_with fail;refine d.mono ?_;clear d;rintro e w3 ⟨rfl,G,H⟩;obtain⟨f2,E⟩:=U.out.next au q (M.eB av) ad r s k G H C.out D.out B.out;obtain⟨q0,q1,q2,p0,p1,p2⟩:=ay_ f2;have Y:Hid _:=E;clear E G H s0 s1 s2 P Q R k o r s aj ak U;go_wp2_with fail;go_roundw
          case rel=>exact⟨i+1,_,_,_,_,_,_,by go_num,o_,Y.out⟩
          case measure=>exact c_
        . obtain⟨g,b⟩:=af_ (I.alloc (.cells #[.bool true,.int .i64 (l:Int),.int .i64 (f:Int)] 187));have X:=ob_ b;have o:=aw_ b;have aE:g.heap.size=I.heap.size+1:=by rw[b];simp
          have r:g.heap[w.heap.size]? =some (.cells (Α ⟨kind,u,S,lo,co,true,ix,t⟩) 132 (0,0)):=by rw[b];exact φ c0
          have s:g.heap[w.heap.size+1]? =some (.cells #[.bool false,.int .i64 0,.int .i64 0] 187 (0,0)):=by rw[b];exact φ c1
          have k:g.heap[w.heap.size+1+1]? =some (.cells #[.bool c,.int .i64 (F:Int),.int .i64 (h:Int)] 187 (0,0)):=by rw[b];exact φ c2
          have q:=ah.grow X;go_upto_region 11 with fail;rw[<-b];clear b;have d:=act_ bm gb (n+a.size*i+a.size) aa J O f l g o_ q.cD ai ag;obtain⟨P,Q,R,_,_,_⟩:=ay_ o;go_wp2_with fail;refine d.mono ?_;clear d;rintro e w2 ⟨rfl,aF,N⟩;have aD:bp_ bm vb n cj cw w (.slice (some ⟨gb,0,none⟩) (n+a.size*i+a.size) aa) (n+a.size*i+a.size) (bf_ J f l) O w2:=q.linked aF N (fun p hp=>by have:=(M.la p hp).1;omega);have aO:ah_ O (bf_ J f l) n (n+a.size*i) c F h (fs_ a.lang lo true i):=ad.later (fun p _ hp=>uo_ (by
           cases hb:f.testBit p
           . rfl
           . have:=(M.la p hb).1;omega)) (fun _ _ _=>rfl)
          have az:=ed_ q.cD (j0_ N) r o_ d_;have aB:=ed_ q.cD (j0_ N) s o_ d_;have aC:=ed_ q.cD (j0_ N) k o_ d_;have aA:=ed_ q.cD (j0_ N) o o_ d_;have aw:=N.size;clear r s k o P Q R aF N;have r:=az;have s:=aB;have k:=aC;have o:=aA;clear az aB aC aA;obtain⟨F3,C⟩:=δ (if c then F|||l else F);obtain⟨L3,D⟩:=δ (if true then f|||h else f);obtain⟨e3,B⟩:=δ (c&&true);have d:=m1_ bm gb (n+a.size*i+a.size) aa (bf_ J f l) O c true F h l f w2 o_ aD.cD ao ar ag ai;rw[C.out,D.out,B.out]at d;obtain⟨s0,s1,s2,_,_,_⟩:=ay_ k;obtain⟨P,Q,R,_,_,_⟩:=ay_ o;go_wp2_with fail;refine d.mono ?_;clear d;rintro e w3 ⟨rfl,G,H⟩;obtain⟨f2,E⟩:=U.out.next au aD (M.dY av) aO r s k G H C.out D.out B.out;obtain⟨q0,q1,q2,p0,p1,p2⟩:=ay_ f2;have Y:Hid _:=E;clear E G H s0 s1 s2 P Q R k o r s aj ak U;go_wp2_with fail;go_roundw
          case rel=>exact⟨i+1,_,_,_,_,_,_,by go_num,o_,Y.out⟩
          case measure=>exact c_
    . have aN:¬(i:Int)<(co:Int):=o_;obtain rfl:i=co:=o_;obtain⟨q0,q1,q2,p0,p1,p2⟩:=ay_ j.rb;obtain⟨y0,y1,y2,_,_,_⟩:=ay_ j.wb;obtain⟨aq,ab⟩:=j1_ j.eN j.rb o_ o_ d_ (.bool c) (.int .i64 (F:Int)) (.int .i64 (h:Int));obtain⟨y,z,A,_,_,_⟩:=ay_ ab;have al:Hid _:=y;have am:Hid _:=z;have an:Hid _:=A;have aL:Hid _:=j.str;clear y z A ab j;go_wp2_with fail;have y:=al.out;have z:=am.out;have A:=an.out;refine bodyPost_ret (v:= .agg #[.bool c,.int .i64 (F:Int),.int .i64 (h:Int)]) (by simp[results,results171,go_sem,y,z,A]) rfl ?_;exact⟨c,F,h,af,Z,ae,rfl,aq,aL.out⟩
theorem acv_ (a:ζ)(HA:ky_ a)(L:List Nd)(gn cap i bm:Nat)(vb:Value)(n:Nat)(cj cw:Nat->Nat)(w:World)(S:Nat->Bool)(lo co:Nat)(en:Bool)(ix t:Nat)(hd:L[i]? =some ⟨4,a.size*co,S,lo,co,en,ix,t⟩)(ha:b3_ L ix a)(hin:fp_ w gn bm L vb n cj cw)(hn:n+a.size*co<=11):
 Calls prog 143 #[.pointer (some ⟨bm,0,none⟩),.slice (some ⟨gn,0,none⟩) L.length cap,.int .i64 (i:Int)] w (kx_ bm vb n cj cw (.rep a lo co en) w):=by
 obtain⟨ai,q⟩:=δ (a.size*co);rw[q.out]at hd;have al:i<L.length:=(gs_.1 hd).1;have aj:bm<w.heap.size:=hin.cD.cg.lt;have ak:gn<w.heap.size:=by have:=hin.ahead;omega
 have c:=hin.dL i _ hd;have O:=c 0 o_;have P:=c 1 o_;have X:=c 2 o_;have Y:=c 3 o_;have Z:=c 4 o_;have n5:=c 5 o_;have n6:=c 6 o_;have n7:=c 7 o_;have n8:=c 8 o_;have n9:=c 9 o_;have Q:=c 10 o_;have R:=c 11 o_;have T:=c 12 o_;have U:=c 13 o_;have V:=c 14 o_;simp[Α]at O P X Y Z n5 n6 n7 n8 n9 Q R T U V;clear c;obtain⟨W,f,p,b0,b1⟩:=bl_ w #[.bool false,.int .i64 0,.int .i64 0] 187 (Α ⟨4,ai,S,lo,co,en,ix,t⟩) 132
 have x:=hin.below p;have b:=io_ b1;have y:=b 0 o_;have z:=b 1 o_;have F:=b 2 o_;have G:=b 3 o_;have H:=b 4 o_;have I:=b 5 o_;have J:=b 6 o_;have K:=b 7 o_;have M:=b 8 o_;have N:=b 9 o_;have A:=b 10 o_;have B:=b 11 o_;have C:=b 12 o_;have D:=b 13 o_;have E:=b 14 o_;simp[Α]at y z F G H I J K M N A B C D E;clear b;unfold Α at f;simp only[show((0:Nat):Int)=0 from rfl,show((1:Nat):Int)=1 from rfl,show((2:Nat):Int)=2 from rfl,show((3:Nat):Int)=3 from rfl,show((4:Nat):Int)=4 from rfl]at f;go_enter func143,ntmps143;go_upto_region 2 with fail;rw[<-f];clear f O P X Y Z n5 n6 n7 n8 n9 Q R T U V;have d:=acu_ a HA L gn cap bm vb n cj cw W 4 S lo co en ix t ha x hn;rw[q.out]at d;unfold Α at d;simp only[show((4:Nat):Int)=4 from rfl]at d;go_wp2_with fail;refine d.mono ?_;clear d;rintro e w1 ⟨m,k,l,ab,r,aa,rfl,o,ah⟩;have s:=ed_ x.cD o.cJ b0 o_ d_;have af:bp_ bm vb n cj cw w ab (n+(ζ.rep a lo co en).size) r aa w1:=o.pre p;clear y z F G H I J K M N A B C D E o;obtain⟨q0,q1,q2,p0,p1,p2⟩:=ay_ s;obtain⟨ag,u⟩:=j1_ af s ι o_ d_ (.bool m) (.int .i64 (k:Int)) (.int .i64 (l:Int));obtain⟨g,h,j,_,_,_⟩:=ay_ u;have ac:Hid _:=g;have ad:Hid _:=h;have ae:Hid _:=j;clear g h j u;go_wp2_with fail;have g:=ac.out;have h:=ad.out;have j:=ae.out;refine bodyPost_ret (v:= .agg #[.bool m,.int .i64 (k:Int),.int .i64 (l:Int)]) (by simp[results,results143,go_sem,g,h,j]) rfl ?_;exact⟨m,k,l,ab,r,aa,rfl,ag,ah⟩
theorem acw_ (p:ζ):ky_ p:=by
 induction p with
 |none=>
  intro L g f i e m n c l w h j s;cases h with
  |none hd hk hs=>
   rename_i d;obtain⟨k,u,S,le,co,r,o,t⟩:=d;obtain rfl:k=0:=hk;exact acp_ L g f i e m n c l w u S le co r o t hd j
 |one S=>
  intro L g f i e m n c l w h j s;cases h with
  |one hd hk hs hS=>
   rename_i d;obtain⟨k,u,q,le,co,r,o,t⟩:=d;obtain rfl:k=1:=hk;obtain rfl:q=S:=hS;exact acq_ L g f i e m n c l w u q le co r o t hd j (by simp only[ζ.size]at s;omega)
 |chain a b iha ihb=>
  intro L g f i e m n c l w h j s;cases h with
  |chain hd hk hs ho ht h1 h2=>
   rename_i d;obtain⟨k,u,q,le,co,r,o,t⟩:=d;obtain rfl:k=2:=hk;subst ho ht;exact acr_ a b iha ihb L g f i e m n c l w u q le co r o t hd h1 h2 j s
 |alt a b iha ihb=>
  intro L g f i e m n c l w h j s;cases h with
  |alt hd hk hs ho ht h1 h2=>
   rename_i d;obtain⟨k,u,q,le,co,r,o,t⟩:=d;obtain rfl:k=3:=hk;subst ho ht;exact acs_ a b iha ihb L g f i e m n c l w u q le co r o t hd h1 h2 j s
 |rep a lo co r iha=>
  intro L g f i e m n c l w h j s;cases h with
  |rep hd hk hs ho hl hc he h1=>
   rename_i d;obtain⟨k,u,q,le,v,x,o,t⟩:=d;obtain rfl:k=4:=hk;simp only at hs ho hl hc he;subst ho hl hc he hs;exact acv_ a iha L g f i e m n c l w q le v x o t hd h1 j s
end Go.Proofs.YtpngikmcjkjdaaaGreatDoor
