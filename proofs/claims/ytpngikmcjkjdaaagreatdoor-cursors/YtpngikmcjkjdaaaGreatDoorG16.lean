import Derived.Test.YtpngikmcjkjdaaaGreatDoorG0
import Derived.Test.YtpngikmcjkjdaaaGreatDoorG14
set_option linter.unusedVariables false
set_option linter.unusedSimpArgs false
set_option maxRecDepth 20000
set_option maxHeartbeats 80000000
namespace Go.Proofs.YtpngikmcjkjdaaaGreatDoor
open Go.RowKit Tryz
def aat_ (bp:Nat)(s:ByteArray)(vn:Value)(r:Res (Nat×Nat))(e:Ending)(w':World):Prop:=
 match r with
 | .no t=>(∃f g:Int,e= .returned (.tuple #[.int .i64 f,.int .i64 g,.bool false]))/\aq_ w' bp s t.a vn t.bk (t.sp:Int)
 | .ok (f,g) t=>e= .returned (.tuple #[.int .i64 ((f:Nat):Int),.int .i64 ((g:Nat):Int),.bool true])/\aq_ w' bp s t.a vn t.bk (t.sp:Int)
theorem ab_.tr {S:Nat->Prop}{w w1 w2:World}(h:ab_ S w w1)(h':ab_ S w1 w2):ab_ S w w2:=h.join h' (fun _ _ h=>h)
theorem x0_ {s:ByteArray}{a:Nat}(h:bs_ s a=true):(ad_ s a:Int)- 97=((ad_ s a - 97:Nat):Int):=by
 have:=fx_ h;omega
theorem v5_ {s:ByteArray}{a:Nat}(h:bv_ s a=true):(ad_ s a:Int)- 48=((ad_ s a - 48:Nat):Int):=by
 have:=fy_ h;omega
theorem bq_ {bp:Nat}{s:ByteArray}{a b:Nat}{vn:Value}{bk:Bool}{sp:Int}{w:World}(hs:s.size<=40)(hh:hit s a b=true)(h:aq_ w bp s a vn bk sp):
 Calls prog 169 #[.pointer (some ⟨bp,0,none⟩),.int .u8 (b:Int)] w
  fun e w'=>e= .returned (.bool true)/\aq_ w' bp s (a+1) vn bk sp/\ab_ (fun k=>k=bp) w w':=by
 have:=j4_ bp s a b vn bk sp w hs h;simpa only [hh,if_true] using this
theorem aw_ {bp:Nat}{s:ByteArray}{a b:Nat}{vn:Value}{bk:Bool}{sp:Int}{w:World}(hs:s.size<=40)(hh:hit s a b=false)(h:aq_ w bp s a vn bk sp):
 Calls prog 169 #[.pointer (some ⟨bp,0,none⟩),.int .u8 (b:Int)] w
  fun e w'=>e= .returned (.bool false)/\aq_ w' bp s a vn bk sp/\ab_ (fun k=>k=bp) w w':=by
 have:=j4_ bp s a b vn bk sp w hs h;simpa only [hh,Bool.false_eq_true,if_false] using this
theorem km_ {bp:Nat}{s:ByteArray}{a:Nat}{vn:Value}{bk:Bool}{sp:Int}{w:World}(hs:s.size<=40)(hh:bs_ s a=true)(h:aq_ w bp s a vn bk sp):
 Calls prog 194 #[.pointer (some ⟨bp,0,none⟩)] w
  fun e w'=>e= .returned (.tuple #[.int .i64 ((ad_ s a - 97:Nat):Int),.bool true])/\aq_ w' bp s (a+1) vn bk sp/\ab_ (fun k=>k=bp) w w':=by
 have:=rn_ bp s a vn bk sp w hs h;simpa only [hh,if_true,x0_ hh] using this
theorem kn_ {bp:Nat}{s:ByteArray}{a:Nat}{vn:Value}{bk:Bool}{sp:Int}{w:World}(hs:s.size<=40)(hh:bs_ s a=false)(h:aq_ w bp s a vn bk sp):
 Calls prog 194 #[.pointer (some ⟨bp,0,none⟩)] w
  fun e w'=>e= .returned (.tuple #[.int .i64 0,.bool false])/\aq_ w' bp s a vn bk sp/\ab_ (fun k=>k=bp) w w':=by
 have:=rn_ bp s a vn bk sp w hs h;simpa only [hh,Bool.false_eq_true,if_false] using this
theorem px_ {bp:Nat}{s:ByteArray}{a:Nat}{vn:Value}{bk:Bool}{sp:Int}{w:World}(hs:s.size<=40)(hh:bv_ s a=true)(h:aq_ w bp s a vn bk sp):
 Calls prog 195 #[.pointer (some ⟨bp,0,none⟩)] w
  fun e w'=>e= .returned (.tuple #[.int .i64 ((ad_ s a - 48:Nat):Int),.bool true])/\aq_ w' bp s (a+1) vn bk sp/\ab_ (fun k=>k=bp) w w':=by
 have:=ro_ bp s a vn bk sp w hs h;simpa only [hh,if_true,v5_ hh] using this
theorem py_ {bp:Nat}{s:ByteArray}{a:Nat}{vn:Value}{bk:Bool}{sp:Int}{w:World}(hs:s.size<=40)(hh:bv_ s a=false)(h:aq_ w bp s a vn bk sp):
 Calls prog 195 #[.pointer (some ⟨bp,0,none⟩)] w
  fun e w'=>e= .returned (.tuple #[.int .i64 0,.bool false])/\aq_ w' bp s a vn bk sp/\ab_ (fun k=>k=bp) w w':=by
 have:=ro_ bp s a vn bk sp w hs h;simpa only [hh,Bool.false_eq_true,if_false] using this
theorem adr_ (bp:Nat)(s:ByteArray)(t:Sp)(vn:Value)(w:World)(hs:s.size<=40)(h:aq_ w bp s t.a vn t.bk (t.sp:Int)):
 Calls prog 197 #[.pointer (some ⟨bp,0,none⟩)] w fun e w'=>aat_ bp s vn (dv_ s t) e w'/\ab_ (fun k=>k=bp) w w':=by
 obtain⟨a,bk,sp⟩:=t;simp only at h;cases h1:bs_ s a
 . have hr:dv_ s ⟨a,bk,sp⟩= .no ⟨a,bk,sp⟩:=by simp[dv_,h1]
   rw[hr];have HC:=kn_ hs h1 h;clear hr h1 h;go_enter func197,ntmps197;go_wp2_with fail;refine HC.mono ?_;rintro e w1 ⟨rfl,hp,ht⟩;go_wp2_with fail;refine bodyPost_ret (v:= .tuple #[.int .i64 0,.int .i64 0,.bool false]) (by simp[results,results197,go_sem]) rfl ?_;exact⟨⟨⟨0,0,rfl⟩,hp⟩,ht⟩
 . have HC:=km_ hs h1 h;obtain⟨f,HF⟩:=hx__ (ad_ s a - 97);cases h2:hit s (a+1) 45
   . have hr:dv_ s ⟨a,bk,sp⟩= .ok (f,f) ⟨a+1,bk,sp⟩:=by simp[dv_,h1,h2,Sp.go,HF.out]
     rw[hr];rw[HF.out]at HC;clear hr h1 h;go_enter func197,ntmps197;go_wp2_with fail;refine HC.mono ?_;rintro e w1 ⟨rfl,hp,ht⟩;clear HC;have HC2:=aw_ hs h2 hp;go_wp2_with fail;refine HC2.mono ?_;rintro e w2 ⟨rfl,hp2,ht2⟩;go_wp2_with fail;refine bodyPost_ret (v:= .tuple #[.int .i64 (f:Int),.int .i64 (f:Int),.bool true]) (by simp[results,results197,go_sem]) rfl ?_;exact⟨⟨rfl,hp2⟩,ht.tr ht2⟩
   . cases h3:bs_ s (a+1+1)
     . have hr:dv_ s ⟨a,bk,sp⟩= .no ⟨a+1+1,bk,sp⟩:=by simp[dv_,h1,h2,h3,Sp.go]
       rw[hr];rw[HF.out]at HC;clear hr h1 h;go_enter func197,ntmps197;go_wp2_with fail;refine HC.mono ?_;rintro e w1 ⟨rfl,hp,ht⟩;clear HC;have HC2:=bq_ hs h2 hp;go_wp2_with fail;refine HC2.mono ?_;rintro e w2 ⟨rfl,hp2,ht2⟩;clear HC2;have HC3:=kn_ hs h3 hp2;go_wp2_with fail;refine HC3.mono ?_;rintro e w3 ⟨rfl,hp3,ht3⟩;go_wp2_with fail;refine bodyPost_ret (v:= .tuple #[.int .i64 (f:Int),.int .i64 0,.bool false]) (by simp[results,results197,go_sem]) rfl ?_;exact⟨⟨⟨_,_,rfl⟩,hp3⟩,(ht.tr ht2).tr ht3⟩
     . obtain⟨g,HG⟩:=hx__ (ad_ s (a+1+1)- 97);have hr:dv_ s ⟨a,bk,sp⟩= .ok (f,g) ⟨a+1+1+1,bk,sp⟩:=by simp[dv_,h1,h2,h3,Sp.go,HF.out,HG.out]
       rw[hr];rw[HF.out]at HC;clear hr h1 h;go_enter func197,ntmps197;go_wp2_with fail;refine HC.mono ?_;rintro e w1 ⟨rfl,hp,ht⟩;clear HC;have HC2:=bq_ hs h2 hp;go_wp2_with fail;refine HC2.mono ?_;rintro e w2 ⟨rfl,hp2,ht2⟩;clear HC2;have HC3:=km_ hs h3 hp2;rw[HG.out]at HC3;go_wp2_with fail;refine HC3.mono ?_;rintro e w3 ⟨rfl,hp3,ht3⟩;go_wp2_with fail;refine bodyPost_ret (v:= .tuple #[.int .i64 (f:Int),.int .i64 (g:Int),.bool true]) (by simp[results,results197,go_sem]) rfl ?_;exact⟨⟨rfl,hp3⟩,(ht.tr ht2).tr ht3⟩
def x1_ (bp:Nat)(s:ByteArray)(vn:Value)(r:Res (Nat×Nat×Bool))(e:Ending)(w':World):Prop:=
 match r with
 | .no t=>(∃(a b:Int) (c:Bool),e= .returned (.tuple #[.agg #[.int .i64 a,.int .i64 b,.bool c],.bool false]))/\aq_ w' bp s t.a vn t.bk (t.sp:Int)
 | .ok (lo,co,en) t=>e= .returned (.tuple #[.agg #[.int .i64 ((lo:Nat):Int),.int .i64 ((co:Nat):Int),.bool en],.bool true])/\aq_ w' bp s t.a vn t.bk (t.sp:Int)
theorem aq_.other {w:World}{bp:Nat}{s:ByteArray}{a:Nat}{vn:Value}{bk:Bool}{sp:Int}(h:aq_ w bp s a vn bk sp){p:Addr}(hp:bp≠p.block)(v:Value):aq_ (w.setCell p v) bp s a vn bk sp:=aj_ h hp
theorem aq_.block {w w1:World}{bp:Nat}{s:ByteArray}{a:Nat}{vn:Value}{bk:Bool}{sp:Int}(h:aq_ w bp s a vn bk sp)(hb:w1.heap[bp]? =w.heap[bp]?):aq_ w1 bp s a vn bk sp:=hb.trans h
theorem fc_ {w w1:World}{bp B:Nat}{s:ByteArray}{a:Nat}{vn:Value}{bk:Bool}{sp:Int}(hp:aq_ w1 bp s a vn bk sp)(ht:ab_ (fun k=>k=bp) w w1)(hB:w.heap.size<=B)(hne:bp<B){x y z:Value}{t:TypeId}(hblk:w1.heap[B]? =some (.cells #[x,y,z] t (0,0)))(u v r:Value):
 (((w1.setCell ⟨B,0,none⟩ u).setCell ⟨B,1,none⟩ v).setCell ⟨B,2,none⟩ r).cell? ⟨B,0,none⟩=some u/\(((w1.setCell ⟨B,0,none⟩ u).setCell ⟨B,1,none⟩ v).setCell ⟨B,2,none⟩ r).cell? ⟨B,1,none⟩=some v/\(((w1.setCell ⟨B,0,none⟩ u).setCell ⟨B,1,none⟩ v).setCell ⟨B,2,none⟩ r).cell? ⟨B,2,none⟩=some r/\
 aq_ (((w1.setCell ⟨B,0,none⟩ u).setCell ⟨B,1,none⟩ v).setCell ⟨B,2,none⟩ r) bp s a vn bk sp/\ab_ (fun k=>k=bp) w (((w1.setCell ⟨B,0,none⟩ u).setCell ⟨B,1,none⟩ v).setCell ⟨B,2,none⟩ r):=by
 have h3:(((w1.setCell ⟨B,0,none⟩ u).setCell ⟨B,1,none⟩ v).setCell ⟨B,2,none⟩ r).heap[B]? =some (.cells #[u,v,r] t (0,0)):=by
  simp[World.setCell,Array.getElem?_modify,hblk]
 obtain⟨c0,c1,c2,_,_,_⟩:=ak_ h3;exact⟨c0,c1,c2,((hp.other s_ _).other s_ _).other s_ _,((ht.set _ _ (.inr hB)).set _ _ (.inr hB)).set _ _ (.inr hB)⟩
theorem rs_ {bp:Nat}{s:ByteArray}{a:Nat}{vn:Value}{bk:Bool}{sp pl:Nat}{w:World}(h:aq_ w bp s a vn bk (sp:Int)):
 Calls prog 196 #[.pointer (some ⟨bp,0,none⟩),.int .i64 (pl:Int)] w
  fun e w'=>e= .returned (.tuple #[])/\aq_ w' bp s a vn true (((if bk then sp else pl:Nat):Nat):Int)/\ab_ (fun k=>k=bp) w w':=by
 have:=n6_ bp s a vn bk (sp:Int) (pl:Int) w h;cases bk<;>simpa using this
theorem rt_ (bp:Nat)(s:ByteArray)(t:Sp)(vn:Value)(w:World)(hs:s.size<=40)(hta:t.a<=40)(h:aq_ w bp s t.a vn t.bk (t.sp:Int)):
 Calls prog 190 #[.pointer (some ⟨bp,0,none⟩)] w fun e w'=>x1_ bp s vn (b9_ s t) e w'/\ab_ (fun k=>k=bp) w w':=by
 obtain⟨a,bk,sp⟩:=t;simp only at h hta;have hbp:bp<w.heap.size:=ac_ h;obtain⟨W,hW,-,-,-⟩:=nw__ w #[.int .i64 0,.int .i64 0,.bool false] 130;have TW:ab_ (fun k=>k=bp) w W:=by rw[hW];exact(ab_.refl _ _).alloc _
 have hWs:=sz__ hW;have b0:=hn__ hW;have h0:aq_ W bp s a vn bk (sp:Int):=h.block (by rw[hW];exact Below.heap_alloc w _ bp hbp);obtain⟨x0,x1,x2,x3,x4,_,_,_⟩:=h0.cells;clear x0 x2 x3 x4;cases h1:bv_ s a
 . have hr:b9_ s ⟨a,bk,sp⟩= .no ⟨a,bk,sp⟩:=by simp[b9_,Sp.go,bk_,Sp.tell,h1]
   rw[hr];clear hr h;go_enter func190,ntmps190;go_upto_region 1 with fail;rw[<-hW];clear hW;have HC1:=py_ hs h1 h0;go_wp2_with fail;refine HC1.mono ?_;rintro e w1 ⟨rfl,hp1,ht1⟩;clear HC1;have hz1:=ht1.size;have bb1:=(ht1.block _ o_ o_).trans b0;have tt1:=TW.tr ht1;obtain⟨q0,q1,q2,p0,p1,p2⟩:=ak_ bb1;obtain⟨r0,r1,r2,hpf,htf⟩:=fc_ hp1 tt1 lr__ hbp bb1 (.int .i64 0) (.int .i64 0) (.bool false);have HR0:Hid _:=r0;have HR1:Hid _:=r1;have HR2:Hid _:=r2;clear r0 r1 r2;go_wp2_with fail;have r0:=HR0.out;have r1:=HR1.out;have r2:=HR2.out;refine bodyPost_ret (v:= .tuple #[.agg #[.int .i64 0,.int .i64 0,.bool false],.bool false]) (by simp[results,results190,go_sem,r0,r1,r2]) rfl ?_;exact⟨⟨⟨_,_,_,rfl⟩,hpf⟩,htf⟩
 obtain⟨f,HF⟩:=hx__ (ad_ s a - 48);have hf9:f<=9:=by have:=fy_ h1;rw[HF.out]at this;omega
 have HD:∀w,aq_ w bp s a vn bk (sp:Int)->_:=fun w h=>px_ (w:=w) hs h1 h
 rw[HF.out]at HD;cases h2:hit s (a+1) 125
 rotate_left 1
 . have hr:b9_ s ⟨a,bk,sp⟩= .ok (f,f,false) ⟨a+1+1,bk,sp⟩:=by simp[b9_,Sp.go,bk_,Sp.tell,h1,h2,HF.out]
   rw[hr];clear hr h;go_enter func190,ntmps190;go_upto_region 1 with fail;rw[<-hW];clear hW;have HC1:=HD _ h0;go_wp2_with fail;refine HC1.mono ?_;rintro e w1 ⟨rfl,hp1,ht1⟩;clear HC1;have hz1:=ht1.size;have bb1:=(ht1.block _ o_ o_).trans b0;have tt1:=TW.tr ht1;have HC2:=bq_ hs h2 hp1;go_wp2_with fail;refine HC2.mono ?_;rintro e w2 ⟨rfl,hp2,ht2⟩;clear HC2;have hz2:=ht2.size;have bb2:=(ht2.block _ o_ o_).trans bb1;have tt2:=tt1.tr ht2;obtain⟨q0,q1,q2,p0,p1,p2⟩:=ak_ bb2;obtain⟨r0,r1,r2,hpf,htf⟩:=fc_ hp2 tt2 lr__ hbp bb2 (.int .i64 (f:Int)) (.int .i64 (f:Int)) (.bool false);have HR0:Hid _:=r0;have HR1:Hid _:=r1;have HR2:Hid _:=r2;clear r0 r1 r2;go_wp2_with fail;have r0:=HR0.out;have r1:=HR1.out;have r2:=HR2.out;refine bodyPost_ret (v:= .tuple #[.agg #[.int .i64 (f:Int),.int .i64 (f:Int),.bool false],.bool true]) (by simp[results,results190,go_sem,r0,r1,r2]) rfl ?_;exact⟨⟨rfl,hpf⟩,htf⟩
 cases h3:hit s (a+1) 44
 . have hr:b9_ s ⟨a,bk,sp⟩= .no ⟨a+1,bk,sp⟩:=by simp[b9_,Sp.go,bk_,Sp.tell,h1,h2,h3]
   rw[hr];clear hr h;go_enter func190,ntmps190;go_upto_region 1 with fail;rw[<-hW];clear hW;have HC1:=HD _ h0;go_wp2_with fail;refine HC1.mono ?_;rintro e w1 ⟨rfl,hp1,ht1⟩;clear HC1;have hz1:=ht1.size;have bb1:=(ht1.block _ o_ o_).trans b0;have tt1:=TW.tr ht1;have HC2:=aw_ hs h2 hp1;go_wp2_with fail;refine HC2.mono ?_;rintro e w2 ⟨rfl,hp2,ht2⟩;clear HC2;have hz2:=ht2.size;have bb2:=(ht2.block _ o_ o_).trans bb1;have tt2:=tt1.tr ht2;have HC3:=aw_ hs h3 hp2;go_wp2_with fail;refine HC3.mono ?_;rintro e w3 ⟨rfl,hp3,ht3⟩;clear HC3;have hz3:=ht3.size;have bb3:=(ht3.block _ o_ o_).trans bb2;have tt3:=tt2.tr ht3;obtain⟨q0,q1,q2,p0,p1,p2⟩:=ak_ bb3;obtain⟨r0,r1,r2,hpf,htf⟩:=fc_ hp3 tt3 lr__ hbp bb3 (.int .i64 0) (.int .i64 0) (.bool false);have HR0:Hid _:=r0;have HR1:Hid _:=r1;have HR2:Hid _:=r2;clear r0 r1 r2;go_wp2_with fail;have r0:=HR0.out;have r1:=HR1.out;have r2:=HR2.out;refine bodyPost_ret (v:= .tuple #[.agg #[.int .i64 0,.int .i64 0,.bool false],.bool false]) (by simp[results,results190,go_sem,r0,r1,r2]) rfl ?_;exact⟨⟨⟨_,_,_,rfl⟩,hpf⟩,htf⟩
 cases h4:hit s (a+1+1) 125
 rotate_left 1
 . have hr:b9_ s ⟨a,bk,sp⟩= .ok (f,f+1,true) ⟨a+1+1+1,bk,sp⟩:=by simp[b9_,Sp.go,bk_,Sp.tell,h1,h2,h3,h4,HF.out]
   rw[hr];clear hr h;go_enter func190,ntmps190;go_upto_region 1 with fail;rw[<-hW];clear hW;have HC1:=HD _ h0;go_wp2_with fail;refine HC1.mono ?_;rintro e w1 ⟨rfl,hp1,ht1⟩;clear HC1;have hz1:=ht1.size;have bb1:=(ht1.block _ o_ o_).trans b0;have tt1:=TW.tr ht1;have HC2:=aw_ hs h2 hp1;go_wp2_with fail;refine HC2.mono ?_;rintro e w2 ⟨rfl,hp2,ht2⟩;clear HC2;have hz2:=ht2.size;have bb2:=(ht2.block _ o_ o_).trans bb1;have tt2:=tt1.tr ht2;have HC3:=bq_ hs h3 hp2;go_wp2_with fail;refine HC3.mono ?_;rintro e w3 ⟨rfl,hp3,ht3⟩;clear HC3;have hz3:=ht3.size;have bb3:=(ht3.block _ o_ o_).trans bb2;have tt3:=tt2.tr ht3;have HC4:=bq_ hs h4 hp3;go_wp2_with fail;refine HC4.mono ?_;rintro e w4 ⟨rfl,hp4,ht4⟩;clear HC4;have hz4:=ht4.size;have bb4:=(ht4.block _ o_ o_).trans bb3;have tt4:=tt3.tr ht4;obtain⟨q0,q1,q2,p0,p1,p2⟩:=ak_ bb4;obtain⟨r0,r1,r2,hpf,htf⟩:=fc_ hp4 tt4 lr__ hbp bb4 (.int .i64 (f:Int)) (.int .i64 ((f:Int)+1)) (.bool true);have HR0:Hid _:=r0;have HR1:Hid _:=r1;have HR2:Hid _:=r2;clear r0 r1 r2;go_wp2_with fail;have r0:=HR0.out;have r1:=HR1.out;have r2:=HR2.out;refine bodyPost_ret (v:= .tuple #[.agg #[.int .i64 (f:Int),.int .i64 ((f:Int)+1),.bool true],.bool true]) (by simp[results,results190,go_sem,r0,r1,r2]) rfl ?_;exact⟨⟨rfl,hpf⟩,htf⟩
 cases h5:bv_ s (a+1+1)
 . have hr:b9_ s ⟨a,bk,sp⟩= .no ⟨a+1+1,bk,sp⟩:=by simp[b9_,Sp.go,bk_,Sp.tell,h1,h2,h3,h4,h5]
   rw[hr];clear hr h;go_enter func190,ntmps190;go_upto_region 1 with fail;rw[<-hW];clear hW;have HC1:=HD _ h0;go_wp2_with fail;refine HC1.mono ?_;rintro e w1 ⟨rfl,hp1,ht1⟩;clear HC1;have hz1:=ht1.size;have bb1:=(ht1.block _ o_ o_).trans b0;have tt1:=TW.tr ht1;have HC2:=aw_ hs h2 hp1;go_wp2_with fail;refine HC2.mono ?_;rintro e w2 ⟨rfl,hp2,ht2⟩;clear HC2;have hz2:=ht2.size;have bb2:=(ht2.block _ o_ o_).trans bb1;have tt2:=tt1.tr ht2;have HC3:=bq_ hs h3 hp2;go_wp2_with fail;refine HC3.mono ?_;rintro e w3 ⟨rfl,hp3,ht3⟩;clear HC3;have hz3:=ht3.size;have bb3:=(ht3.block _ o_ o_).trans bb2;have tt3:=tt2.tr ht3;have HC4:=aw_ hs h4 hp3;go_wp2_with fail;refine HC4.mono ?_;rintro e w4 ⟨rfl,hp4,ht4⟩;clear HC4;have hz4:=ht4.size;have bb4:=(ht4.block _ o_ o_).trans bb3;have tt4:=tt3.tr ht4;have HC5:=py_ hs h5 hp4;go_wp2_with fail;refine HC5.mono ?_;rintro e w5 ⟨rfl,hp5,ht5⟩;clear HC5;have hz5:=ht5.size;have bb5:=(ht5.block _ o_ o_).trans bb4;have tt5:=tt4.tr ht5;obtain⟨q0,q1,q2,p0,p1,p2⟩:=ak_ bb5;obtain⟨r0,r1,r2,hpf,htf⟩:=fc_ hp5 tt5 lr__ hbp bb5 (.int .i64 0) (.int .i64 0) (.bool false);have HR0:Hid _:=r0;have HR1:Hid _:=r1;have HR2:Hid _:=r2;clear r0 r1 r2;go_wp2_with fail;have r0:=HR0.out;have r1:=HR1.out;have r2:=HR2.out;refine bodyPost_ret (v:= .tuple #[.agg #[.int .i64 0,.int .i64 0,.bool false],.bool false]) (by simp[results,results190,go_sem,r0,r1,r2]) rfl ?_;exact⟨⟨⟨_,_,_,rfl⟩,hpf⟩,htf⟩
 obtain⟨g,HG⟩:=hx__ (ad_ s (a+1+1)- 48);have hg9:g<=9:=by have:=fy_ h5;rw[HG.out]at this;omega
 have HE:∀w,aq_ w bp s (a+1+1) vn bk (sp:Int)->_:=fun w h=>px_ (w:=w) hs h5 h
 rw[HG.out]at HE;by_cases hlt:g<f
 . have hlt':(g:Int)<(f:Int):=o_;obtain⟨sq,HSQ⟩:=hx__ (if bk then sp else a);have HTL:∀w,aq_ w bp s (a+1+1+1) vn bk (sp:Int)->_:=fun w h=>rs_ (w:=w) (pl:=a) h
   rw[HSQ.out]at HTL;cases h6:hit s (a+1+1+1) 125
   . have hr:b9_ s ⟨a,bk,sp⟩= .no ⟨a+1+1+1,true,sq⟩:=by rw[<-HSQ.out];cases bk<;>simp[b9_,Sp.go,bk_,Sp.tell,h1,h2,h3,h4,h5,h6,HF.out,HG.out,hlt]
     rw[hr];clear hr h;go_enter func190,ntmps190;go_upto_region 1 with fail;rw[<-hW];clear hW;have HC1:=HD _ h0;go_wp2_with fail;refine HC1.mono ?_;rintro e w1 ⟨rfl,hp1,ht1⟩;clear HC1;have hz1:=ht1.size;have bb1:=(ht1.block _ o_ o_).trans b0;have tt1:=TW.tr ht1;have HC2:=aw_ hs h2 hp1;go_wp2_with fail;refine HC2.mono ?_;rintro e w2 ⟨rfl,hp2,ht2⟩;clear HC2;have hz2:=ht2.size;have bb2:=(ht2.block _ o_ o_).trans bb1;have tt2:=tt1.tr ht2;have HC3:=bq_ hs h3 hp2;go_wp2_with fail;refine HC3.mono ?_;rintro e w3 ⟨rfl,hp3,ht3⟩;clear HC3;have hz3:=ht3.size;have bb3:=(ht3.block _ o_ o_).trans bb2;have tt3:=tt2.tr ht3;have HC4:=aw_ hs h4 hp3;go_wp2_with fail;refine HC4.mono ?_;rintro e w4 ⟨rfl,hp4,ht4⟩;clear HC4;have hz4:=ht4.size;have bb4:=(ht4.block _ o_ o_).trans bb3;have tt4:=tt3.tr ht4;have HC5:=HE _ hp4;go_wp2_with fail;refine HC5.mono ?_;rintro e w5 ⟨rfl,hp5,ht5⟩;clear HC5;have hz5:=ht5.size;have bb5:=(ht5.block _ o_ o_).trans bb4;have tt5:=tt4.tr ht5;have HC6:=HTL _ hp5;go_wp2_with fail;refine HC6.mono ?_;rintro e w6 ⟨rfl,hp6,ht6⟩;clear HC6;have hz6:=ht6.size;have bb6:=(ht6.block _ o_ o_).trans bb5;have tt6:=tt5.tr ht6;have HC7:=aw_ hs h6 hp6;go_wp2_with fail;refine HC7.mono ?_;rintro e w7 ⟨rfl,hp7,ht7⟩;clear HC7;have hz7:=ht7.size;have bb7:=(ht7.block _ o_ o_).trans bb6;have tt7:=tt6.tr ht7;obtain⟨q0,q1,q2,p0,p1,p2⟩:=ak_ bb7;obtain⟨r0,r1,r2,hpf,htf⟩:=fc_ hp7 tt7 lr__ hbp bb7 (.int .i64 (f:Int)) (.int .i64 (g:Int)) (.bool false);have HR0:Hid _:=r0;have HR1:Hid _:=r1;have HR2:Hid _:=r2;clear r0 r1 r2;go_wp2_with fail;have r0:=HR0.out;have r1:=HR1.out;have r2:=HR2.out;refine bodyPost_ret (v:= .tuple #[.agg #[.int .i64 (f:Int),.int .i64 (g:Int),.bool false],.bool false]) (by simp[results,results190,go_sem,r0,r1,r2]) rfl ?_;exact⟨⟨⟨_,_,_,rfl⟩,hpf⟩,htf⟩
   . have hr:b9_ s ⟨a,bk,sp⟩= .ok (f,g,false) ⟨a+1+1+1+1,true,sq⟩:=by rw[<-HSQ.out];cases bk<;>simp[b9_,Sp.go,bk_,Sp.tell,h1,h2,h3,h4,h5,h6,HF.out,HG.out,hlt]
     rw[hr];clear hr h;go_enter func190,ntmps190;go_upto_region 1 with fail;rw[<-hW];clear hW;have HC1:=HD _ h0;go_wp2_with fail;refine HC1.mono ?_;rintro e w1 ⟨rfl,hp1,ht1⟩;clear HC1;have hz1:=ht1.size;have bb1:=(ht1.block _ o_ o_).trans b0;have tt1:=TW.tr ht1;have HC2:=aw_ hs h2 hp1;go_wp2_with fail;refine HC2.mono ?_;rintro e w2 ⟨rfl,hp2,ht2⟩;clear HC2;have hz2:=ht2.size;have bb2:=(ht2.block _ o_ o_).trans bb1;have tt2:=tt1.tr ht2;have HC3:=bq_ hs h3 hp2;go_wp2_with fail;refine HC3.mono ?_;rintro e w3 ⟨rfl,hp3,ht3⟩;clear HC3;have hz3:=ht3.size;have bb3:=(ht3.block _ o_ o_).trans bb2;have tt3:=tt2.tr ht3;have HC4:=aw_ hs h4 hp3;go_wp2_with fail;refine HC4.mono ?_;rintro e w4 ⟨rfl,hp4,ht4⟩;clear HC4;have hz4:=ht4.size;have bb4:=(ht4.block _ o_ o_).trans bb3;have tt4:=tt3.tr ht4;have HC5:=HE _ hp4;go_wp2_with fail;refine HC5.mono ?_;rintro e w5 ⟨rfl,hp5,ht5⟩;clear HC5;have hz5:=ht5.size;have bb5:=(ht5.block _ o_ o_).trans bb4;have tt5:=tt4.tr ht5;have HC6:=HTL _ hp5;go_wp2_with fail;refine HC6.mono ?_;rintro e w6 ⟨rfl,hp6,ht6⟩;clear HC6;have hz6:=ht6.size;have bb6:=(ht6.block _ o_ o_).trans bb5;have tt6:=tt5.tr ht6;have HC7:=bq_ hs h6 hp6;go_wp2_with fail;refine HC7.mono ?_;rintro e w7 ⟨rfl,hp7,ht7⟩;clear HC7;have hz7:=ht7.size;have bb7:=(ht7.block _ o_ o_).trans bb6;have tt7:=tt6.tr ht7;obtain⟨q0,q1,q2,p0,p1,p2⟩:=ak_ bb7;obtain⟨r0,r1,r2,hpf,htf⟩:=fc_ hp7 tt7 lr__ hbp bb7 (.int .i64 (f:Int)) (.int .i64 (g:Int)) (.bool false);have HR0:Hid _:=r0;have HR1:Hid _:=r1;have HR2:Hid _:=r2;clear r0 r1 r2;go_wp2_with fail;have r0:=HR0.out;have r1:=HR1.out;have r2:=HR2.out;refine bodyPost_ret (v:= .tuple #[.agg #[.int .i64 (f:Int),.int .i64 (g:Int),.bool false],.bool true]) (by simp[results,results190,go_sem,r0,r1,r2]) rfl ?_;exact⟨⟨rfl,hpf⟩,htf⟩
 . have hlt':¬(g:Int)<(f:Int):=o_;cases h6:hit s (a+1+1+1) 125
   . have hr:b9_ s ⟨a,bk,sp⟩= .no ⟨a+1+1+1,bk,sp⟩:=by simp[b9_,Sp.go,bk_,Sp.tell,h1,h2,h3,h4,h5,h6,HF.out,HG.out,hlt]
     rw[hr];clear hr h;go_enter func190,ntmps190;go_upto_region 1 with fail;rw[<-hW];clear hW;have HC1:=HD _ h0;go_wp2_with fail;refine HC1.mono ?_;rintro e w1 ⟨rfl,hp1,ht1⟩;clear HC1;have hz1:=ht1.size;have bb1:=(ht1.block _ o_ o_).trans b0;have tt1:=TW.tr ht1;have HC2:=aw_ hs h2 hp1;go_wp2_with fail;refine HC2.mono ?_;rintro e w2 ⟨rfl,hp2,ht2⟩;clear HC2;have hz2:=ht2.size;have bb2:=(ht2.block _ o_ o_).trans bb1;have tt2:=tt1.tr ht2;have HC3:=bq_ hs h3 hp2;go_wp2_with fail;refine HC3.mono ?_;rintro e w3 ⟨rfl,hp3,ht3⟩;clear HC3;have hz3:=ht3.size;have bb3:=(ht3.block _ o_ o_).trans bb2;have tt3:=tt2.tr ht3;have HC4:=aw_ hs h4 hp3;go_wp2_with fail;refine HC4.mono ?_;rintro e w4 ⟨rfl,hp4,ht4⟩;clear HC4;have hz4:=ht4.size;have bb4:=(ht4.block _ o_ o_).trans bb3;have tt4:=tt3.tr ht4;have HC5:=HE _ hp4;go_wp2_with fail;refine HC5.mono ?_;rintro e w5 ⟨rfl,hp5,ht5⟩;clear HC5;have hz5:=ht5.size;have bb5:=(ht5.block _ o_ o_).trans bb4;have tt5:=tt4.tr ht5;have HC6:=aw_ hs h6 hp5;go_wp2_with fail;refine HC6.mono ?_;rintro e w6 ⟨rfl,hp6,ht6⟩;clear HC6;have hz6:=ht6.size;have bb6:=(ht6.block _ o_ o_).trans bb5;have tt6:=tt5.tr ht6;obtain⟨q0,q1,q2,p0,p1,p2⟩:=ak_ bb6;obtain⟨r0,r1,r2,hpf,htf⟩:=fc_ hp6 tt6 lr__ hbp bb6 (.int .i64 (f:Int)) (.int .i64 (g:Int)) (.bool false);have HR0:Hid _:=r0;have HR1:Hid _:=r1;have HR2:Hid _:=r2;clear r0 r1 r2;go_wp2_with fail;have r0:=HR0.out;have r1:=HR1.out;have r2:=HR2.out;refine bodyPost_ret (v:= .tuple #[.agg #[.int .i64 (f:Int),.int .i64 (g:Int),.bool false],.bool false]) (by simp[results,results190,go_sem,r0,r1,r2]) rfl ?_;exact⟨⟨⟨_,_,_,rfl⟩,hpf⟩,htf⟩
   . have hr:b9_ s ⟨a,bk,sp⟩= .ok (f,g,false) ⟨a+1+1+1+1,bk,sp⟩:=by simp[b9_,Sp.go,bk_,Sp.tell,h1,h2,h3,h4,h5,h6,HF.out,HG.out,hlt]
     rw[hr];clear hr h;go_enter func190,ntmps190;go_upto_region 1 with fail;rw[<-hW];clear hW;have HC1:=HD _ h0;go_wp2_with fail;refine HC1.mono ?_;rintro e w1 ⟨rfl,hp1,ht1⟩;clear HC1;have hz1:=ht1.size;have bb1:=(ht1.block _ o_ o_).trans b0;have tt1:=TW.tr ht1;have HC2:=aw_ hs h2 hp1;go_wp2_with fail;refine HC2.mono ?_;rintro e w2 ⟨rfl,hp2,ht2⟩;clear HC2;have hz2:=ht2.size;have bb2:=(ht2.block _ o_ o_).trans bb1;have tt2:=tt1.tr ht2;have HC3:=bq_ hs h3 hp2;go_wp2_with fail;refine HC3.mono ?_;rintro e w3 ⟨rfl,hp3,ht3⟩;clear HC3;have hz3:=ht3.size;have bb3:=(ht3.block _ o_ o_).trans bb2;have tt3:=tt2.tr ht3;have HC4:=aw_ hs h4 hp3;go_wp2_with fail;refine HC4.mono ?_;rintro e w4 ⟨rfl,hp4,ht4⟩;clear HC4;have hz4:=ht4.size;have bb4:=(ht4.block _ o_ o_).trans bb3;have tt4:=tt3.tr ht4;have HC5:=HE _ hp4;go_wp2_with fail;refine HC5.mono ?_;rintro e w5 ⟨rfl,hp5,ht5⟩;clear HC5;have hz5:=ht5.size;have bb5:=(ht5.block _ o_ o_).trans bb4;have tt5:=tt4.tr ht5;have HC6:=bq_ hs h6 hp5;go_wp2_with fail;refine HC6.mono ?_;rintro e w6 ⟨rfl,hp6,ht6⟩;clear HC6;have hz6:=ht6.size;have bb6:=(ht6.block _ o_ o_).trans bb5;have tt6:=tt5.tr ht6;obtain⟨q0,q1,q2,p0,p1,p2⟩:=ak_ bb6;obtain⟨r0,r1,r2,hpf,htf⟩:=fc_ hp6 tt6 lr__ hbp bb6 (.int .i64 (f:Int)) (.int .i64 (g:Int)) (.bool false);have HR0:Hid _:=r0;have HR1:Hid _:=r1;have HR2:Hid _:=r2;clear r0 r1 r2;go_wp2_with fail;have r0:=HR0.out;have r1:=HR1.out;have r2:=HR2.out;refine bodyPost_ret (v:= .tuple #[.agg #[.int .i64 (f:Int),.int .i64 (g:Int),.bool false],.bool true]) (by simp[results,results190,go_sem,r0,r1,r2]) rfl ?_;exact⟨⟨rfl,hpf⟩,htf⟩
def ads_ (bp:Nat)(s:ByteArray)(vn:Value)(r:Res (Nat->Bool))(e:Ending)(w':World):Prop:=
 match r with
 | .no t=>(∃f,e= .returned (.tuple #[.agg (ap_ f),.bool false]))/\aq_ w' bp s t.a vn t.bk (t.sp:Int)
 | .ok N t=>e= .returned (.tuple #[.agg (ap_ N),.bool true])/\aq_ w' bp s t.a vn t.bk (t.sp:Int)
def atOf (w:World)(bp:Nat):Nat:=match w.cell? ⟨bp,1,none⟩with
 |some (.int _ a)=>a.toNat
 |_=>0
theorem aq_.atOf {w:World}{bp:Nat}{s:ByteArray}{a:Nat}{vn:Value}{bk:Bool}{sp:Int}(h:aq_ w bp s a vn bk sp):atOf w bp=a:=by
 obtain⟨_,x1,_⟩:=h.cells;unfold Go.Proofs.YtpngikmcjkjdaaaGreatDoor.atOf;rw[x1];simp
def finR (ob:Bool)(r:Res (Nat->Bool)):Res (Nat->Bool):=match r with
 | .no t=> .no t
 | .ok N t=> .ok (if ob then fun c=> !N c else N) t
theorem aau_ (s:ByteArray)(t:Sp):setF s t=finR (hit s t.a 94) (cx_ s (s.size+1) (fun _=>false) (if hit s t.a 94 then t.go else t)):=by
 unfold setF finR;cases hit s t.a 94
 . simp only[Bool.false_eq_true,if_false];cases cx_ s (s.size+1) (fun _=>false) t<;>rfl
 . simp only[if_true];cases cx_ s (s.size+1) (fun _=>false) t.go<;>rfl
structure h5_ (R:Res (Nat->Bool))(w:World)(bp B:Nat)(s:ByteArray)(vn:Value)(wr:World)(N:Nat->Bool)(t1:Sp)(cl:Bool):Prop where
 rel:if cl then R= .ok N t1 else∃n,s.size - t1.a<n/\cx_ s n N t1=R
 le:t1.a<=s.size
 touch:ab_ (fun k=>k=bp) w wr
 par:aq_ wr bp s t1.a vn t1.bk (t1.sp:Int)
 res:wr.rowIs B 128 8 (fun _=> .bool false)
 nts:wr.rowIs (B+1) 128 8 (fun c=> .bool (N c))
def fm_ (N:Nat->Bool)(f i:Nat):Nat->Bool:=fun c=>N c||(decide (f<=c)&&decide (c<i))
theorem lt_ (N:Nat->Bool)(f:Nat):fm_ N f f=N:=by
 funext c;unfold fm_;have:(decide (f<=c)&&decide (c<f))=false:=i_;rw[this];simp
theorem t3_ (N:Nat->Bool){f i:Nat}(h:f<=i)(c:Nat):fm_ N f (i+1) c=if c=i then true else fm_ N f i c:=by
 unfold fm_;by_cases e:c=i
 . subst e;simp[h]
 . rw[if_neg e];have:decide (c<i+1)=decide (c<i):=by rw[decide_eq_decide];omega
   rw[this]
theorem m3_ (N:Nat->Bool){f g i:Nat}(h1:f<=i)(h2:¬i<=g)(h3:i<=g+1\/i=f):fm_ N f i=dz_ N f g:=by
 funext c;unfold fm_ dz_;have:(decide (f<=c)&&decide (c<i))=(decide (f<=c)&&decide (c<=g)):=by
  rw[Bool.eq_iff_iff];simp;omega
 rw[this]
theorem h5_.step {R:Res (Nat->Bool)}{w:World}{bp B:Nat}{s:ByteArray}{vn:Value}{wr w5:World}{N:Nat->Bool}{t1 t2:Sp}{f g:Nat}{cl:Bool}(h:h5_ R w bp B s vn wr N t1 false)(hp:dv_ s t1= .ok (f,g) t2)(hcl:hit s t2.a 93=cl)
 (ht:ab_ (fun k=>k=bp) w w5) (hpar:aq_ w5 bp s (if cl then(bk_ t1.a f g t2).go else bk_ t1.a f g t2).a vn (bk_ t1.a f g t2).bk ((bk_ t1.a f g t2).sp:Int)) (hres:w5.rowIs B 128 8 (fun _=> .bool false)) (hnts:w5.rowIs (B+1) 128 8 (fun c=> .bool (dz_ N f g c))):
 h5_ R w bp B s vn w5 (dz_ N f g) (if cl then(bk_ t1.a f g t2).go else bk_ t1.a f g t2) cl:=by
 have hok:=ij_ hp;have hrel:=h.rel;simp only[Bool.false_eq_true,if_false]at hrel;obtain⟨n,hn,hR⟩:=hrel;obtain⟨n,rfl⟩:∃m,n=m+1:=⟨n - 1,o_⟩;simp only[cx_,hp,hcl]at hR;cases cl
 . simp only[Bool.false_eq_true,if_false]at hR hpar ⊢;exact⟨by simp only[Bool.false_eq_true,if_false];exact⟨n,by simp only[spanF_a];omega,hR⟩,by simp only[spanF_a];omega,ht,hpar,hres,hnts⟩
 . simp only[if_true]at hR hpar ⊢;have hl:=cv_ hcl;exact⟨by simp only[if_true];exact hR.symm,by simp only[go_a,spanF_a];omega,ht,hpar,hres,hnts⟩
theorem h5_.fail {R:Res (Nat->Bool)}{w:World}{bp B:Nat}{s:ByteArray}{vn:Value}{wr:World}{N:Nat->Bool}{t1 t2:Sp}(h:h5_ R w bp B s vn wr N t1 false)(hp:dv_ s t1= .no t2):R= .no t2:=by
 have hrel:=h.rel;simp only[Bool.false_eq_true,if_false]at hrel;obtain⟨n,hn,hR⟩:=hrel;obtain⟨n,rfl⟩:∃m,n=m+1:=⟨n - 1,o_⟩;simp only[cx_,hp]at hR;exact hR.symm
theorem lu_ {w:World}{b bp:Nat}{s:ByteArray}{a:Nat}{vn:Value}{bk:Bool}{sp:Int}(f:Nat->Bool)(h:aq_ w bp s a vn bk sp)(hb:bp≠b):aq_ (eq_ w b f) bp s a vn bk sp:=by
 unfold eq_;exact(((((((h.other hb _).other hb _).other hb _).other hb _).other hb _).other hb _).other hb _).other hb _
theorem n8_ (bp:Nat)(s:ByteArray)(t:Sp)(vn:Value)(w:World)(hs:s.size<=40)(hta:t.a<=s.size)(h:aq_ w bp s t.a vn t.bk (t.sp:Int)):
 Calls prog 191 #[.pointer (some ⟨bp,0,none⟩)] w fun e w'=>ads_ bp s vn (setF s t) e w'/\ab_ (fun k=>k=bp) w w':=by
 have hbp:bp<w.heap.size:=ac_ h;obtain⟨W,hW,-,b0,b1⟩:=n2__ w (ap_ (fun _=>false)) 128 (ap_ (fun _=>false)) 128;have TW:ab_ (fun k=>k=bp) w W:=by rw[hW];exact((ab_.refl _ _).alloc _).alloc _
 have hWs:W.heap.size=w.heap.size+1+1:=by rw[hW];simp
 have h0:aq_ W bp s t.a vn t.bk (t.sp:Int):=h.block (by rw[hW];exact(Below.heap_alloc _ _ bp s_).trans (Below.heap_alloc w _ bp hbp));rw[aau_];have HTK:=j4_ bp s t.a 94 vn t.bk (t.sp:Int) W hs h0;obtain⟨t0,HT0⟩:=hx__ (if hit s t.a 94 then t.go else t);have e1:(if hit s t.a 94 then t.a+1 else t.a)=t0.a:=by rw[<-HT0.out];cases hit s t.a 94<;>rfl
 have e2:t.bk=t0.bk:=by rw[<-HT0.out];cases hit s t.a 94<;>rfl
 have e3:t.sp=t0.sp:=by rw[<-HT0.out];cases hit s t.a 94<;>rfl
 have e4:t0.a<=s.size:=by
  rw[<-HT0.out];cases hb:hit s t.a 94
  . exact hta
  . exact cv_ hb
 rw[e1,e2,e3]at HTK;rw[HT0.out];obtain⟨R,HR⟩:=hx__ (cx_ s (s.size+1) (fun _=>false) t0);rw[HR.out];obtain⟨ob,HOB⟩:=hx__ (hit s t.a 94);rw[HOB.out]at HTK ⊢;clear e1 e2 e3 h h0;simp only[show ap_ (fun _=>false)= #[.bool false,.bool false,.bool false,.bool false,.bool false,.bool false,.bool false,.bool false]from rfl]at hW;go_enter func191,ntmps191;go_upto_region 2 with fail;rw[<-hW];clear hW;go_wp2_with fail;refine HTK.mono ?_;clear HTK;rintro e w1 ⟨rfl,hp1,ht1⟩;have S0:h5_ R w bp w.heap.size s vn w1 (fun _=>false) t0 false:=⟨by simp only[Bool.false_eq_true,if_false];exact⟨_,o_,HR.out⟩,e4,TW.tr ht1,hp1,ht1.row (a8_ b0) o_,ht1.row (a8_ b1) o_⟩;clear hp1 ht1 b0 b1 TW HR HT0 HOB e4 hta;go_wp2_with fail;go_loopw [6,7,8,9,10,11] (fun cl' _ _ _ _ _ wr=>∃(N:Nat->Bool) (t1:Sp) (cl:Bool),cl'= .bool cl/\h5_ R w bp w.heap.size s vn wr N t1 cl) (fun _ _ _ _ _ _ wr=>100 - atOf wr bp)
 case atStart=>exact⟨_,_,_,rfl,S0⟩
 case round=>
  clear S0;obtain⟨N,t1,cl,rfl,hS⟩:=hrel;have HP:=hS.par;have HT:=hS.touch;have hle:=hS.le;have hsz:=HT.size;have hsr:=hS.res.lt;have hsn:=hS.nts.lt;have hat:=HP.atOf;have HAT:Hid _:=hat;clear hat;cases cl
  . obtain⟨_,x1,_,_,_,_,_,_⟩:=HP.cells;have HC:=adr_ bp s t1 vn wr hs HP;cases hr:dv_ s t1 with
    |no t2=>
     have hR:=hS.fail hr;have HS:Hid _:=hS;rw[hr]at HC;subst hR;clear hS hr;go_wp2_with fail;refine HC.mono ?_;clear HC;rintro e w2 ⟨⟨⟨fv,gv,rfl⟩,hp2⟩,ht2⟩;have r0:=ht2.row HS.out.res o_;have r1:=ht2.row HS.out.nts o_;obtain⟨c0,c1,c2,c3,c4,c5,c6,c7⟩:=bi_ r1;obtain⟨d0,d1,d2,d3,d4,d5,d6,d7⟩:=bi_ (f:=fun _=>false) r0;obtain⟨f0,f1,f2,f3,f4,f5,f6,f7⟩:=mq_ r0;have HR0:Hid _:=r0;have HP2:Hid _:=hp2;have HT2:Hid _:=HT.tr ht2;clear r0 r1 HP HT HS hp2 ht2 x1 HAT;go_wp2_with fail;obtain⟨W9,hW9⟩:=ew__ (eq_ w2 w.heap.size N);have hr9:=i8_ N HR0.out;have hp9:=lu_ (b:=w.heap.size) N HP2.out o_;have ht9:=js_ (b:=w.heap.size) N HT2.out (.inr lr__);rw[<-hW9]at hr9 hp9 ht9;unfold eq_ at hW9;rw[<-hW9];clear hW9 c0 c1 c2 c3 c4 c5 c6 c7;obtain⟨c0,c1,c2,c3,c4,c5,c6,c7⟩:=bi_ hr9;refine bodyPost_ret (v:= .tuple #[.agg (ap_ N),.bool false]) (by simp[results,results191,go_sem,ap_,c0,c1,c2,c3,c4,c5,c6,c7]) rfl ?_;exact⟨⟨⟨N,rfl⟩,hp9⟩,ht9⟩
    |ok x t2=>
     obtain⟨f,g⟩:=x;have hok:=ij_ hr;rw[hr]at HC;have HS:Hid _:=hS;have HPT:Hid _:=hr;clear hS hr;go_wp2_with fail;refine HC.mono ?_;clear HC;rintro e w2 ⟨⟨rfl,hp2⟩,ht2⟩;have r0:=ht2.row HS.out.res o_;have r1:=ht2.row HS.out.nts o_;have tt:=HT.tr ht2;clear HP HT x1 ht2;by_cases hlt:g<f
     . have hlt2:(g:Int)<(f:Int):=o_;obtain⟨sq,HSQ⟩:=hx__ (if t2.bk then t2.sp else t1.a);have HTL:=rs_ (pl:=t1.a) hp2;rw[HSQ.out]at HTL;go_wp2_with fail;refine HTL.mono ?_;clear HTL;rintro e w3 ⟨rfl,hp3,ht3⟩;have hq3:aq_ w3 bp s (bk_ t1.a f g t2).a vn (bk_ t1.a f g t2).bk ((bk_ t1.a f g t2).sp:Int):=by
        unfold bk_;rw[if_pos hlt];show aq_ w3 bp s t2.a vn true (((if t2.bk then t2.sp else t1.a:Nat):Nat):Int)
        rw[HSQ.out];exact hp3
       replace r0:=ht3.row r0 o_;replace r1:=ht3.row r1 o_;replace tt:=tt.tr ht3;clear hp2 hp3 ht3;have hz2:=tt.size;obtain⟨t3,HT3⟩:=hx__ (bk_ t1.a f g t2);have hp3:aq_ w3 bp s t3.a vn t3.bk (t3.sp:Int):=by rw[<-HT3.out];exact hq3
       have ha3:t3.a=t2.a:=by rw[<-HT3.out];simp
       clear hq3;go_wp2_with fail;go_loopw [11] (fun i' wr=>∃i:Nat,i'= .int .i64 (i:Int)/\f<=i/\(i<=g+1\/i=f)/\i<=9/\ab_ (fun k=>k=bp) w wr/\aq_ wr bp s t3.a vn t3.bk (t3.sp:Int)/\wr.rowIs w.heap.size 128 8 (fun _=> .bool false)/\wr.rowIs (w.heap.size+1) 128 8 (fun c=> .bool (fm_ N f i c))) (fun i' _=>20 - (intOf i').toNat)
       case atStart=>exact⟨f,rfl,lr__,.inr rfl,o_,tt,hp3,r0,by rw[lt_];exact r1⟩
       case round=>
        clear tt hp3 r0 r1;obtain⟨i,rfl,hfi,hig,hi9,tt,hp3,r0,r1⟩:=hrel;have hz3:=tt.size;by_cases hle2:i<=g
        . exfalso;omega
        . have hle3:¬(i:Int)<=(g:Int):=o_;have hN:fm_ N f i=dz_ N f g:=m3_ N hfi hle2 hig;have r1':wr.rowIs (w.heap.size+1) 128 8 (fun c=> .bool (dz_ N f g c)):=by rw[<-hN];exact r1
          have HC:=j4_ bp s t3.a 93 vn t3.bk (t3.sp:Int) wr hs hp3;obtain⟨cl,HCL⟩:=hx__ (hit s t3.a 93);rw[HCL.out]at HC;have HTT:Hid _:=tt;have HR0:Hid _:=r0;have HR1:Hid _:=r1';clear hp3 tt r0 r1 hN r1';go_wp2_with fail;refine HC.mono ?_;clear HC;rintro e w5 ⟨rfl,hp5,ht5⟩;have hS5:h5_ R w bp w.heap.size s vn w5 (dz_ N f g) (if cl then(bk_ t1.a f g t2).go else bk_ t1.a f g t2) cl:=by
           refine HS.out.step HPT.out (by rw[<-ha3];exact HCL.out) (HTT.out.tr ht5) ?_ (ht5.row HR0.out o_) (ht5.row HR1.out o_);rw[HT3.out];cases cl
           . exact hp5
           . exact hp5
          have hat5:=hS5.par.atOf;have hgo5:t1.a<(if cl then(bk_ t1.a f g t2).go else bk_ t1.a f g t2).a:=by
           cases cl
           . simp only[Bool.false_eq_true,if_false,spanF_a];omega
           . simp only[if_true,go_a,spanF_a];omega
          go_wp2_with fail;go_roundw
          case rel=>exact⟨_,_,_,rfl,hS5⟩
          case measure=>
           have:=HAT.out;omega
     . have hlt2:¬(g:Int)<(f:Int):=o_;have hq3:aq_ w2 bp s (bk_ t1.a f g t2).a vn (bk_ t1.a f g t2).bk ((bk_ t1.a f g t2).sp:Int):=by
        unfold bk_;rw[if_neg hlt];exact hp2
       obtain⟨w3,HW3⟩:=hx__ w2;rw[HW3.out]at hq3 r0 r1 tt ⊢;clear hp2;have hz2:=tt.size;obtain⟨t3,HT3⟩:=hx__ (bk_ t1.a f g t2);have hp3:aq_ w3 bp s t3.a vn t3.bk (t3.sp:Int):=by rw[<-HT3.out];exact hq3
       have ha3:t3.a=t2.a:=by rw[<-HT3.out];simp
       clear hq3;go_wp2_with fail;go_loopw [11] (fun i' wr=>∃i:Nat,i'= .int .i64 (i:Int)/\f<=i/\(i<=g+1\/i=f)/\i<=9/\ab_ (fun k=>k=bp) w wr/\aq_ wr bp s t3.a vn t3.bk (t3.sp:Int)/\wr.rowIs w.heap.size 128 8 (fun _=> .bool false)/\wr.rowIs (w.heap.size+1) 128 8 (fun c=> .bool (fm_ N f i c))) (fun i' _=>20 - (intOf i').toNat)
       case atStart=>exact⟨f,rfl,lr__,.inr rfl,o_,tt,hp3,r0,by rw[lt_];exact r1⟩
       case round=>
        clear tt hp3 r0 r1;obtain⟨i,rfl,hfi,hig,hi9,tt,hp3,r0,r1⟩:=hrel;have hz3:=tt.size;by_cases hle2:i<=g
        . have c1:=r1.cell (i:=i) o_;have c2:=r1.frozen i;have hle3:(i:Int)<=(g:Int):=o_;have HP3:Hid (aq_ wr bp s t3.a vn t3.bk (t3.sp:Int)):=hp3;have HT4:Hid _:=tt;have HR0:Hid (wr.rowIs w.heap.size 128 8 (fun _=> .bool false)):=r0;have HR1:Hid (wr.rowIs (w.heap.size+1) 128 8 (fun c=> .bool (fm_ N f i c))):=r1;clear hp3 tt r0 r1;go_wp2_with fail;go_roundw
          case rel=>
           refine⟨i+1,by go_num,o_,o_,o_,HT4.out.set _ _ (.inr i_),HP3.out.other s_ _,HR0.out.setOther i_ _,(HR1.out.set i _).congr (fun c _=> ?_)⟩;rw[t3_ N hfi c];by_cases e:c=i<;>simp[e]
          case measure=>simp[intOf];omega
        . have hle3:¬(i:Int)<=(g:Int):=o_;have hN:fm_ N f i=dz_ N f g:=m3_ N hfi hle2 hig;have r1':wr.rowIs (w.heap.size+1) 128 8 (fun c=> .bool (dz_ N f g c)):=by rw[<-hN];exact r1
          have HC:=j4_ bp s t3.a 93 vn t3.bk (t3.sp:Int) wr hs hp3;obtain⟨cl,HCL⟩:=hx__ (hit s t3.a 93);rw[HCL.out]at HC;have HTT:Hid _:=tt;have HR0:Hid _:=r0;have HR1:Hid _:=r1';clear hp3 tt r0 r1 hN r1';go_wp2_with fail;refine HC.mono ?_;clear HC;rintro e w5 ⟨rfl,hp5,ht5⟩;have hS5:h5_ R w bp w.heap.size s vn w5 (dz_ N f g) (if cl then(bk_ t1.a f g t2).go else bk_ t1.a f g t2) cl:=by
           refine HS.out.step HPT.out (by rw[<-ha3];exact HCL.out) (HTT.out.tr ht5) ?_ (ht5.row HR0.out o_) (ht5.row HR1.out o_);rw[HT3.out];cases cl
           . exact hp5
           . exact hp5
          have hat5:=hS5.par.atOf;have hgo5:t1.a<(if cl then(bk_ t1.a f g t2).go else bk_ t1.a f g t2).a:=by
           cases cl
           . simp only[Bool.false_eq_true,if_false,spanF_a];omega
           . simp only[if_true,go_a,spanF_a];omega
          go_wp2_with fail;go_roundw
          case rel=>exact⟨_,_,_,rfl,hS5⟩
          case measure=>
           have:=HAT.out;omega
  . have hR:R= .ok N t1:=hS.rel;have r0:=hS.res;have r1:=hS.nts;obtain⟨c0,c1,c2,c3,c4,c5,c6,c7⟩:=bi_ r1;obtain⟨d0,d1,d2,d3,d4,d5,d6,d7⟩:=bi_ (f:=fun _=>false) r0;obtain⟨f0,f1,f2,f3,f4,f5,f6,f7⟩:=mq_ r0;have HR0:Hid (wr.rowIs w.heap.size 128 8 (fun _=> .bool false)):=r0;have HP2:Hid (aq_ wr bp s t1.a vn t1.bk (t1.sp:Int)):=HP;have HT2:Hid (ab_ (fun k=>k=bp) w wr):=HT;clear r0 r1 HP HT hS;subst hR;cases ob
    . go_wp2_with fail;obtain⟨W9,hW9⟩:=ew__ (eq_ wr w.heap.size N);have hr9:=i8_ N HR0.out;have hp9:=lu_ (b:=w.heap.size) N HP2.out o_;have ht9:=js_ (b:=w.heap.size) N HT2.out (.inr lr__);rw[<-hW9]at hr9 hp9 ht9;unfold eq_ at hW9;rw[<-hW9];clear hW9 c0 c1 c2 c3 c4 c5 c6 c7;obtain⟨c0,c1,c2,c3,c4,c5,c6,c7⟩:=bi_ hr9;refine bodyPost_ret (v:= .tuple #[.agg (ap_ N),.bool true]) (by simp[results,results191,go_sem,ap_,c0,c1,c2,c3,c4,c5,c6,c7]) rfl ?_;exact⟨⟨rfl,hp9⟩,ht9⟩
    . obtain⟨M,HM⟩:∃M:Nat->Bool,Hid ((fun c=> !N c)=M):=⟨_,rfl⟩;have HC:=ls_ N wr;rw[HM.out]at HC;unfold ap_ at HC;go_wp2_with fail;refine HC.mono ?_;clear HC;rintro e w5 ⟨rfl,hb5⟩;have r0:=HR0.out.of_block (hb5.block _ HR0.out.lt);have hp5:=HP2.out.block (hb5.block _ o_);have ht5:ab_ (fun k=>k=bp) w w5:=HT2.out.tr (jr_ hb5);clear d0 d1 d2 d3 d4 d5 d6 d7 f0 f1 f2 f3 f4 f5 f6 f7 c0 c1 c2 c3 c4 c5 c6 c7;obtain⟨d0,d1,d2,d3,d4,d5,d6,d7⟩:=bi_ (f:=fun _=>false) r0;obtain⟨f0,f1,f2,f3,f4,f5,f6,f7⟩:=mq_ r0;have HR5:Hid _:=r0;have HP5:Hid _:=hp5;have HT5:Hid _:=ht5;clear r0 hp5 ht5 hb5 HR0 HP2 HT2;go_wp2_with fail;obtain⟨W9,hW9⟩:=ew__ (eq_ w5 w.heap.size M);have hr9:=i8_ M HR5.out;have hp9:=lu_ (b:=w.heap.size) M HP5.out o_;have ht9:=js_ (b:=w.heap.size) M HT5.out (.inr lr__);rw[<-hW9]at hr9 hp9 ht9;unfold eq_ at hW9;rw[<-hW9];clear hW9;obtain⟨c0,c1,c2,c3,c4,c5,c6,c7⟩:=bi_ hr9;refine bodyPost_ret (v:= .tuple #[.agg (ap_ M),.bool true]) (by simp[results,results191,go_sem,ap_,c0,c1,c2,c3,c4,c5,c6,c7]) rfl ?_;refine⟨⟨?_,hp9⟩,ht9⟩;simp only[if_true];rw[HM.out]
end Go.Proofs.YtpngikmcjkjdaaaGreatDoor
