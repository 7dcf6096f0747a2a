import Derived.Test.YtpngikmcjkjdaaaGreatDoorC12
set_option linter.unusedVariables false
set_option linter.unusedSimpArgs false
set_option maxRecDepth 20000
set_option maxHeartbeats 80000000
namespace Go.Proofs.YtpngikmcjkjdaaaGreatDoor
open Go.RowKit Tryz List Nat
variable {bk:Bool} {s:ByteArray} {sp:Int} {B a b bp f g i:Nat} {N:Nat->Bool} {vn:Value} {w w1 wr:World}
def acx_ (bp:Nat)(s:ByteArray)(vn:Value)(r:ψ (Nat×Nat))(e:Ending)(w':World):Prop:=
 match r with
 | .no t=>(∃f g:Int,e= .returned (.tuple #[.int .i64 f,.int .i64 g,.bool false]))/\υ w' bp s t.a vn t.bk (t.sp:Int)
 | .ok (f,g) t=>e= .returned (.tuple #[.int .i64 ((f:Nat):Int),.int .i64 ((g:Nat):Int),.bool true])/\υ w' bp s t.a vn t.bk (t.sp:Int)
theorem ε.tr {S:Nat->Prop}{w2:World}(h:ε S w w1)(h':ε S w1 w2):ε S w w2:=h.join h' (fun _ _ h=>h)
theorem acy_ (h:c7_ s a=true):(θ s a:Int)- 97=((θ s a - 97:Nat):Int):=by
 have:=jz_ h;omega
theorem acz_ (h:d0_ s a=true):(θ s a:Int)- 48=((θ s a - 48:Nat):Int):=by
 have:=lm_ h;omega
theorem c1_ (hs:s.size<=40)(hh:ς s a b=true)(h:υ w bp s a vn bk sp):
 Calls prog 169 #[.pointer (some ⟨bp,0,none⟩),.int .u8 (b:Int)] w
  fun e w'=>e= .returned (.bool true)/\υ w' bp s (a+1) vn bk sp/\ε (fun k=>k=bp) w w':=by
 have:=mw_ bp s a b vn bk sp w hs h;simpa only [hh,if_true] using this
theorem a9_ (hs:s.size<=40)(hh:ς s a b=false)(h:υ w bp s a vn bk sp):
 Calls prog 169 #[.pointer (some ⟨bp,0,none⟩),.int .u8 (b:Int)] w
  fun e w'=>e= .returned (.bool false)/\υ w' bp s a vn bk sp/\ε (fun k=>k=bp) w w':=by
 have:=mw_ bp s a b vn bk sp w hs h;simpa only [hh,ft_,if_false] using this
theorem or_ (hs:s.size<=40)(hh:c7_ s a=true)(h:υ w bp s a vn bk sp):
 Calls prog 194 #[.pointer (some ⟨bp,0,none⟩)] w
  fun e w'=>e= .returned (.tuple #[.int .i64 ((θ s a - 97:Nat):Int),.bool true])/\υ w' bp s (a+1) vn bk sp/\ε (fun k=>k=bp) w w':=by
 have:=ui_ bp s a vn bk sp w hs h;simpa only [hh,if_true,acy_ hh] using this
theorem os_ (hs:s.size<=40)(hh:c7_ s a=false)(h:υ w bp s a vn bk sp):
 Calls prog 194 #[.pointer (some ⟨bp,0,none⟩)] w
  fun e w'=>e= .returned (.tuple #[.int .i64 0,.bool false])/\υ w' bp s a vn bk sp/\ε (fun k=>k=bp) w w':=by
 have:=ui_ bp s a vn bk sp w hs h;simpa only [hh,ft_,if_false] using this
theorem uq_ (hs:s.size<=40)(hh:d0_ s a=true)(h:υ w bp s a vn bk sp):
 Calls prog 195 #[.pointer (some ⟨bp,0,none⟩)] w
  fun e w'=>e= .returned (.tuple #[.int .i64 ((θ s a - 48:Nat):Int),.bool true])/\υ w' bp s (a+1) vn bk sp/\ε (fun k=>k=bp) w w':=by
 have:=uj_ bp s a vn bk sp w hs h;simpa only [hh,if_true,acz_ hh] using this
theorem ur_ (hs:s.size<=40)(hh:d0_ s a=false)(h:υ w bp s a vn bk sp):
 Calls prog 195 #[.pointer (some ⟨bp,0,none⟩)] w
  fun e w'=>e= .returned (.tuple #[.int .i64 0,.bool false])/\υ w' bp s a vn bk sp/\ε (fun k=>k=bp) w w':=by
 have:=uj_ bp s a vn bk sp w hs h;simpa only [hh,ft_,if_false] using this
theorem ac0_ (bp:Nat)(s:ByteArray)(t:Sp)(vn:Value)(w:World)(hs:s.size<=40)(h:υ w bp s t.a vn t.bk (t.sp:Int)):
 Calls prog 197 #[.pointer (some ⟨bp,0,none⟩)] w fun e w'=>acx_ bp s vn (eb_ s t) e w'/\ε (fun k=>k=bp) w w':=by
 obtain⟨a,bk,sp⟩:=t;simp only at h;cases h1:c7_ s a
 . have c:eb_ s ⟨a,bk,sp⟩= .no ⟨a,bk,sp⟩:=by simp[eb_,h1]
   rw[c];have b:=os_ hs h1 h;clear c h1 h;go_enter func197,ntmps197;go_wp2_with fail;refine b.mono ?_;rintro e r ⟨rfl,i,j⟩;go_wp2_with fail;refine bodyPost_ret (v:= .tuple #[.int .i64 0,.int .i64 0,.bool false]) (by simp[results,results197,go_sem]) rfl ?_;exact⟨⟨⟨0,0,rfl⟩,i⟩,j⟩
 . have b:=or_ hs h1 h;obtain⟨f,l⟩:=δ (θ s a - 97);cases h2:ς s (a+1) 45
   . have c:eb_ s ⟨a,bk,sp⟩= .ok (f,f) ⟨a+1,bk,sp⟩:=by simp[eb_,h1,h2,Sp.go,l.out]
     rw[c];rw[l.out]at b;clear c h1 h;go_enter func197,ntmps197;go_wp2_with fail;refine b.mono ?_;rintro e r ⟨rfl,i,j⟩;clear b;have d:=a9_ hs h2 i;go_wp2_with fail;refine d.mono ?_;rintro e x ⟨rfl,m,n⟩;go_wp2_with fail;refine bodyPost_ret (v:= .tuple #[.int .i64 (f:Int),.int .i64 (f:Int),.bool true]) (by simp[results,results197,go_sem]) rfl ?_;exact⟨⟨rfl,m⟩,j.tr n⟩
   . cases h3:c7_ s (a+1+1)
     . have c:eb_ s ⟨a,bk,sp⟩= .no ⟨a+1+1,bk,sp⟩:=by simp[eb_,h1,h2,h3,Sp.go]
       rw[c];rw[l.out]at b;clear c h1 h;go_enter func197,ntmps197;go_wp2_with fail;refine b.mono ?_;rintro e r ⟨rfl,i,j⟩;clear b;have d:=c1_ hs h2 i;go_wp2_with fail;refine d.mono ?_;rintro e x ⟨rfl,m,n⟩;clear d;have o:=os_ hs h3 m;go_wp2_with fail;refine o.mono ?_;rintro e y ⟨rfl,p,q⟩;go_wp2_with fail;refine bodyPost_ret (v:= .tuple #[.int .i64 (f:Int),.int .i64 0,.bool false]) (by simp[results,results197,go_sem]) rfl ?_;exact⟨⟨⟨_,_,rfl⟩,p⟩,(j.tr n).tr q⟩
     . obtain⟨g,u⟩:=δ (θ s (a+1+1)- 97);have c:eb_ s ⟨a,bk,sp⟩= .ok (f,g) ⟨a+1+1+1,bk,sp⟩:=by simp[eb_,h1,h2,h3,Sp.go,l.out,u.out]
       rw[c];rw[l.out]at b;clear c h1 h;go_enter func197,ntmps197;go_wp2_with fail;refine b.mono ?_;rintro e r ⟨rfl,i,j⟩;clear b;have d:=c1_ hs h2 i;go_wp2_with fail;refine d.mono ?_;rintro e x ⟨rfl,m,n⟩;clear d;have o:=or_ hs h3 m;rw[u.out]at o;go_wp2_with fail;refine o.mono ?_;rintro e y ⟨rfl,p,q⟩;go_wp2_with fail;refine bodyPost_ret (v:= .tuple #[.int .i64 (f:Int),.int .i64 (g:Int),.bool true]) (by simp[results,results197,go_sem]) rfl ?_;exact⟨⟨rfl,p⟩,(j.tr n).tr q⟩
def ac1_ (bp:Nat)(s:ByteArray)(vn:Value)(r:ψ (Nat×Nat×Bool))(e:Ending)(w':World):Prop:=
 match r with
 | .no t=>(∃(a b:Int) (c:Bool),e= .returned (.tuple #[.agg #[.int .i64 a,.int .i64 b,.bool c],.bool false]))/\υ w' bp s t.a vn t.bk (t.sp:Int)
 | .ok (lo,co,en) t=>e= .returned (.tuple #[.agg #[.int .i64 ((lo:Nat):Int),.int .i64 ((co:Nat):Int),.bool en],.bool true])/\υ w' bp s t.a vn t.bk (t.sp:Int)
theorem υ.other (h:υ w bp s a vn bk sp){p:Addr}(hp:bp≠p.block)(v:Value):υ (w.setCell p v) bp s a vn bk sp:=a3_ h hp
theorem υ.block (h:υ w bp s a vn bk sp)(hb:w1.heap[bp]? =w.heap[bp]?):υ w1 bp s a vn bk sp:=hb.trans h
theorem i8_ (hp:υ w1 bp s a vn bk sp)(ht:ε (fun k=>k=bp) w w1)(hB:w.heap.size<=B)(hne:bp<B){x y z:Value}{t:TypeId}(hblk:w1.heap[B]? =some (.cells #[x,y,z] t (0,0)))(u v r:Value):
 (((w1.setCell ⟨B,0,none⟩ u).setCell ⟨B,1,none⟩ v).setCell ⟨B,2,none⟩ r).cell? ⟨B,0,none⟩=some u/\(((w1.setCell ⟨B,0,none⟩ u).setCell ⟨B,1,none⟩ v).setCell ⟨B,2,none⟩ r).cell? ⟨B,1,none⟩=some v/\(((w1.setCell ⟨B,0,none⟩ u).setCell ⟨B,1,none⟩ v).setCell ⟨B,2,none⟩ r).cell? ⟨B,2,none⟩=some r/\
 υ (((w1.setCell ⟨B,0,none⟩ u).setCell ⟨B,1,none⟩ v).setCell ⟨B,2,none⟩ r) bp s a vn bk sp/\ε (fun k=>k=bp) w (((w1.setCell ⟨B,0,none⟩ u).setCell ⟨B,1,none⟩ v).setCell ⟨B,2,none⟩ r):=by
 have e:(((w1.setCell ⟨B,0,none⟩ u).setCell ⟨B,1,none⟩ v).setCell ⟨B,2,none⟩ r).heap[B]? =some (.cells #[u,v,r] t (0,0)):=by
  simp[World.setCell,Array.getElem?_modify,hblk]
 obtain⟨b,c,d,_,_,_⟩:=ay_ e;exact⟨b,c,d,((hp.other s_ _).other s_ _).other s_ _,((ht.set _ _ (.inr hB)).set _ _ (.inr hB)).set _ _ (.inr hB)⟩
theorem us_ {sp pl:Nat}(h:υ w bp s a vn bk (sp:Int)):
 Calls prog 196 #[.pointer (some ⟨bp,0,none⟩),.int .i64 (pl:Int)] w
  fun e w'=>e= .returned (.tuple #[])/\υ w' bp s a vn true (((if bk then sp else pl:Nat):Nat):Int)/\ε (fun k=>k=bp) w w':=by
 have:=aci_ bp s a vn bk (sp:Int) (pl:Int) w h;cases bk<;>simpa using this
theorem ut_ (bp:Nat)(s:ByteArray)(t:Sp)(vn:Value)(w:World)(hs:s.size<=40)(hta:t.a<=40)(h:υ w bp s t.a vn t.bk (t.sp:Int)):
 Calls prog 190 #[.pointer (some ⟨bp,0,none⟩)] w fun e w'=>ac1_ bp s vn (cq_ s t) e w'/\ε (fun k=>k=bp) w w':=by
 obtain⟨a,bk,sp⟩:=t;simp only at h hta;have U:bp<w.heap.size:=κ h;obtain⟨W,q,-,-,-⟩:=ν w #[.int .i64 0,.int .i64 0,.bool false] 130;have X:ε (fun k=>k=bp) w W:=by rw[q];exact(ε.refl _ _).alloc _
 have aw:=t4_ q;have Y:=aw_ q;have T:υ W bp s a vn bk (sp:Int):=h.block (by rw[q];exact Below.heap_alloc w _ bp U);obtain⟨x0,x1,x2,x3,x4,_,_,_⟩:=T.cells;clear x0 x2 x3 x4;cases h1:d0_ s a
 . have n:cq_ s ⟨a,bk,sp⟩= .no ⟨a,bk,sp⟩:=by simp[cq_,Sp.go,a2_,Sp.tell,h1]
   rw[n];clear n h;go_enter func190,ntmps190;go_upto_region 1 with fail;rw[<-q];clear q;have m:=ur_ hs h1 T;go_wp2_with fail;refine m.mono ?_;rintro e w1 ⟨rfl,C,i⟩;clear m;have ac:=i.size;have x:=(i.block _ o_ o_).trans Y;have F:=X.tr i;obtain⟨q0,q1,q2,p0,p1,p2⟩:=ay_ x;obtain⟨b,c,d,D,E⟩:=i8_ C F ι U x (.int .i64 0) (.int .i64 0) (.bool false);have z:Hid _:=b;have A:Hid _:=c;have B:Hid _:=d;clear b c d;go_wp2_with fail;have b:=z.out;have c:=A.out;have d:=B.out;refine bodyPost_ret (v:= .tuple #[.agg #[.int .i64 0,.int .i64 0,.bool false],.bool false]) (by simp[results,results190,go_sem,b,c,d]) rfl ?_;exact⟨⟨⟨_,_,_,rfl⟩,D⟩,E⟩
 obtain⟨f,HF⟩:=δ (θ s a - 48);have ax:f<=9:=by have:=lm_ h1;rw[HF.out]at this;omega
 have V:∀w,υ w bp s a vn bk (sp:Int)->_:=fun w h=>uq_ (w:=w) hs h1 h
 rw[HF.out]at V;cases h2:ς s (a+1) 125
 rotate_left 1
 . have n:cq_ s ⟨a,bk,sp⟩= .ok (f,f,false) ⟨a+1+1,bk,sp⟩:=by simp[cq_,Sp.go,a2_,Sp.tell,h1,h2,HF.out]
   rw[n];clear n h;go_enter func190,ntmps190;go_upto_region 1 with fail;rw[<-q];clear q;have m:=V _ T;go_wp2_with fail;refine m.mono ?_;rintro e w1 ⟨rfl,C,i⟩;clear m;have ac:=i.size;have x:=(i.block _ o_ o_).trans Y;have F:=X.tr i;have o:=c1_ hs h2 C;go_wp2_with fail;refine o.mono ?_;rintro e w2 ⟨rfl,H,j⟩;clear o;have af:=j.size;have G:=(j.block _ o_ o_).trans x;have J:=F.tr j;obtain⟨q0,q1,q2,p0,p1,p2⟩:=ay_ G;obtain⟨b,c,d,D,E⟩:=i8_ H J ι U G (.int .i64 (f:Int)) (.int .i64 (f:Int)) (.bool false);have z:Hid _:=b;have A:Hid _:=c;have B:Hid _:=d;clear b c d;go_wp2_with fail;have b:=z.out;have c:=A.out;have d:=B.out;refine bodyPost_ret (v:= .tuple #[.agg #[.int .i64 (f:Int),.int .i64 (f:Int),.bool false],.bool true]) (by simp[results,results190,go_sem,b,c,d]) rfl ?_;exact⟨⟨rfl,D⟩,E⟩
 cases h3:ς s (a+1) 44
 . have n:cq_ s ⟨a,bk,sp⟩= .no ⟨a+1,bk,sp⟩:=by simp[cq_,Sp.go,a2_,Sp.tell,h1,h2,h3]
   rw[n];clear n h;go_enter func190,ntmps190;go_upto_region 1 with fail;rw[<-q];clear q;have m:=V _ T;go_wp2_with fail;refine m.mono ?_;rintro e w1 ⟨rfl,C,i⟩;clear m;have ac:=i.size;have x:=(i.block _ o_ o_).trans Y;have F:=X.tr i;have o:=a9_ hs h2 C;go_wp2_with fail;refine o.mono ?_;rintro e w2 ⟨rfl,H,j⟩;clear o;have af:=j.size;have G:=(j.block _ o_ o_).trans x;have J:=F.tr j;have r:=a9_ hs h3 H;go_wp2_with fail;refine r.mono ?_;rintro e w3 ⟨rfl,M,l⟩;clear r;have ah:=l.size;have L:=(l.block _ o_ o_).trans G;have N:=J.tr l;obtain⟨q0,q1,q2,p0,p1,p2⟩:=ay_ L;obtain⟨b,c,d,D,E⟩:=i8_ M N ι U L (.int .i64 0) (.int .i64 0) (.bool false);have z:Hid _:=b;have A:Hid _:=c;have B:Hid _:=d;clear b c d;go_wp2_with fail;have b:=z.out;have c:=A.out;have d:=B.out;refine bodyPost_ret (v:= .tuple #[.agg #[.int .i64 0,.int .i64 0,.bool false],.bool false]) (by simp[results,results190,go_sem,b,c,d]) rfl ?_;exact⟨⟨⟨_,_,_,rfl⟩,D⟩,E⟩
 cases h4:ς s (a+1+1) 125
 rotate_left 1
 . have n:cq_ s ⟨a,bk,sp⟩= .ok (f,f+1,true) ⟨a+1+1+1,bk,sp⟩:=by simp[cq_,Sp.go,a2_,Sp.tell,h1,h2,h3,h4,HF.out]
   rw[n];clear n h;go_enter func190,ntmps190;go_upto_region 1 with fail;rw[<-q];clear q;have m:=V _ T;go_wp2_with fail;refine m.mono ?_;rintro e w1 ⟨rfl,C,i⟩;clear m;have ac:=i.size;have x:=(i.block _ o_ o_).trans Y;have F:=X.tr i;have o:=a9_ hs h2 C;go_wp2_with fail;refine o.mono ?_;rintro e w2 ⟨rfl,H,j⟩;clear o;have af:=j.size;have G:=(j.block _ o_ o_).trans x;have J:=F.tr j;have r:=c1_ hs h3 H;go_wp2_with fail;refine r.mono ?_;rintro e w3 ⟨rfl,M,l⟩;clear r;have ah:=l.size;have L:=(l.block _ o_ o_).trans G;have N:=J.tr l;have y:=c1_ hs h4 M;go_wp2_with fail;refine y.mono ?_;rintro e w4 ⟨rfl,Q,p⟩;clear y;have ak:=p.size;have O:=(p.block _ o_ o_).trans L;have R:=N.tr p;obtain⟨q0,q1,q2,p0,p1,p2⟩:=ay_ O;obtain⟨b,c,d,D,E⟩:=i8_ Q R ι U O (.int .i64 (f:Int)) (.int .i64 ((f:Int)+1)) (.bool true);have z:Hid _:=b;have A:Hid _:=c;have B:Hid _:=d;clear b c d;go_wp2_with fail;have b:=z.out;have c:=A.out;have d:=B.out;refine bodyPost_ret (v:= .tuple #[.agg #[.int .i64 (f:Int),.int .i64 ((f:Int)+1),.bool true],.bool true]) (by simp[results,results190,go_sem,b,c,d]) rfl ?_;exact⟨⟨rfl,D⟩,E⟩
 cases h5:d0_ s (a+1+1)
 . have n:cq_ s ⟨a,bk,sp⟩= .no ⟨a+1+1,bk,sp⟩:=by simp[cq_,Sp.go,a2_,Sp.tell,h1,h2,h3,h4,h5]
   rw[n];clear n h;go_enter func190,ntmps190;go_upto_region 1 with fail;rw[<-q];clear q;have m:=V _ T;go_wp2_with fail;refine m.mono ?_;rintro e w1 ⟨rfl,C,i⟩;clear m;have ac:=i.size;have x:=(i.block _ o_ o_).trans Y;have F:=X.tr i;have o:=a9_ hs h2 C;go_wp2_with fail;refine o.mono ?_;rintro e w2 ⟨rfl,H,j⟩;clear o;have af:=j.size;have G:=(j.block _ o_ o_).trans x;have J:=F.tr j;have r:=c1_ hs h3 H;go_wp2_with fail;refine r.mono ?_;rintro e w3 ⟨rfl,M,l⟩;clear r;have ah:=l.size;have L:=(l.block _ o_ o_).trans G;have N:=J.tr l;have y:=a9_ hs h4 M;go_wp2_with fail;refine y.mono ?_;rintro e w4 ⟨rfl,Q,p⟩;clear y;have ak:=p.size;have O:=(p.block _ o_ o_).trans L;have R:=N.tr p;have K:=ur_ hs h5 Q;go_wp2_with fail;refine K.mono ?_;rintro e w5 ⟨rfl,aa,u⟩;clear K;have am:=u.size;have S:=(u.block _ o_ o_).trans O;have ab:=R.tr u;obtain⟨q0,q1,q2,p0,p1,p2⟩:=ay_ S;obtain⟨b,c,d,D,E⟩:=i8_ aa ab ι U S (.int .i64 0) (.int .i64 0) (.bool false);have z:Hid _:=b;have A:Hid _:=c;have B:Hid _:=d;clear b c d;go_wp2_with fail;have b:=z.out;have c:=A.out;have d:=B.out;refine bodyPost_ret (v:= .tuple #[.agg #[.int .i64 0,.int .i64 0,.bool false],.bool false]) (by simp[results,results190,go_sem,b,c,d]) rfl ?_;exact⟨⟨⟨_,_,_,rfl⟩,D⟩,E⟩
 obtain⟨g,HG⟩:=δ (θ s (a+1+1)- 48)
 have HE:∀w,υ w bp s (a+1+1) vn bk (sp:Int)->_:=fun w h=>uq_ (w:=w) hs h5 h
 rw[HG.out]at HE;by_cases al:g<f
 . have au:(g:Int)<(f:Int):=o_;obtain⟨sq,an⟩:=δ (if bk then sp else a);have ao:∀w,υ w bp s (a+1+1+1) vn bk (sp:Int)->_:=fun w h=>us_ (w:=w) (pl:=a) h
   rw[an.out]at ao;cases h6:ς s (a+1+1+1) 125
   . have n:cq_ s ⟨a,bk,sp⟩= .no ⟨a+1+1+1,true,sq⟩:=by rw[<-an.out];cases bk<;>simp[cq_,Sp.go,a2_,Sp.tell,h1,h2,h3,h4,h5,h6,HF.out,HG.out,al]
     rw[n];clear n h;go_enter func190,ntmps190;go_upto_region 1 with fail;rw[<-q];clear q;have m:=V _ T;go_wp2_with fail;refine m.mono ?_;rintro e w1 ⟨rfl,C,i⟩;clear m;have ac:=i.size;have x:=(i.block _ o_ o_).trans Y;have F:=X.tr i;have o:=a9_ hs h2 C;go_wp2_with fail;refine o.mono ?_;rintro e w2 ⟨rfl,H,j⟩;clear o;have af:=j.size;have G:=(j.block _ o_ o_).trans x;have J:=F.tr j;have r:=c1_ hs h3 H;go_wp2_with fail;refine r.mono ?_;rintro e w3 ⟨rfl,M,l⟩;clear r;have ah:=l.size;have L:=(l.block _ o_ o_).trans G;have N:=J.tr l;have y:=a9_ hs h4 M;go_wp2_with fail;refine y.mono ?_;rintro e w4 ⟨rfl,Q,p⟩;clear y;have ak:=p.size;have O:=(p.block _ o_ o_).trans L;have R:=N.tr p;have K:=HE _ Q;go_wp2_with fail;refine K.mono ?_;rintro e w5 ⟨rfl,aa,u⟩;clear K;have am:=u.size;have S:=(u.block _ o_ o_).trans O;have ab:=R.tr u;have P:=ao _ aa;go_wp2_with fail;refine P.mono ?_;rintro e w6 ⟨rfl,ad,I⟩;clear P;have aq:=I.size;have Z:=(I.block _ o_ o_).trans S;have ag:=ab.tr I;have ai:=a9_ hs h6 ad;go_wp2_with fail;refine ai.mono ?_;rintro e w7 ⟨rfl,ap,ae⟩;clear ai;have av:=ae.size;have aj:=(ae.block _ o_ o_).trans Z;have ar:=ag.tr ae;obtain⟨q0,q1,q2,p0,p1,p2⟩:=ay_ aj;obtain⟨b,c,d,D,E⟩:=i8_ ap ar ι U aj (.int .i64 (f:Int)) (.int .i64 (g:Int)) (.bool false);have z:Hid _:=b;have A:Hid _:=c;have B:Hid _:=d;clear b c d;go_wp2_with fail;have b:=z.out;have c:=A.out;have d:=B.out;refine bodyPost_ret (v:= .tuple #[.agg #[.int .i64 (f:Int),.int .i64 (g:Int),.bool false],.bool false]) (by simp[results,results190,go_sem,b,c,d]) rfl ?_;exact⟨⟨⟨_,_,_,rfl⟩,D⟩,E⟩
   . have n:cq_ s ⟨a,bk,sp⟩= .ok (f,g,false) ⟨a+1+1+1+1,true,sq⟩:=by rw[<-an.out];cases bk<;>simp[cq_,Sp.go,a2_,Sp.tell,h1,h2,h3,h4,h5,h6,HF.out,HG.out,al]
     rw[n];clear n h;go_enter func190,ntmps190;go_upto_region 1 with fail;rw[<-q];clear q;have m:=V _ T;go_wp2_with fail;refine m.mono ?_;rintro e w1 ⟨rfl,C,i⟩;clear m;have ac:=i.size;have x:=(i.block _ o_ o_).trans Y;have F:=X.tr i;have o:=a9_ hs h2 C;go_wp2_with fail;refine o.mono ?_;rintro e w2 ⟨rfl,H,j⟩;clear o;have af:=j.size;have G:=(j.block _ o_ o_).trans x;have J:=F.tr j;have r:=c1_ hs h3 H;go_wp2_with fail;refine r.mono ?_;rintro e w3 ⟨rfl,M,l⟩;clear r;have ah:=l.size;have L:=(l.block _ o_ o_).trans G;have N:=J.tr l;have y:=a9_ hs h4 M;go_wp2_with fail;refine y.mono ?_;rintro e w4 ⟨rfl,Q,p⟩;clear y;have ak:=p.size;have O:=(p.block _ o_ o_).trans L;have R:=N.tr p;have K:=HE _ Q;go_wp2_with fail;refine K.mono ?_;rintro e w5 ⟨rfl,aa,u⟩;clear K;have am:=u.size;have S:=(u.block _ o_ o_).trans O;have ab:=R.tr u;have P:=ao _ aa;go_wp2_with fail;refine P.mono ?_;rintro e w6 ⟨rfl,ad,I⟩;clear P;have aq:=I.size;have Z:=(I.block _ o_ o_).trans S;have ag:=ab.tr I;have ai:=c1_ hs h6 ad;go_wp2_with fail;refine ai.mono ?_;rintro e w7 ⟨rfl,ap,ae⟩;clear ai;have av:=ae.size;have aj:=(ae.block _ o_ o_).trans Z;have ar:=ag.tr ae;obtain⟨q0,q1,q2,p0,p1,p2⟩:=ay_ aj;obtain⟨b,c,d,D,E⟩:=i8_ ap ar ι U aj (.int .i64 (f:Int)) (.int .i64 (g:Int)) (.bool false);have z:Hid _:=b;have A:Hid _:=c;have B:Hid _:=d;clear b c d;go_wp2_with fail;have b:=z.out;have c:=A.out;have d:=B.out;refine bodyPost_ret (v:= .tuple #[.agg #[.int .i64 (f:Int),.int .i64 (g:Int),.bool false],.bool true]) (by simp[results,results190,go_sem,b,c,d]) rfl ?_;exact⟨⟨rfl,D⟩,E⟩
 . have au:¬(g:Int)<(f:Int):=o_;cases h6:ς s (a+1+1+1) 125
   . have n:cq_ s ⟨a,bk,sp⟩= .no ⟨a+1+1+1,bk,sp⟩:=by simp[cq_,Sp.go,a2_,Sp.tell,h1,h2,h3,h4,h5,h6,HF.out,HG.out,al]
     rw[n];clear n h;go_enter func190,ntmps190;go_upto_region 1 with fail;rw[<-q];clear q;have m:=V _ T;go_wp2_with fail;refine m.mono ?_;rintro e w1 ⟨rfl,C,i⟩;clear m;have ac:=i.size;have x:=(i.block _ o_ o_).trans Y;have F:=X.tr i;have o:=a9_ hs h2 C;go_wp2_with fail;refine o.mono ?_;rintro e w2 ⟨rfl,H,j⟩;clear o;have af:=j.size;have G:=(j.block _ o_ o_).trans x;have J:=F.tr j;have r:=c1_ hs h3 H;go_wp2_with fail;refine r.mono ?_;rintro e w3 ⟨rfl,M,l⟩;clear r;have ah:=l.size;have L:=(l.block _ o_ o_).trans G;have N:=J.tr l;have y:=a9_ hs h4 M;go_wp2_with fail;refine y.mono ?_;rintro e w4 ⟨rfl,Q,p⟩;clear y;have ak:=p.size;have O:=(p.block _ o_ o_).trans L;have R:=N.tr p;have K:=HE _ Q;go_wp2_with fail;refine K.mono ?_;rintro e w5 ⟨rfl,aa,u⟩;clear K;have am:=u.size;have S:=(u.block _ o_ o_).trans O;have ab:=R.tr u;have P:=a9_ hs h6 aa;go_wp2_with fail;refine P.mono ?_;rintro e w6 ⟨rfl,ad,I⟩;clear P;have aq:=I.size;have Z:=(I.block _ o_ o_).trans S;have ag:=ab.tr I;obtain⟨q0,q1,q2,p0,p1,p2⟩:=ay_ Z;obtain⟨b,c,d,D,E⟩:=i8_ ad ag ι U Z (.int .i64 (f:Int)) (.int .i64 (g:Int)) (.bool false);have z:Hid _:=b;have A:Hid _:=c;have B:Hid _:=d;clear b c d;go_wp2_with fail;have b:=z.out;have c:=A.out;have d:=B.out;refine bodyPost_ret (v:= .tuple #[.agg #[.int .i64 (f:Int),.int .i64 (g:Int),.bool false],.bool false]) (by simp[results,results190,go_sem,b,c,d]) rfl ?_;exact⟨⟨⟨_,_,_,rfl⟩,D⟩,E⟩
   . have n:cq_ s ⟨a,bk,sp⟩= .ok (f,g,false) ⟨a+1+1+1+1,bk,sp⟩:=by simp[cq_,Sp.go,a2_,Sp.tell,h1,h2,h3,h4,h5,h6,HF.out,HG.out,al]
     rw[n];clear n h;go_enter func190,ntmps190;go_upto_region 1 with fail;rw[<-q];clear q;have m:=V _ T;go_wp2_with fail;refine m.mono ?_;rintro e w1 ⟨rfl,C,i⟩;clear m;have ac:=i.size;have x:=(i.block _ o_ o_).trans Y;have F:=X.tr i;have o:=a9_ hs h2 C;go_wp2_with fail;refine o.mono ?_;rintro e w2 ⟨rfl,H,j⟩;clear o;have af:=j.size;have G:=(j.block _ o_ o_).trans x;have J:=F.tr j;have r:=c1_ hs h3 H;go_wp2_with fail;refine r.mono ?_;rintro e w3 ⟨rfl,M,l⟩;clear r;have ah:=l.size;have L:=(l.block _ o_ o_).trans G;have N:=J.tr l;have y:=a9_ hs h4 M;go_wp2_with fail;refine y.mono ?_;rintro e w4 ⟨rfl,Q,p⟩;clear y;have ak:=p.size;have O:=(p.block _ o_ o_).trans L;have R:=N.tr p;have K:=HE _ Q;go_wp2_with fail;refine K.mono ?_;rintro e w5 ⟨rfl,aa,u⟩;clear K;have am:=u.size;have S:=(u.block _ o_ o_).trans O;have ab:=R.tr u;have P:=c1_ hs h6 aa;go_wp2_with fail;refine P.mono ?_;rintro e w6 ⟨rfl,ad,I⟩;clear P;have aq:=I.size;have Z:=(I.block _ o_ o_).trans S;have ag:=ab.tr I;obtain⟨q0,q1,q2,p0,p1,p2⟩:=ay_ Z;obtain⟨b,c,d,D,E⟩:=i8_ ad ag ι U Z (.int .i64 (f:Int)) (.int .i64 (g:Int)) (.bool false);have z:Hid _:=b;have A:Hid _:=c;have B:Hid _:=d;clear b c d;go_wp2_with fail;have b:=z.out;have c:=A.out;have d:=B.out;refine bodyPost_ret (v:= .tuple #[.agg #[.int .i64 (f:Int),.int .i64 (g:Int),.bool false],.bool true]) (by simp[results,results190,go_sem,b,c,d]) rfl ?_;exact⟨⟨rfl,D⟩,E⟩
def ac2_ (bp:Nat)(s:ByteArray)(vn:Value)(r:ψ (Nat->Bool))(e:Ending)(w':World):Prop:=
 match r with
 | .no t=>(∃f,e= .returned (.tuple #[.agg (Ε f),.bool false]))/\υ w' bp s t.a vn t.bk (t.sp:Int)
 | .ok N t=>e= .returned (.tuple #[.agg (Ε N),.bool true])/\υ w' bp s t.a vn t.bk (t.sp:Int)
def atOf (w:World)(bp:Nat):Nat:=match w.cell? ⟨bp,1,none⟩with
 |some (.int _ a)=>a.toNat
 |_=>0
theorem υ.atOf (h:υ w bp s a vn bk sp):atOf w bp=a:=by
 obtain⟨_,b,_⟩:=h.cells;unfold Go.Proofs.YtpngikmcjkjdaaaGreatDoor.atOf;rw[b];simp
def uu_ (ob:Bool)(r:ψ (Nat->Bool)):ψ (Nat->Bool):=match r with
 | .no t=> .no t
 | .ok N t=> .ok (if ob then fun c=> !N c else N) t
theorem ac3_ (s:ByteArray)(t:Sp):f8_ s t=uu_ (ς s t.a 94) (em_ s (s.size+1) (fun _=>false) (if ς s t.a 94 then t.go else t)):=by
 unfold f8_ uu_;cases ς s t.a 94
 . simp only[ft_,if_false];cases em_ s (s.size+1) (fun _=>false) t<;>rfl
 . simp only[if_true];cases em_ s (s.size+1) (fun _=>false) t.go<;>rfl
structure i9_ (R:ψ (Nat->Bool))(w:World)(bp B:Nat)(s:ByteArray)(vn:Value)(wr:World)(N:Nat->Bool)(t1:Sp)(cl:Bool):Prop where
 rel:if cl then R= .ok N t1 else∃n,s.size - t1.a<n/\em_ s n N t1=R
 le:t1.a<=s.size
 cJ:ε (fun k=>k=bp) w wr
 par:υ wr bp s t1.a vn t1.bk (t1.sp:Int)
 res:wr.rowIs B 128 8 (fun _=> .bool false)
 fl:wr.rowIs (B+1) 128 8 (fun c=> .bool (N c))
def ic_ (N:Nat->Bool)(f i:Nat):Nat->Bool:=fun c=>N c||(decide (f<=c)&&decide (c<i))
theorem uv_ (N:Nat->Bool)(f:Nat):ic_ N f f=N:=by
 funext c;unfold ic_;have:(decide (f<=c)&&decide (c<f))=false:=i_;rw[this];simp
theorem ac4_ (N:Nat->Bool)(h:f<=i)(c:Nat):ic_ N f (i+1) c=if c=i then true else ic_ N f i c:=by
 unfold ic_;by_cases e:c=i
 . subst e;simp[h]
 . rw[if_neg e];have:decide (c<i+1)=decide (c<i):=by rw[decide_eq_decide];omega
   rw[this]
theorem uw_ (N:Nat->Bool)(h1:f<=i)(h2:¬i<=g)(h3:i<=g+1\/i=f):ic_ N f i=f7_ N f g:=by
 funext c;unfold ic_ f7_;have:(decide (f<=c)&&decide (c<i))=(decide (f<=c)&&decide (c<=g)):=by
  rw[Bool.eq_iff_iff];simp;omega
 rw[this]
theorem i9_.step {R:ψ (Nat->Bool)}{w5:World}{t1 t2:Sp}{cl:Bool}(h:i9_ R w bp B s vn wr N t1 false)(hp:eb_ s t1= .ok (f,g) t2)(hcl:ς s t2.a 93=cl)
 (ht:ε (fun k=>k=bp) w w5) (hpar:υ w5 bp s (if cl then(a2_ t1.a f g t2).go else a2_ t1.a f g t2).a vn (a2_ t1.a f g t2).bk ((a2_ t1.a f g t2).sp:Int)) (hres:w5.rowIs B 128 8 (fun _=> .bool false)) (hnts:w5.rowIs (B+1) 128 8 (fun c=> .bool (f7_ N f g c))):
 i9_ R w bp B s vn w5 (f7_ N f g) (if cl then(a2_ t1.a f g t2).go else a2_ t1.a f g t2) cl:=by
 have i:=my_ hp;have hrel:=h.rel;simp only[ft_,if_false]at hrel;obtain⟨n,e,b⟩:=hrel;obtain⟨n,rfl⟩:∃m,n=m+1:=⟨n - 1,o_⟩;simp only[em_,hp,hcl]at b;cases cl
 . simp only[ft_,if_false]at b hpar ⊢;exact⟨by simp only[ft_,if_false];exact⟨n,by simp only[spanF_a];omega,b⟩,by simp only[spanF_a];omega,ht,hpar,hres,hnts⟩
 . simp only[if_true]at b hpar ⊢;have d:=dl_ hcl;exact⟨by simp only[if_true];exact b.symm,by simp only[go_a,spanF_a];omega,ht,hpar,hres,hnts⟩
theorem i9_.fail {R:ψ (Nat->Bool)}{t1 t2:Sp}(h:i9_ R w bp B s vn wr N t1 false)(hp:eb_ s t1= .no t2):R= .no t2:=by
 have hrel:=h.rel;simp only[ft_,if_false]at hrel;obtain⟨n,b,a⟩:=hrel;obtain⟨n,rfl⟩:∃m,n=m+1:=⟨n - 1,o_⟩;simp only[em_,hp]at a;exact a.symm
theorem q2_ (f:Nat->Bool)(h:υ w bp s a vn bk sp)(hb:bp≠b):υ (fo_ w b f) bp s a vn bk sp:=by
 unfold fo_;exact(((((((h.other hb _).other hb _).other hb _).other hb _).other hb _).other hb _).other hb _).other hb _
theorem ot_ (bp:Nat)(s:ByteArray)(t:Sp)(vn:Value)(w:World)(hs:s.size<=40)(hta:t.a<=s.size)(h:υ w bp s t.a vn t.bk (t.sp:Int)):
 Calls prog 191 #[.pointer (some ⟨bp,0,none⟩)] w fun e w'=>ac2_ bp s vn (f8_ s t) e w'/\ε (fun k=>k=bp) w w':=by
 have aE:bp<w.heap.size:=κ h;obtain⟨W,T,-,b0,b1⟩:=bl_ w (Ε (fun _=>false)) 128 (Ε (fun _=>false)) 128;have TW:ε (fun k=>k=bp) w W:=by rw[T];exact((ε.refl _ _).alloc _).alloc _
 have aK:W.heap.size=w.heap.size+1+1:=by rw[T];simp
 have h0:υ W bp s t.a vn t.bk (t.sp:Int):=h.block (by rw[T];exact(Below.heap_alloc _ _ bp s_).trans (Below.heap_alloc w _ bp aE));rw[ac3_];have ad:=mw_ bp s t.a 94 vn t.bk (t.sp:Int) W hs h0;obtain⟨t0,S⟩:=δ (if ς s t.a 94 then t.go else t);have e1:(if ς s t.a 94 then t.a+1 else t.a)=t0.a:=by rw[<-S.out];cases ς s t.a 94<;>rfl
 have e2:t.bk=t0.bk:=by rw[<-S.out];cases ς s t.a 94<;>rfl
 have e3:t.sp=t0.sp:=by rw[<-S.out];cases ς s t.a 94<;>rfl
 have e4:t0.a<=s.size:=by
  rw[<-S.out];cases hb:ς s t.a 94
  . exact hta
  . exact dl_ hb
 rw[e1,e2,e3]at ad;rw[S.out];obtain⟨R,HR⟩:=δ (em_ s (s.size+1) (fun _=>false) t0);rw[HR.out];obtain⟨ob,ao⟩:=δ (ς s t.a 94);rw[ao.out]at ad ⊢;clear e1 e2 e3 h h0;simp only[show Ε (fun _=>false)= #[.bool false,.bool false,.bool false,.bool false,.bool false,.bool false,.bool false,.bool false]from rfl]at T;go_enter func191,ntmps191;go_upto_region 2 with fail;rw[<-T];clear T;go_wp2_with fail;refine ad.mono ?_;clear ad;rintro e w1 ⟨rfl,aw,ag⟩;have S0:i9_ R w bp w.heap.size s vn w1 (fun _=>false) t0 false:=⟨by simp only[ft_,if_false];exact⟨_,o_,HR.out⟩,e4,TW.tr ag,aw,ag.row (co_ b0) o_,ag.row (co_ b1) o_⟩;clear aw ag b0 b1 TW HR S ao e4 hta;go_wp2_with fail;go_loopw [6,7,8,9,10,11] (fun cl' _ _ _ _ _ wr=>∃(N:Nat->Bool) (t1:Sp) (n:Bool),cl'= .bool n/\i9_ R w bp w.heap.size s vn wr N t1 n) (fun _ _ _ _ _ _ wr=>100 - atOf wr bp)
 case atStart=>exact⟨_,_,_,rfl,S0⟩
 case round=>
  clear S0;obtain⟨N,t1,n,rfl,r⟩:=hrel;have L:=r.par;have Q:=r.cJ;have aM:=r.fl.lt;have ar:=L.atOf;have ai:Hid _:=ar;clear ar;cases n
  . obtain⟨_,x1,_,_,_,_,_,_⟩:=L.cells;have l:=ac0_ bp s t1 vn wr hs L;cases hr:eb_ s t1 with
    |no t2=>
     have hR:=r.fail hr;have G:Hid _:=r;rw[hr]at l;subst hR;clear r hr;go_wp2_with fail;refine l.mono ?_;clear l;rintro e w2 ⟨⟨⟨fv,gv,rfl⟩,P⟩,ht2⟩;have d:=ht2.row G.out.res o_;have j:=ht2.row G.out.fl o_;obtain⟨z,u,y,A,B,C,D,E⟩:=bz_ j;obtain⟨d0,d1,d2,d3,d4,d5,d6,d7⟩:=bz_ (f:=fun _=>false) d;obtain⟨f0,f1,f2,f3,f4,f5,f6,f7⟩:=oo_ d;have q:Hid _:=d;have Y:Hid _:=P;have aa:Hid _:=Q.tr ht2;clear d j L Q G P ht2 x1 ai;go_wp2_with fail;obtain⟨W9,p⟩:=af_ (fo_ w2 w.heap.size N);have J:=op_ N q.out;have I:=q2_ (b:=w.heap.size) N Y.out o_;have K:=q0_ (b:=w.heap.size) N aa.out (.inr ι);rw[<-p]at J I K;unfold fo_ at p;rw[<-p];clear p z u y A B C D E;obtain⟨z,u,y,A,B,C,D,E⟩:=bz_ J;refine bodyPost_ret (v:= .tuple #[.agg (Ε N),.bool false]) (by simp[results,results191,go_sem,Ε,z,u,y,A,B,C,D,E]) rfl ?_;exact⟨⟨⟨N,rfl⟩,I⟩,K⟩
    |ok x t2=>
     obtain⟨f,g⟩:=x;have aL:=my_ hr;rw[hr]at l;have G:Hid _:=r;have ap:Hid _:=hr;clear r hr;go_wp2_with fail;refine l.mono ?_;clear l;rintro e w2 ⟨⟨rfl,P⟩,ht2⟩;have d:=ht2.row G.out.res o_;have j:=ht2.row G.out.fl o_;have m:=Q.tr ht2;clear L Q x1 ht2;by_cases av:g<f
     . have aH:(g:Int)<(f:Int):=o_;obtain⟨sq,aq⟩:=δ (if t2.bk then t2.sp else t1.a);have aj:=us_ (pl:=t1.a) P;rw[aq.out]at aj;go_wp2_with fail;refine aj.mono ?_;clear aj;rintro e w3 ⟨rfl,o,ah⟩;have U:υ w3 bp s (a2_ t1.a f g t2).a vn (a2_ t1.a f g t2).bk ((a2_ t1.a f g t2).sp:Int):=by
        unfold a2_;rw[if_pos av];show υ w3 bp s t2.a vn true (((if t2.bk then t2.sp else t1.a:Nat):Nat):Int)
        rw[aq.out];exact o
       replace d:=ah.row d o_;replace j:=ah.row j o_;replace m:=m.tr ah;clear P o ah;have aI:=m.size;obtain⟨t3,O⟩:=δ (a2_ t1.a f g t2);have o:υ w3 bp s t3.a vn t3.bk (t3.sp:Int):=by rw[<-O.out];exact U
       have al:t3.a=t2.a:=by rw[<-O.out];simp
       clear U;go_wp2_with fail;go_loopw [11] (fun i' wr=>∃i:Nat,i'= .int .i64 (i:Int)/\f<=i/\(i<=g+1\/i=f)/\i<=9/\ε (fun k=>k=bp) w wr/\υ wr bp s t3.a vn t3.bk (t3.sp:Int)/\wr.rowIs w.heap.size 128 8 (fun _=> .bool false)/\wr.rowIs (w.heap.size+1) 128 8 (fun c=> .bool (ic_ N f i c))) (fun i' _=>20 - (intOf i').toNat)
       case atStart=>exact⟨f,rfl,ι,.inr rfl,o_,m,o,d,by rw[uv_];exact j⟩
       case round=>
        clear m o d j;obtain⟨i,rfl,af,am,aG,m,o,d,j⟩:=hrel;have aJ:=m.size;by_cases an:i<=g
        . exfalso;omega
        . have au:¬(i:Int)<=(g:Int):=o_;have hN:ic_ N f i=f7_ N f g:=uw_ N af an am;have ac:wr.rowIs (w.heap.size+1) 128 8 (fun c=> .bool (f7_ N f g c)):=by rw[<-hN];exact j
          have l:=mw_ bp s t3.a 93 vn t3.bk (t3.sp:Int) wr hs o;obtain⟨n,X⟩:=δ (ς s t3.a 93);rw[X.out]at l;have ak:Hid _:=m;have q:Hid _:=d;have Z:Hid _:=ac;clear o m d j hN ac;go_wp2_with fail;refine l.mono ?_;clear l;rintro e V ⟨rfl,H,F⟩;have ab:i9_ R w bp w.heap.size s vn V (f7_ N f g) (if n then(a2_ t1.a f g t2).go else a2_ t1.a f g t2) n:=by
           refine G.out.step ap.out (by rw[<-al];exact X.out) (ak.out.tr F) ?_ (F.row q.out o_) (F.row Z.out o_);rw[O.out];cases n
           . exact H
           . exact H
          have aD:=ab.par.atOf;have aF:t1.a<(if n then(a2_ t1.a f g t2).go else a2_ t1.a f g t2).a:=by
           cases n
           . simp only[ft_,if_false,spanF_a];omega
           . simp only[if_true,go_a,spanF_a];omega
          go_wp2_with fail;go_roundw
          case rel=>exact⟨_,_,_,rfl,ab⟩
          case measure=>
           have:=ai.out;omega
     . have aH:¬(g:Int)<(f:Int):=o_;have U:υ w2 bp s (a2_ t1.a f g t2).a vn (a2_ t1.a f g t2).bk ((a2_ t1.a f g t2).sp:Int):=by
        unfold a2_;rw[if_neg av];exact P
       obtain⟨w3,aC⟩:=δ w2;rw[aC.out]at U d j m ⊢;clear P;have aI:=m.size;obtain⟨t3,O⟩:=δ (a2_ t1.a f g t2);have o:υ w3 bp s t3.a vn t3.bk (t3.sp:Int):=by rw[<-O.out];exact U
       have al:t3.a=t2.a:=by rw[<-O.out];simp
       clear U;go_wp2_with fail;go_loopw [11] (fun i' wr=>∃i:Nat,i'= .int .i64 (i:Int)/\f<=i/\(i<=g+1\/i=f)/\i<=9/\ε (fun k=>k=bp) w wr/\υ wr bp s t3.a vn t3.bk (t3.sp:Int)/\wr.rowIs w.heap.size 128 8 (fun _=> .bool false)/\wr.rowIs (w.heap.size+1) 128 8 (fun c=> .bool (ic_ N f i c))) (fun i' _=>20 - (intOf i').toNat)
       case atStart=>exact⟨f,rfl,ι,.inr rfl,o_,m,o,d,by rw[uv_];exact j⟩
       case round=>
        clear m o d j;obtain⟨i,rfl,af,am,aG,m,o,d,j⟩:=hrel;have aJ:=m.size;by_cases an:i<=g
        . have u:=j.cell (i:=i) o_;have y:=j.frozen i;have au:(i:Int)<=(g:Int):=o_;have ax:=α o;have aA:Hid _:=m;have q:=α d;have Z:=α j;clear o m d j;go_wp2_with fail;go_roundw
          case rel=>
           refine⟨i+1,by go_num,o_,o_,o_,aA.out.set _ _ (.inr i_),ax.out.other s_ _,q.out.setOther i_ _,(Z.out.set i _).congr (fun c _=> ?_)⟩;rw[ac4_ N af c];by_cases e:c=i<;>simp[e]
          case measure=>exact c_
        . have au:¬(i:Int)<=(g:Int):=o_;have hN:ic_ N f i=f7_ N f g:=uw_ N af an am;have ac:wr.rowIs (w.heap.size+1) 128 8 (fun c=> .bool (f7_ N f g c)):=by rw[<-hN];exact j
          have l:=mw_ bp s t3.a 93 vn t3.bk (t3.sp:Int) wr hs o;obtain⟨n,X⟩:=δ (ς s t3.a 93);rw[X.out]at l;have ak:Hid _:=m;have q:Hid _:=d;have Z:Hid _:=ac;clear o m d j hN ac;go_wp2_with fail;refine l.mono ?_;clear l;rintro e V ⟨rfl,H,F⟩;have ab:i9_ R w bp w.heap.size s vn V (f7_ N f g) (if n then(a2_ t1.a f g t2).go else a2_ t1.a f g t2) n:=by
           refine G.out.step ap.out (by rw[<-al];exact X.out) (ak.out.tr F) ?_ (F.row q.out o_) (F.row Z.out o_);rw[O.out];cases n
           . exact H
           . exact H
          have aD:=ab.par.atOf;have aF:t1.a<(if n then(a2_ t1.a f g t2).go else a2_ t1.a f g t2).a:=by
           cases n
           . simp only[ft_,if_false,spanF_a];omega
           . simp only[if_true,go_a,spanF_a];omega
          go_wp2_with fail;go_roundw
          case rel=>exact⟨_,_,_,rfl,ab⟩
          case measure=>
           have:=ai.out;omega
  . have hR:R= .ok N t1:=r.rel;have d:=r.res;have j:=r.fl;obtain⟨z,u,y,A,B,C,D,E⟩:=bz_ j;obtain⟨d0,d1,d2,d3,d4,d5,d6,d7⟩:=bz_ (f:=fun _=>false) d;obtain⟨f0,f1,f2,f3,f4,f5,f6,f7⟩:=oo_ d;have q:=α d;have Y:=α L;have aa:=α Q;clear d j L Q r;subst hR;cases ob
    . go_wp2_with fail;obtain⟨W9,p⟩:=af_ (fo_ wr w.heap.size N);have J:=op_ N q.out;have I:=q2_ (b:=w.heap.size) N Y.out o_;have K:=q0_ (b:=w.heap.size) N aa.out (.inr ι);rw[<-p]at J I K;unfold fo_ at p;rw[<-p];clear p z u y A B C D E;obtain⟨z,u,y,A,B,C,D,E⟩:=bz_ J;refine bodyPost_ret (v:= .tuple #[.agg (Ε N),.bool true]) (by simp[results,results191,go_sem,Ε,z,u,y,A,B,C,D,E]) rfl ?_;exact⟨⟨rfl,I⟩,K⟩
    . obtain⟨M,HM⟩:∃M:Nat->Bool,Hid ((fun c=> !N c)=M):=⟨_,rfl⟩;have l:=q1_ N wr;rw[HM.out]at l;unfold Ε at l;go_wp2_with fail;refine l.mono ?_;clear l;rintro e V ⟨rfl,ae⟩;have d:=q.out.of_block (ae.block _ q.out.lt);have H:=Y.out.block (ae.block _ o_);have F:ε (fun k=>k=bp) w V:=aa.out.tr (qz_ ae);clear d0 d1 d2 d3 d4 d5 d6 d7 f0 f1 f2 f3 f4 f5 f6 f7 z u y A B C D E;obtain⟨d0,d1,d2,d3,d4,d5,d6,d7⟩:=bz_ (f:=fun _=>false) d;obtain⟨f0,f1,f2,f3,f4,f5,f6,f7⟩:=oo_ d;have az:Hid _:=d;have ay:Hid _:=H;have aB:Hid _:=F;clear d H F ae q Y aa;go_wp2_with fail;obtain⟨W9,p⟩:=af_ (fo_ V w.heap.size M);have J:=op_ M az.out;have I:=q2_ (b:=w.heap.size) M ay.out o_;have K:=q0_ (b:=w.heap.size) M aB.out (.inr ι);rw[<-p]at J I K;unfold fo_ at p;rw[<-p];clear p;obtain⟨z,u,y,A,B,C,D,E⟩:=bz_ J;refine bodyPost_ret (v:= .tuple #[.agg (Ε M),.bool true]) (by simp[results,results191,go_sem,Ε,z,u,y,A,B,C,D,E]) rfl ?_;refine⟨⟨?_,I⟩,K⟩;simp only[if_true];rw[HM.out]
end Go.Proofs.YtpngikmcjkjdaaaGreatDoor
