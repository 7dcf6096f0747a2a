import Derived.Test.YtpngikmcjkjdaaaGreatDoorC10
import Derived.Test.YtpngikmcjkjdaaaGreatDoorC17
import Derived.Test.YtpngikmcjkjdaaaGreatDoorC18
set_option linter.unusedVariables false
set_option linter.unusedSimpArgs false
set_option maxRecDepth 20000
set_option maxHeartbeats 80000000
namespace Go.Proofs.YtpngikmcjkjdaaaGreatDoor
open Go.RowKit Tryz List Nat
variable {b k n:Nat} {t:Nat->ByteArray} {ry:Value} {w w':World}
theorem aft_ (r:aj_)(A:Nat->Bool)(X:Nat->Nat->Int)(w:World)(bx:Nat)(h:az_ w r A X)(hok:Ο r X=false):
 Calls prog 95 #[.pointer (some ⟨bx,0,none⟩),.agg #[.slice r.aa r.na r.ca,.slice r.an r.nn r.cn]] w
  fun e w'=>e= .returned (.tuple #[.int .i64 0,.int .i64 6])/\Bl w w':=by
 have b:Bl w (w.alloc (.cells #[.slice r.aa r.na r.ca,.slice r.an r.nn r.cn] 41)):=μ.alloc ι _;have a:=oa_ r A X _ (h.below b);rw[hok]at a;clear h hok;go_enter func95,ntmps95;go_wp2_with fail;refine a.mono ?_;rintro e f ⟨rfl,c⟩;have d:Bl w f:=b.trans (c.mono i_);clear a c;go_wp2_with fail;go_ret2;exact⟨rfl,d⟩
def bw_ (c:Nat->Cu):Nat:=if (c 0).op=false then 0 else if (c 1).op=false then 1 else if (c 2).op=false then 2 else if (c 3).op=false then 3 else 4
theorem afu_ (c:Nat->Cu):bw_ c<=4:=by unfold bw_;repeat' split<;>try omega
theorem w3_ {c:Nat->Cu}(h:bw_ c<4):(c (bw_ c)).op=false:=by
 unfold bw_ at h ⊢;by_cases a:(c 0).op=false
 . simp[a]
 . by_cases b:(c 1).op=false
   . simp[a,b]
   . by_cases d:(c 2).op=false
     . simp[a,b,d]
     . by_cases e:(c 3).op=false
       . simp[a,b,d,e]
       . simp[a,b,d,e]at h
theorem pj_ {c:Nat->Cu}{i:Nat}(h:i<bw_ c):(c i).op=true:=by
 unfold bw_ at h;have k:∀j,¬(c j).op=false->(c j).op=true:=fun j hj=>by simpa using hj
 by_cases a:(c 0).op=false
 . simp[a]at h
 . by_cases b:(c 1).op=false
   . simp[a,b]at h;subst h;exact k 0 a
   . by_cases d:(c 2).op=false
     . simp[a,b,d]at h;rcases (show i=0\/i=1 by omega)with rfl|rfl
       . exact k 0 a
       . exact k 1 b
     . by_cases e:(c 3).op=false
       . simp[a,b,d,e]at h;rcases (show i=0\/i=1\/i=2 by omega)with rfl|rfl|rfl
         . exact k 0 a
         . exact k 1 b
         . exact k 2 d
       . simp[a,b,d,e]at h;rcases (show i=0\/i=1\/i=2\/i=3 by omega)with rfl|rfl|rfl|rfl
         . exact k 0 a
         . exact k 1 b
         . exact k 2 d
         . exact k 3 e
def db_ (U:ρ)(n:Nat):Cu:=⟨true,.slice (some ⟨U.ba,U.oa,none⟩) n U.ca,.slice (some ⟨U.bn,U.on,none⟩) n U.cn,false,ByteArray.empty⟩
theorem afv_ (V:ρ)(M:γ)(w:World)(bx n:Nat)(t:Nat->ByteArray)(c:Nat->Cu)(hM:M.Ok)(hV:π w V M)(h:Θ w bx t n (Ι c))(hf:bw_ c=4):
 Calls prog 95 #[.pointer (some ⟨bx,0,none⟩),.agg #[.slice (some ⟨V.ba,V.oa,none⟩) M.n V.ca,.slice (some ⟨V.bn,V.on,none⟩) M.n V.cn]] w
  fun e w'=>e= .returned (.tuple #[.int .i64 0,.int .i64 9])/\Bl w w':=by
 have f:Bl w (w.alloc (.cells #[.slice (some ⟨V.ba,V.oa,none⟩) M.n V.ca,.slice (some ⟨V.bn,V.on,none⟩) M.n V.cn] 41)):=μ.alloc ι _;have j:=jf_ V M _ hM (hV.below f);have d:Hid (∀i,i<4->(c i).op=true):=fun i p=>pj_ o_
 have o:=α h;clear h hV hM hf;go_enter func95,ntmps95;go_wp2_with fail;refine j.mono ?_;rintro e m ⟨rfl,l⟩;have g:Bl w m:=f.trans (l.mono i_);clear j l;go_wp2_with fail;go_loopw [6] (fun i' wr=>∃i:Nat,i<=4/\i'= .int .i64 (i:Int)/\wr=m) (fun i' _=>4 - (intOf i').toNat)
 case atStart=>exact⟨0,o_,rfl,rfl⟩
 case round=>
  obtain⟨i,p,rfl,rfl⟩:=hrel;have a:=o.out.below g;rcases (show i=0\/i=1\/i=2\/i=3\/i=4 by omega)with rfl|rfl|rfl|rfl|rfl
  . obtain⟨b,_⟩:=a.cu (k:=0) o_;rw[d.out 0 o_]at b;clear a;go_wp2_with fail;go_roundw
    case rel=>exact⟨1,o_,by go_num,trivial⟩
    case measure=>simp[intOf]
  . obtain⟨b,_⟩:=a.cu (k:=1) o_;rw[d.out 1 o_]at b;clear a;go_wp2_with fail;go_roundw
    case rel=>exact⟨2,o_,by go_num,trivial⟩
    case measure=>simp[intOf]
  . obtain⟨b,_⟩:=a.cu (k:=2) o_;rw[d.out 2 o_]at b;clear a;go_wp2_with fail;go_roundw
    case rel=>exact⟨3,o_,by go_num,trivial⟩
    case measure=>simp[intOf]
  . obtain⟨b,_⟩:=a.cu (k:=3) o_;rw[d.out 3 o_]at b;clear a;go_wp2_with fail;go_roundw
    case rel=>exact⟨4,o_,by go_num,trivial⟩
    case measure=>simp[intOf]
  . clear a;go_wp2_with fail;go_ret2;exact⟨rfl,g⟩
theorem π.de {U:ρ}{M:γ}{bx N:Nat}(h:π w U M)(hU:U.cP N M.n)(hT:ε (fun k=>k=bx) w w')(hb:bx<N):π w' U M:=by
 have a:∀b o v,w.cell? ⟨b,o,none⟩=some v->N<=b->w'.cell? ⟨b,o,none⟩=some v:=fun b o v hc hn=>by
  have e:=Χ hc;have d:=hT.block b e o_;simp only[World.cell?]at hc ⊢;rw[d];exact hc
 exact⟨fun i hi=>a _ _ _ (h.acc i hi) hU.1,fun i hi=>a _ _ _ (h.row i hi) hU.2,fun i c hi hc=>a _ _ _ (h.cT i c hi hc) (hU.3 i hi)⟩
theorem pk_ {S:Nat->Prop}(h:ε S w w'):ε S w w'.drew:=⟨h.os,h.tape,h.output,h.size,h.block⟩
theorem afw_ (V:ρ)(M:γ)(w:World)(bx n:Nat)(t:Nat->ByteArray)(c:Nat->Cu)(hM:M.Ok)(hV:π w V M)(h:Θ w bx t n (Ι c))(hf:bw_ c<4):
 Calls prog 95 #[.pointer (some ⟨bx,0,none⟩),.agg #[.slice (some ⟨V.ba,V.oa,none⟩) M.n V.ca,.slice (some ⟨V.bn,V.on,none⟩) M.n V.cn]] w
  fun e w'=>∃U:ρ,e= .returned (.tuple #[.int .i64 (bw_ c:Int),.int .i64 0])/\π w' U M/\U.cP w.heap.size M.n/\Θ w' bx t n (Ι (bk_ c (bw_ c) (db_ U M.n)))/\ε (fun k=>k=bx) w w':=by
 have P:Bl w (w.alloc (.cells #[.slice (some ⟨V.ba,V.oa,none⟩) M.n V.ca,.slice (some ⟨V.bn,V.on,none⟩) M.n V.cn] 41)):=μ.alloc ι _;have aa:(w.alloc (.cells #[.slice (some ⟨V.ba,V.oa,none⟩) M.n V.ca,.slice (some ⟨V.bn,V.on,none⟩) M.n V.cn] 41)).heap[w.heap.size]? =some (.cells #[.slice (some ⟨V.ba,V.oa,none⟩) M.n V.ca,.slice (some ⟨V.bn,V.on,none⟩) M.n V.cn] 41 (0,0)):=ο i_;have HV:=jf_ V M _ hM (hV.below P);have K:Hid (∀i,i<bw_ c->(c i).op=true):=fun i H=>pj_ H
 have J:Hid ((c (bw_ c)).op=false):=w3_ hf;have I:=α h;have ab:bx<w.heap.size:=World.rowIs.lt h;have L:=α hV;obtain⟨f,HF⟩:=δ (bw_ c);rw[HF.out]at hf K J ⊢;clear h hV HF;go_enter func95,ntmps95;go_wp2_with fail;refine HV.mono ?_;rintro e w1 ⟨rfl,X⟩;have o:Bl w w1:=P.trans (X.mono i_);have B:=(X.block _ i_).trans aa;have ac:=κ B;clear HV X aa P;go_wp2_with fail;go_loopw [6] (fun i' wr=>∃i:Nat,i<=f/\i'= .int .i64 (i:Int)/\wr=w1) (fun i' _=>4 - (intOf i').toNat)
 case atStart=>exact⟨0,o_,rfl,rfl⟩
 case round=>
  obtain⟨i,H,rfl,rfl⟩:=hrel;have l:=I.out.below o;obtain⟨N,O,_,_⟩:=β B;rcases (show i=0\/i=1\/i=2\/i=3 by omega)with rfl|rfl|rfl|rfl
  . obtain⟨m,d0⟩:=l.cu (k:=0) o_;by_cases A:0<f
    . rw[K.out 0 A]at m;clear l d0 B;go_wp2_with fail;go_roundw
      case rel=>exact⟨1,o_,by go_num,trivial⟩
      case measure=>simp[intOf]
    . obtain rfl:f=0:=o_;rw[J.out]at m;have f0:=World.rowIs.frozen l 61;have p:=qn_ V M wr hM (L.out.below o);clear d0 B A H l;go_wp2_with fail;refine p.mono ?_;rintro e G ⟨U,rfl,s,u,d⟩;have z:=(I.out.below o).below d;have C:=η o d;have Y:=d.size;obtain⟨g,v,b,-,x⟩:=ν G #[.slice (some ⟨U.ba,U.oa,none⟩) M.n U.ca,.slice (some ⟨U.bn,U.on,none⟩) M.n U.cn] 41;obtain⟨Z,y1,_,_⟩:=β x;have a:=z.below b;have Q:=World.rowIs.frozen a 61;have R:=World.rowIs.frozen a (61+1);have S:=World.rowIs.frozen a (61+2);have T:=World.rowIs.frozen a (61+3);have W:=World.rowIs.frozen a (61+4);obtain⟨d0,d1,d2,d3,d4⟩:=a.cu (k:=0) o_;have E:Hid (π g U M):=s.below b;have F:=α a;have D:=η C b;clear p s z d a x b f0 m N O;go_wp2_with fail;rw[<-v];clear v;go_region
      go_wp2_with fail;go_ret2;obtain⟨q,j⟩:=af_ (((((g.setCell ⟨bx,61,none⟩ (.bool true)).setCell ⟨bx,62,none⟩ (.slice (some ⟨U.ba,U.oa,none⟩) M.n U.ca)).setCell ⟨bx,63,none⟩ (.slice (some ⟨U.bn,U.on,none⟩) M.n U.cn)).setCell ⟨bx,64,none⟩ (.bool false)).setCell ⟨bx,65,none⟩ (.string ⟨#[]⟩));have y:Θ q bx t n (Ι (bk_ c 0 (db_ U M.n)))/\ε (fun k=>k=bx) g q:=by rw[j];exact F.out.put (k:=0) o_ (db_ U M.n)
      rw[<-j];clear j;have r:=pk_ y.2;exact⟨U,rfl,E.out.de u r o_,u.mono o_,y.1,gr_ (gq_ D) r⟩
  . obtain⟨m,d0⟩:=l.cu (k:=1) o_;by_cases A:1<f
    . rw[K.out 1 A]at m;clear l d0 B;go_wp2_with fail;go_roundw
      case rel=>exact⟨2,o_,by go_num,trivial⟩
      case measure=>simp[intOf]
    . obtain rfl:f=1:=o_;rw[J.out]at m;have f0:=World.rowIs.frozen l 66;have p:=qn_ V M wr hM (L.out.below o);clear d0 B A H l;go_wp2_with fail;refine p.mono ?_;rintro e G ⟨U,rfl,s,u,d⟩;have z:=(I.out.below o).below d;have C:=η o d;have Y:=d.size;obtain⟨g,v,b,-,x⟩:=ν G #[.slice (some ⟨U.ba,U.oa,none⟩) M.n U.ca,.slice (some ⟨U.bn,U.on,none⟩) M.n U.cn] 41;obtain⟨Z,y1,_,_⟩:=β x;have a:=z.below b;have Q:=World.rowIs.frozen a 66;have R:=World.rowIs.frozen a (66+1);have S:=World.rowIs.frozen a (66+2);have T:=World.rowIs.frozen a (66+3);have W:=World.rowIs.frozen a (66+4);obtain⟨d0,d1,d2,d3,d4⟩:=a.cu (k:=1) o_;have E:Hid (π g U M):=s.below b;have F:=α a;have D:=η C b;clear p s z d a x b f0 m N O;go_wp2_with fail;rw[<-v];clear v;go_region
      go_wp2_with fail;go_ret2;obtain⟨q,j⟩:=af_ (((((g.setCell ⟨bx,66,none⟩ (.bool true)).setCell ⟨bx,67,none⟩ (.slice (some ⟨U.ba,U.oa,none⟩) M.n U.ca)).setCell ⟨bx,68,none⟩ (.slice (some ⟨U.bn,U.on,none⟩) M.n U.cn)).setCell ⟨bx,69,none⟩ (.bool false)).setCell ⟨bx,70,none⟩ (.string ⟨#[]⟩));have y:Θ q bx t n (Ι (bk_ c 1 (db_ U M.n)))/\ε (fun k=>k=bx) g q:=by rw[j];exact F.out.put (k:=1) o_ (db_ U M.n)
      rw[<-j];clear j;have r:=pk_ y.2;exact⟨U,rfl,E.out.de u r o_,u.mono o_,y.1,gr_ (gq_ D) r⟩
  . obtain⟨m,d0⟩:=l.cu (k:=2) o_;by_cases A:2<f
    . rw[K.out 2 A]at m;clear l d0 B;go_wp2_with fail;go_roundw
      case rel=>exact⟨3,o_,by go_num,trivial⟩
      case measure=>simp[intOf]
    . obtain rfl:f=2:=o_;rw[J.out]at m;have f0:=World.rowIs.frozen l 71;have p:=qn_ V M wr hM (L.out.below o);clear d0 B A H l;go_wp2_with fail;refine p.mono ?_;rintro e G ⟨U,rfl,s,u,d⟩;have z:=(I.out.below o).below d;have C:=η o d;have Y:=d.size;obtain⟨g,v,b,-,x⟩:=ν G #[.slice (some ⟨U.ba,U.oa,none⟩) M.n U.ca,.slice (some ⟨U.bn,U.on,none⟩) M.n U.cn] 41;obtain⟨Z,y1,_,_⟩:=β x;have a:=z.below b;have Q:=World.rowIs.frozen a 71;have R:=World.rowIs.frozen a (71+1);have S:=World.rowIs.frozen a (71+2);have T:=World.rowIs.frozen a (71+3);have W:=World.rowIs.frozen a (71+4);obtain⟨d0,d1,d2,d3,d4⟩:=a.cu (k:=2) o_;have E:Hid (π g U M):=s.below b;have F:=α a;have D:=η C b;clear p s z d a x b f0 m N O;go_wp2_with fail;rw[<-v];clear v;go_region
      go_wp2_with fail;go_ret2;obtain⟨q,j⟩:=af_ (((((g.setCell ⟨bx,71,none⟩ (.bool true)).setCell ⟨bx,72,none⟩ (.slice (some ⟨U.ba,U.oa,none⟩) M.n U.ca)).setCell ⟨bx,73,none⟩ (.slice (some ⟨U.bn,U.on,none⟩) M.n U.cn)).setCell ⟨bx,74,none⟩ (.bool false)).setCell ⟨bx,75,none⟩ (.string ⟨#[]⟩));have y:Θ q bx t n (Ι (bk_ c 2 (db_ U M.n)))/\ε (fun k=>k=bx) g q:=by rw[j];exact F.out.put (k:=2) o_ (db_ U M.n)
      rw[<-j];clear j;have r:=pk_ y.2;exact⟨U,rfl,E.out.de u r o_,u.mono o_,y.1,gr_ (gq_ D) r⟩
  . obtain⟨m,d0⟩:=l.cu (k:=3) o_;by_cases A:3<f
    . omega
    . obtain rfl:f=3:=o_;rw[J.out]at m;have f0:=World.rowIs.frozen l 76;have p:=qn_ V M wr hM (L.out.below o);clear d0 B A H l;go_wp2_with fail;refine p.mono ?_;rintro e G ⟨U,rfl,s,u,d⟩;have z:=(I.out.below o).below d;have C:=η o d;have Y:=d.size;obtain⟨g,v,b,-,x⟩:=ν G #[.slice (some ⟨U.ba,U.oa,none⟩) M.n U.ca,.slice (some ⟨U.bn,U.on,none⟩) M.n U.cn] 41;obtain⟨Z,y1,_,_⟩:=β x;have a:=z.below b;have Q:=World.rowIs.frozen a 76;have R:=World.rowIs.frozen a (76+1);have S:=World.rowIs.frozen a (76+2);have T:=World.rowIs.frozen a (76+3);have W:=World.rowIs.frozen a (76+4);obtain⟨d0,d1,d2,d3,d4⟩:=a.cu (k:=3) o_;have E:Hid (π g U M):=s.below b;have F:=α a;have D:=η C b;clear p s z d a x b f0 m N O;go_wp2_with fail;rw[<-v];clear v;go_region
      go_wp2_with fail;go_ret2;obtain⟨q,j⟩:=af_ (((((g.setCell ⟨bx,76,none⟩ (.bool true)).setCell ⟨bx,77,none⟩ (.slice (some ⟨U.ba,U.oa,none⟩) M.n U.ca)).setCell ⟨bx,78,none⟩ (.slice (some ⟨U.bn,U.on,none⟩) M.n U.cn)).setCell ⟨bx,79,none⟩ (.bool false)).setCell ⟨bx,80,none⟩ (.string ⟨#[]⟩));have y:Θ q bx t n (Ι (bk_ c 3 (db_ U M.n)))/\ε (fun k=>k=bx) g q:=by rw[j];exact F.out.put (k:=3) o_ (db_ U M.n)
      rw[<-j];clear j;have r:=pk_ y.2;exact⟨U,rfl,E.out.de u r o_,u.mono o_,y.1,gr_ (gq_ D) r⟩
theorem afx_ (w:World)(bx n:Nat)(t:Nat->ByteArray)(c:Nat->Cu)(k:Int)(h:Θ w bx t n (Ι c)):
 Calls prog 54 #[.pointer (some ⟨bx,0,none⟩),.int .i64 k] w fun e w'=>e= .returned (.int .i64 (jw_ c k))/\Θ w' bx t n (Ι (he_ c k))/\ε (fun j=>j=bx) w w':=by
 have d:=an5_ w bx n t c k h;clear h;go_enter func54,ntmps54;go_wp2_with (go_at_call 94;refine d.mono ?_;rintro e i ⟨rfl,b,a⟩;have g:=α b;have f:=α a;clear b a);go_ret;exact⟨rfl,g.out,f.out⟩
theorem afy_ (w:World)(bx n:Nat)(t:Nat->ByteArray)(c:Nat->Cu)(k limit:Int)(h:Θ w bx t n (Ι c))(hno:d8_ c k limit≠0):
 Calls prog 52 #[.pointer (some ⟨bx,0,none⟩),.int .i64 k,.int .i64 limit] w fun e w'=>e= .returned (.tuple #[.slice none 0 0,.bool false,.int .i64 (d8_ c k limit)])/\w'=w:=by
 have a:=aoa_ w bx n t c k limit h hno;clear h hno;go_enter func52,ntmps52;go_wp2_with (go_at_call 92;refine a.mono ?_;rintro e d ⟨rfl,b⟩;obtain rfl:w=d:=b.symm);go_ret3
 exact⟨rfl,rfl⟩
theorem afz_ (w:World)(bx n m limit:Nat)(t:Nat->ByteArray)(c:Nat->Cu)(V:ρ)(M:γ)(h:Θ w bx t n (Ι c))(hn:n<=60)(hm:m<4)(hop:(c m).op=true)(hl1:1<=limit)(hl:limit<=50)(htu:∀i,i<n->ci_ (t i)=true)
 (hA:(c m).vA= .slice (some ⟨V.ba,V.oa,none⟩) M.n V.ca) (hN:(c m).vN= .slice (some ⟨V.bn,V.on,none⟩) M.n V.cn) (hM:M.Ok) (hT:π w V M):
 Calls prog 52 #[.pointer (some ⟨bx,0,none⟩),.int .i64 (m:Int),.int .i64 (limit:Int)] w fun e w'=>∃v,e= .returned (.tuple #[v,.bool (gp_ (c m) M t n limit),.int .i64 0])/\w'.ownsRow w.heap.size 9 1 v (de_ (c m) M t n limit).length (Ζ (de_ (c m) M t n limit))/\Θ w' bx t n (Ι (dp_ c m (de_ (c m) M t n limit)))/\ε (fun j=>j=bx) w w':=by
 have k:=aob_ w bx n m limit t c V M h hn hm hop hl1 hl htu hA hN hM hT;clear h hn hm hop hl1 hl htu hA hN hM hT;go_enter func52,ntmps52;go_wp2_with (go_at_call 92;refine k.mono ?_;rintro e b ⟨v,rfl,d,g,f⟩;have a:Hid (b.ownsRow w.heap.size 9 1 v (de_ (c m) M t n limit).length (Ζ (de_ (c m) M t n limit))/\Θ b bx t n (Ι (dp_ c m (de_ (c m) M t n limit)))/\ε (fun j=>j=bx) w b):=⟨d,g,f⟩;clear d g f);go_ret3
 exact⟨v,rfl,a.out.1,a.out.2.1,a.out.2.2⟩
theorem af0_ (r:aj_)(A:Nat->Bool)(X:Nat->Nat->Int)(w:World)(bx:Nat)(h:az_ w r A X)(hok:Ο r X=false):
 Calls prog 56 #[.pointer (some ⟨bx,0,none⟩),.agg #[.slice r.aa r.na r.ca,.slice r.an r.nn r.cn]] w
  fun e w'=>e= .returned (.tuple #[.int .i64 0,.int .i64 6])/\Bl w w':=by
 obtain⟨d,a,-,-,-⟩:=ν w #[.slice r.aa r.na r.ca,.slice r.an r.nn r.cn] 41;have c:Bl w d.drew:=by rw[a];exact ξ.drew
 have b:=aw_ a;obtain⟨l,m,_,_⟩:=β b;have j:w.heap.size<d.drew.heap.size:=κ b;have i:=aft_ r A X _ bx (h.below c) hok;clear h hok;go_enter func56,ntmps56;go_wp2_with fail;rw[<-a];clear a b;go_region_with (go_at_call 95;refine i.mono ?_;rintro e k ⟨rfl,f⟩;have g:=η c f;clear f);go_wp2_with fail;go_ret2;exact⟨rfl,g⟩
theorem af1_ (V:ρ)(M:γ)(w:World)(bx n:Nat)(t:Nat->ByteArray)(c:Nat->Cu)(hM:M.Ok)(hV:π w V M)(h:Θ w bx t n (Ι c))(hf:bw_ c=4):
 Calls prog 56 #[.pointer (some ⟨bx,0,none⟩),.agg #[.slice (some ⟨V.ba,V.oa,none⟩) M.n V.ca,.slice (some ⟨V.bn,V.on,none⟩) M.n V.cn]] w
  fun e w'=>e= .returned (.tuple #[.int .i64 0,.int .i64 9])/\Bl w w':=by
 obtain⟨f,a,-,-,-⟩:=ν w #[.slice (some ⟨V.ba,V.oa,none⟩) M.n V.ca,.slice (some ⟨V.bn,V.on,none⟩) M.n V.cn] 41;have b:Bl w f.drew:=by rw[a];exact ξ.drew
 have d:=aw_ a;obtain⟨m,o,_,_⟩:=β d;have k:w.heap.size<f.drew.heap.size:=κ d;have j:=afv_ V M _ bx n t c hM (hV.below b) (h.below b) hf;clear h hV hM hf;go_enter func56,ntmps56;go_wp2_with fail;rw[<-a];clear a d;go_region_with (go_at_call 95;refine j.mono ?_;rintro e l ⟨rfl,g⟩;have i:=η b g;clear g);go_wp2_with fail;go_ret2;exact⟨rfl,i⟩
theorem af2_ (V:ρ)(M:γ)(w:World)(bx n:Nat)(t:Nat->ByteArray)(c:Nat->Cu)(hM:M.Ok)(hV:π w V M)(h:Θ w bx t n (Ι c))(hf:bw_ c<4):
 Calls prog 56 #[.pointer (some ⟨bx,0,none⟩),.agg #[.slice (some ⟨V.ba,V.oa,none⟩) M.n V.ca,.slice (some ⟨V.bn,V.on,none⟩) M.n V.cn]] w
  fun e w'=>∃U:ρ,e= .returned (.tuple #[.int .i64 (bw_ c:Int),.int .i64 0])/\π w' U M/\U.cP w.heap.size M.n/\Θ w' bx t n (Ι (bk_ c (bw_ c) (db_ U M.n)))/\ε (fun k=>k=bx) w w':=by
 obtain⟨i,b,-,-,-⟩:=ν w #[.slice (some ⟨V.ba,V.oa,none⟩) M.n V.ca,.slice (some ⟨V.bn,V.on,none⟩) M.n V.cn] 41;have d:Bl w i.drew:=by rw[b];exact ξ.drew
 have f:=aw_ b;obtain⟨r,s,_,_⟩:=β f;have q:w.heap.size<i.drew.heap.size:=κ f;have p:=afw_ V M _ bx n t c hM (hV.below d) (h.below d) hf;clear h hV hM hf;go_enter func56,ntmps56;go_wp2_with fail;rw[<-b];clear b f;go_region_with (go_at_call 95;refine p.mono ?_;rintro e g ⟨U,rfl,l,m,o,j⟩;have a:Hid (π g U M/\U.cP w.heap.size M.n/\Θ g bx t n (Ι (bk_ c (bw_ c) (db_ U M.n)))/\ε (fun k=>k=bx) w g):=⟨l,m.mono o_,o,gr_ (gq_ d) j⟩;clear l o j m);go_wp2_with fail;go_ret2;exact⟨U,rfl,a.out.1,a.out.2.1,a.out.2.2.1,a.out.2.2.2⟩
theorem ad_.cu {c:Nat->Cu}(h:ad_ w b ry t n (Ι c))(hk:k<4):
 w.cell? ⟨b,1+5*k,none⟩=some (.bool (c k).op)/\w.cell? ⟨b,1+5*k+1,none⟩=some (c k).vA/\w.cell? ⟨b,1+5*k+2,none⟩=some (c k).vN/\w.cell? ⟨b,1+5*k+3,none⟩=some (.bool (c k).bg)/\w.cell? ⟨b,1+5*k+4,none⟩=some (.string (c k).la):=by
 have a:∀f,f<5->w.cell? ⟨b,1+5*k+f,none⟩=some (Ι c (5*k+f)):=fun f hf=>by
  rw[World.rowIs.cell h.1 (i:=1+5*k+f) o_,if_neg o_];congr 2
  omega
 have d:∀f,f<5->(5*k+f)/5=k/\(5*k+f)%5=f:=fun f hf=>o_
 have r:∀f,f<5->Ι c (5*k+f)=if f=0 then .bool (c k).op else if f=1 then(c k).vA else if f=2 then(c k).vN else if f=3 then .bool (c k).bg else .string (c k).la:=fun f hf=>by
  unfold Ι;rw[(d f hf).1,(d f hf).2]
 exact⟨by rw[<-Nat.add_zero (1+5*k),a 0 o_,r 0 o_];rfl,by rw[a 1 o_,r 1 o_];rfl,by rw[a 2 o_,r 2 o_];rfl,by rw[a 3 o_,r 3 o_];rfl,by rw[a 4 o_,r 4 o_];rfl⟩
theorem ni_ {w1:World}{base m:Nat}{f:Nat->Value}{v:Value}{x:List Value}(ho:w.ownsRow base 9 1 v m x)(h:w.rowIs b 77 n f)(hT:ε (fun j=>j=b) w w1):w1.ownsRow base 9 1 v m x:=by
 refine hT.own ho (fun g hg hgb=> ?_);subst hgb;obtain⟨c,d,_⟩:=h;rcases ho.2 with ⟨rfl,_⟩|⟨k,e,i,rfl,_,a,_⟩
 . simp[Value.ownBlock]at hg
 . simp only[Value.ownBlock,Δ]at hg;subst hg;rw[d]at a;injection a with a;injection a with _ a;exact absurd a d_
theorem ad_.dG {c:Nat->Cu}(h:ad_ w b ry t n (Ι c))(hk:k<4)(d:Cu):
 ad_ (((((w.setCell ⟨b,1+5*k,none⟩ (.bool d.op)).setCell ⟨b,1+5*k+1,none⟩ d.vA).setCell ⟨b,1+5*k+2,none⟩ d.vN).setCell ⟨b,1+5*k+3,none⟩ (.bool d.bg)).setCell ⟨b,1+5*k+4,none⟩ (.string d.la)) b ry t n (Ι (bk_ c k d))/\
 ε (fun j=>j=b) w (((((w.setCell ⟨b,1+5*k,none⟩ (.bool d.op)).setCell ⟨b,1+5*k+1,none⟩ d.vA).setCell ⟨b,1+5*k+2,none⟩ d.vN).setCell ⟨b,1+5*k+3,none⟩ (.bool d.bg)).setCell ⟨b,1+5*k+4,none⟩ (.string d.la)):=by
 have g:ε (fun j=>j=b) w (((((w.setCell ⟨b,1+5*k,none⟩ (.bool d.op)).setCell ⟨b,1+5*k+1,none⟩ d.vA).setCell ⟨b,1+5*k+2,none⟩ d.vN).setCell ⟨b,1+5*k+3,none⟩ (.bool d.bg)).setCell ⟨b,1+5*k+4,none⟩ (.string d.la)):=(((((ε.refl (fun j=>j=b) w).set ⟨b,1+5*k,none⟩ (.bool d.op) (.inl rfl)).set ⟨b,1+5*k+1,none⟩ d.vA (.inl rfl)).set ⟨b,1+5*k+2,none⟩ d.vN (.inl rfl)).set ⟨b,1+5*k+3,none⟩ (.bool d.bg) (.inl rfl)).set ⟨b,1+5*k+4,none⟩ (.string d.la) (.inl rfl);refine⟨⟨(((((World.rowIs.set h.1 (1+5*k) (.bool d.op)).set (1+5*k+1) d.vA).set (1+5*k+2) d.vN).set (1+5*k+3) (.bool d.bg)).set (1+5*k+4) (.string d.la)).congr (fun j hj=> ?_),ni_ h.2 h.1 g⟩,g⟩;unfold Ι bk_;by_cases a:j=0
 . simp only[a,if_true,show¬0=1+5*k+4 by omega,show¬0=1+5*k+3 by omega,show¬0=1+5*k+2 by omega,show¬0=1+5*k+1 by omega,show¬0=1+5*k by omega,if_false]
 . by_cases q:(j - 1)/5=k
   . simp only[a,q,if_false,if_true];rcases (show(j - 1)%5=0\/(j - 1)%5=1\/(j - 1)%5=2\/(j - 1)%5=3\/(j - 1)%5=4 by omega)with f|f|f|f|f
     . have e:j=1+5*k:=o_;simp only[f,if_pos e,show¬j=1+5*k+4 by omega,show¬j=1+5*k+3 by omega,show¬j=1+5*k+2 by omega,show¬j=1+5*k+1 by omega,if_false,if_true]
     . have e:j=1+5*k+1:=o_;simp only[f,if_pos e,show¬j=1+5*k+4 by omega,show¬j=1+5*k+3 by omega,show¬j=1+5*k+2 by omega,if_false,if_true,show¬(1:Nat)=0 by omega]
     . have e:j=1+5*k+2:=o_;simp only[f,if_pos e,show¬j=1+5*k+4 by omega,show¬j=1+5*k+3 by omega,if_false,if_true,show¬(2:Nat)=0 by omega,show¬(2:Nat)=1 by omega]
     . have e:j=1+5*k+3:=o_;simp only[f,if_pos e,show¬j=1+5*k+4 by omega,if_false,if_true,show¬(3:Nat)=0 by omega,show¬(3:Nat)=1 by omega,show¬(3:Nat)=2 by omega]
     . have e:j=1+5*k+4:=o_;simp only[f,if_pos e,if_false,show¬(4:Nat)=0 by omega,show¬(4:Nat)=1 by omega,show¬(4:Nat)=2 by omega,show¬(4:Nat)=3 by omega]
   . simp only[a,q,if_false,show¬j=1+5*k+4 by omega,show¬j=1+5*k+3 by omega,show¬j=1+5*k+2 by omega,show¬j=1+5*k+1 by omega,show¬j=1+5*k by omega]
theorem rw_ (w:World)(b n:Nat)(ry:Value)(t:Nat->ByteArray)(c:Nat->Cu)(k:Int)(h:ad_ w b ry t n (Ι c)):
 Calls prog 93 #[.pointer (some ⟨b,0,none⟩),.int .i64 k] w fun e w'=>e= .returned (.bool (opB c k))/\w'=w:=by
 by_cases g:0<=k
 . by_cases i:k<4
   . obtain⟨m,rfl⟩:∃m:Nat,k=m:=⟨k.toNat,o_⟩;have a:m<4:=o_;rw[n6_ c a];obtain⟨f,_⟩:=h.cu a;generalize (c m).op=bb at*;clear h;rcases (show m=0\/m=1\/m=2\/m=3 by omega)with rfl|rfl|rfl|rfl
     all_goals
      go_enter func93,ntmps93;go_wp2_with fail;go_ret;exact⟨rfl,rfl⟩
   . rw[li_ o_];have d:decide (k<4)=false:=s_;clear h;go_enter func93,ntmps93;go_wp2_with fail;go_ret;exact⟨rfl,rfl⟩
 . rw[li_ o_];have d:decide (0<=k)=false:=s_;clear h;go_enter func93,ntmps93;go_wp2_with fail;go_ret;exact⟨rfl,rfl⟩
theorem af3_ (w:World)(b n:Nat)(ry:Value)(t:Nat->ByteArray)(c:Nat->Cu)(k:Int)(h:ad_ w b ry t n (Ι c)):
 Calls prog 55 #[.pointer (some ⟨b,0,none⟩),.int .i64 k] w fun e w'=>e= .returned (.int .i64 (jw_ c k))/\ad_ w' b ry t n (Ι (he_ c k))/\ε (fun j=>j=b) w w':=by
 have g:=rw_ w b n ry t c k h;have i:=α h;unfold jw_ he_;cases hop:opB c k with
 |false=>
  rw[hop]at g;clear h;go_enter func55,ntmps55;go_wp2_with (go_at_call 93;refine g.mono ?_;rintro e f ⟨rfl,d⟩;obtain rfl:w=f:=d.symm);go_ret;exact⟨rfl,i.out,ε.refl _ _⟩
 |true=>
  rw[hop]at g;have p:0<=k/\k<4:=by
   by_cases o:0<=k/\k<4
   . exact o
   . rw[li_ o]at hop;cases hop
  obtain⟨m,rfl⟩:∃m:Nat,k=m:=⟨k.toNat,o_⟩;have q:m<4:=o_;obtain⟨r,s,u,v,x⟩:=h.cu q;have l:=World.rowIs.frozen h.1;clear h hop p;rcases (show m=0\/m=1\/m=2\/m=3 by omega)with rfl|rfl|rfl|rfl
  . have f0:=l 1;go_enter func55,ntmps55;go_wp2_with (go_at_call 93;refine g.mono ?_;rintro e f ⟨rfl,d⟩;obtain rfl:w=f:=d.symm);go_ret;have a:=i.out.dG (k:=0) o_ shut;exact⟨rfl,a.1,a.2⟩
  . have f0:=l 6;go_enter func55,ntmps55;go_wp2_with (go_at_call 93;refine g.mono ?_;rintro e f ⟨rfl,d⟩;obtain rfl:w=f:=d.symm);go_ret;have a:=i.out.dG (k:=1) o_ shut;exact⟨rfl,a.1,a.2⟩
  . have f0:=l 11;go_enter func55,ntmps55;go_wp2_with (go_at_call 93;refine g.mono ?_;rintro e f ⟨rfl,d⟩;obtain rfl:w=f:=d.symm);go_ret;have a:=i.out.dG (k:=2) o_ shut;exact⟨rfl,a.1,a.2⟩
  . have f0:=l 16;go_enter func55,ntmps55;go_wp2_with (go_at_call 93;refine g.mono ?_;rintro e f ⟨rfl,d⟩;obtain rfl:w=f:=d.symm);go_ret;have a:=i.out.dG (k:=3) o_ shut;exact⟨rfl,a.1,a.2⟩
theorem af4_ (w:World)(bx n:Nat)(ry:Value)(t:Nat->ByteArray)(c:Nat->Cu)(k limit:Int)(h:ad_ w bx ry t n (Ι c))(hno:d8_ c k limit≠0):
 Calls prog 53 #[.pointer (some ⟨bx,0,none⟩),.int .i64 k,.int .i64 limit] w fun e w'=>e= .returned (.tuple #[.slice none 0 0,.bool false,.int .i64 (d8_ c k limit)])/\w'=w:=by
 have b:=rw_ w bx n ry t c k h;clear h;cases hop:opB c k with
 |false=>
  have a:d8_ c k limit=10:=by simp[d8_,hop]
  rw[hop]at b;rw[a];clear hno a hop;go_enter func53,ntmps53;go_wp2_with (go_at_call 93;refine b.mono ?_;rintro e f ⟨rfl,d⟩;obtain rfl:w=f:=d.symm);go_ret3
  exact⟨rfl,rfl⟩
 |true=>
  have g:¬(1<=limit/\limit<=50):=fun hh=>hno (by simp[d8_,hop,hh])
  have a:d8_ c k limit=8:=by simp[d8_,hop,g]
  rw[hop]at b;rw[a];by_cases i:limit<1
  . clear hno a hop g;go_enter func53,ntmps53;go_wp2_with (go_at_call 93;refine b.mono ?_;rintro e f ⟨rfl,d⟩;obtain rfl:w=f:=d.symm);go_ret3
    exact⟨rfl,rfl⟩
  . have j:50<limit:=o_;have l:decide (limit<1)=false:=s_;clear hno a hop g i;go_enter func53,ntmps53;go_wp2_with (go_at_call 93;refine b.mono ?_;rintro e f ⟨rfl,d⟩;obtain rfl:w=f:=d.symm);go_ret3
    exact⟨rfl,rfl⟩
theorem af5_ (aa an:Option Addr)(na ca nn cn:Nat)(ra:Nat->Option Addr)(rl rc0:Nat->Nat)(A:Nat->Bool)(X:Nat->Nat->Int)(w:World)(h:az_ w ⟨aa,an,na,ca,nn,cn,ra,rl,rc0⟩ A X)
 (hb1:na<=4398046511104) (hb2:nn<=4398046511104) (hb3:∀i,i<nn->rl i<=4398046511104):
 Calls prog 96 #[.agg #[.slice aa na ca,.slice an nn cn]] w
  fun e w'=>Bl w w'/\∃ga ca' gn cn' rb rc,e= .returned (.agg #[b2_ ga na ca',b2_ gn nn cn'])/\j7_ w.heap.size w' ga gn rb rc na nn rl A X:=by
 obtain⟨i4,au,aP,aQ,aR⟩:=info_parts hc_;obtain⟨i0,aq,av,aw,ax⟩:=info_parts ng_;obtain⟨i3,ar,aM,aN,aO⟩:=info_parts e9_;obtain⟨W,Z,BW,b0,b1,K⟩:=fe_ w #[.slice aa na ca,.slice an nn cn] 41 #[.slice none 0 0,.slice none 0 0] 41 #[.slice none 0 0,.slice none 0 0] 41;have aT:w.heap.size+1+1+1<=W.heap.size:=by rw[Z];simp
 have O:=h.below BW;go_enter func96,ntmps96;go_upto_region 2 with fail;rw[<-Z];clear Z;obtain⟨x0,x1,_,_⟩:=β b0;obtain⟨y0,y1,z0,z1⟩:=β K;go_cut [] (fun wc=>∃ga ca',fg_ W w.heap.size wc (b2_ ga na ca') (.slice none 0 0) 0 ga na (fun _=>0) rl (fun _=>0) A X)
 case first=>
  by_cases G:na=0
  . subst G;go_wp2_with (at_builtin;refine pe_ _ rfl _ _ 38 rfl 4 i4 underlying38 au aa ca rfl rfl ?_);go_meet
    exact⟨0,0,μ.setCell (p:=⟨w.heap.size+1+1,0,none⟩) ι _,cb_ K,fun h=>absurd h o_,a8_,fun j hj=>absurd hj o_,fun j k _ hk=>absurd hk o_,fun _=>rfl⟩
  . obtain⟨U,oa,ea,_⟩:=O.acc 0 (show 0<na by omega);have aH:aa=some ⟨U,oa,none⟩:=ea;subst aH;have ap:∀i,i<na->W.cell? ⟨U,oa+i,none⟩=some (.bool (A i)):=fun i hi=>by
     obtain⟨b,o,e,P⟩:=O.acc i hi;injection e with e;injection e with M N;subst M;subst N;exact P
    have aC:Hid _:=ap;clear ap O;go_wp2_with (at_builtin;refine pf_ _ rfl _ _ 38 rfl 4 i4 (.bool false) 1 underlying38 au aP aQ aR rfl U oa na ca (fun i=> .bool (A i)) rfl rfl aC.out (fun j=>rfl) o_ u_ o_ ?_;intro a d s q;have I:d.heap[w.heap.size+1+1]? =some (.cells #[.slice none 0 0,.slice none 0 0] 41 (0,0)):=(by rw[q.block _ o_ i_];exact K);obtain⟨f0,f1,f2,f3⟩:=β I;have aG:=α s;clear s);go_meet
    refine⟨W.heap.size,a,((pg_ q).mono (B':=w.heap.size+1+1) o_).setCell (p:=⟨w.heap.size+1+1,0,none⟩) ι _, ?_,fun h=>⟨o_,aG.out.setOther s_ _⟩,a8_,fun j hj=>absurd hj o_,fun j k _ hk=>absurd hk o_,fun _=>rfl⟩;rw[cb_ I];unfold b2_;rw[if_neg G]
 case rest=>
  obtain⟨ga,ca',ao⟩:=hcut;clear x0 x1 y0 y1 z0 z1 K O;go_wp2_with fail;go_loopw [4,5] (fun i' _ wr=>∃(i:Nat) (vn:Value) (rb rc:Nat->Nat),i<=nn/\i'= .int .i64 i/\fg_ W w.heap.size wr (b2_ ga na ca') vn i ga na rb rl rc A X)
   (fun i' _ _=>nn - (intOf i').toNat)
  case atStart=>exact⟨0,_,_,_,o_,rfl,ao⟩
  case round=>
   obtain⟨i,vn,rb,rc,hi,rfl,r⟩:=hrel;clear ao;have ac:=r.cz;have ad:=η BW ac;obtain⟨x0,x1,_,_⟩:=β ((ac.block _ o_).trans b0);obtain⟨y0,y1,z0,z1⟩:=β r.cg;obtain⟨n,m,rfl,ab⟩:=Β r.own;have aL:=κ r.cg;by_cases ag:i<nn
   . obtain⟨bn,on,en,P⟩:=(h.below ad).row i (show i<nn from ag);have aI:an=some ⟨bn,on,none⟩:=en;subst aI;have ae:wr.cell? ⟨bn,on+i,none⟩=some (.slice (ra i) (rl i) (rc0 i)):=P;have Q:∀c,c<rl i->∃b o,ra i=some ⟨b,o,none⟩/\wr.cell? ⟨b,o+c,none⟩=some (.int .i64 (X i c)):=fun c hcl=>(h.below ad).cT i c (show i<nn from ag) (show c<rl i from hcl)
     have aK:=hb3 i ag;have B:Hid _:=r;clear r ab h en P;by_cases J:rl i=0
     . obtain⟨aS,aF⟩:=δ (ra i);obtain⟨ai,S⟩:=δ (rc0 i);rw[J,aF.out,S.out]at ae;have ak:=α J;have R:Hid _:=B.out.below (μ.alloc ι (.cells #[.slice none 0 0] 24));have G:=R.out.own;have aU:w.heap.size+1+1+1<=(wr.alloc (.cells #[.slice none 0 0] 24)).heap.size:=s_;have HG:∀(g a:Nat) (f:World),f.ownsRow (w.heap.size+1+1+1) 24 1 (.slice (some ⟨g,0,none⟩) (i+1) a) (i+1) ((List.range i).map (bn_ rb rl rc)++ [.slice none 0 0])->(wr.alloc (.cells #[.slice none 0 0] 24)).grownBy f (Value.slice n i m).ownBlock->
        f.heap[w.heap.size+1+1]? =some (.cells #[b2_ ga na ca',.slice n i m] 41 (0,0))/\Hid (fg_ W w.heap.size (f.setCell ⟨w.heap.size+1+1,1,none⟩ (.slice (some ⟨g,0,none⟩) (i+1) a)) (b2_ ga na ca') (.slice (some ⟨g,0,none⟩) (i+1) a) (i+1) ga na (fun j=>if j=i then 0 else rb j) rl (fun j=>if j=i then 0 else rc j) A X):=by
        intro g a f ho H;refine R.out.app 0 0 (fun hl=>absurd hl (by have:=ak.out;omega)) (fun j hj hl e=> ?_) (by rw[ak.out];exact ho) H;have:=(R.out.row j hj hl).1;omega
       clear J Q;go_wp2_with (first|(at_builtin;refine pe_ _ rfl _ _ 24 rfl 3 i3 underlying24 ar aS ai rfl rfl ?_)|(at_builtin;refine Υ underlying39 aq av aw ax G ?_;intro g a f ah q aJ;obtain⟨f0,F⟩:=HG g a f ah q;obtain⟨f1,f2,f3,f4⟩:=β f0));go_roundw
       case rel=>exact⟨i+1,_,_,_,o_,by go_num,F.out⟩
       case measure=>exact c_
     . obtain⟨b,o,V,_⟩:=Q 0 o_;have af:∀c,c<rl i->wr.cell? ⟨b,o+c,none⟩=some (.int .i64 (X i c)):=fun c hcl=>by
        obtain⟨b',o',L,h'⟩:=Q c hcl;rw[V]at L;injection L with L;injection L with M N;subst M;subst N;exact h'
       rw[V]at ae;obtain⟨t,C⟩:=δ (rl i);obtain⟨ai,S⟩:=δ (rc0 i);obtain⟨xi,am⟩:=δ (X i);rw[C.out,S.out]at ae;rw[C.out,am.out]at af;rw[C.out]at aK J;have aD:Hid _:=af;clear Q af V;have aj:∀(a:Nat) (d:World),χ d wr.heap.size 3 t (fun c=> .int .i64 (xi c))->wr.grownBy d none->
        d.heap[w.heap.size+1+1]? =some (.cells #[b2_ ga na ca',.slice n i m] 41 (0,0))/\wr.heap.size<d.heap.size/\
        Hid (fg_ W w.heap.size (d.alloc (.cells #[.slice (some ⟨wr.heap.size,0,none⟩) t a] 24)) (b2_ ga na ca') (.slice n i m) i ga na rb rl rc A X/\
         χ (d.alloc (.cells #[.slice (some ⟨wr.heap.size,0,none⟩) t a] 24)) wr.heap.size 3 (rl i) (fun c=> .int .i64 (X i c))):=by
        intro a d s H;have hB:=pg_ H;refine⟨by rw[hB.block _ aL];exact B.out.cg,s.lt,(B.out.below hB).below ξ, ?_⟩;rw[C.out,am.out];exact s.alloc _
       have aE:∀(a:Nat) (d:World),Hid (fg_ W w.heap.size (d.alloc (.cells #[.slice (some ⟨wr.heap.size,0,none⟩) t a] 24)) (b2_ ga na ca') (.slice n i m) i ga na rb rl rc A X/\
        χ (d.alloc (.cells #[.slice (some ⟨wr.heap.size,0,none⟩) t a] 24)) wr.heap.size 3 (rl i) (fun c=> .int .i64 (X i c)))->∀(g D:Nat) (f:World),f.ownsRow (w.heap.size+1+1+1) 24 1 (.slice (some ⟨g,0,none⟩) (i+1) D) (i+1) ((List.range i).map (bn_ rb rl rc)++ [.slice (some ⟨wr.heap.size,0,none⟩) t a])->(d.alloc (.cells #[.slice (some ⟨wr.heap.size,0,none⟩) t a] 24)).grownBy f (Value.slice n i m).ownBlock->
        f.heap[w.heap.size+1+1]? =some (.cells #[b2_ ga na ca',.slice n i m] 41 (0,0))/\Hid (fg_ W w.heap.size (f.setCell ⟨w.heap.size+1+1,1,none⟩ (.slice (some ⟨g,0,none⟩) (i+1) D)) (b2_ ga na ca') (.slice (some ⟨g,0,none⟩) (i+1) D) (i+1) ga na (fun j=>if j=i then wr.heap.size else rb j) rl (fun j=>if j=i then a else rc j) A X):=by
        intro a d hh g D f ho H;refine hh.out.1.app wr.heap.size a (fun hl=>⟨o_,hh.out.2⟩) (fun j hj hl e=> ?_) (by rw[if_neg (by rw[C.out];exact J),C.out];exact ho) H;have:=(B.out.row j hj hl).2.lt;omega
       go_wp2_with (first|(at_builtin;refine pf_ _ rfl _ _ 24 rfl 3 i3 (.int .i64 0) 8 underlying24 ar aM aN aO rfl b o t ai (fun c=> .int .i64 (xi c)) rfl rfl aD.out (fun j=>rfl) o_ u_ o_ ?_;intro a d s q;obtain⟨e0,M,E⟩:=aj a d s q;obtain⟨N,e3,e4,e5⟩:=β e0;have G:=E.out.1.own;clear s q aj)|(at_builtin;refine Υ underlying39 aq av aw ax G ?_;intro g D f ah q aJ;obtain⟨f0,F⟩:=aE a d E g D f ah q;obtain⟨f1,f2,f3,f4⟩:=β f0));go_roundw
       case rel=>exact⟨i+1,_,_,_,o_,by go_num,F.out⟩
       case measure=>exact c_
   . have he:i=nn:=o_;subst he;have I:wr.heap[w.heap.size+1]? =some (.cells #[.slice none 0 0,.slice none 0 0] 41 (0,0)):=(ac.block _ o_).trans b1;obtain⟨q0,q1,p0,p1⟩:=β I;have B:Hid _:=r;have aB:Hid _:=ab;clear r ab h;obtain⟨ay,az,aA,T⟩:∃x y z,Hid (b2_ ga na ca'= .slice x y z):=by unfold b2_ Hid;split<;>exact⟨_,_,_,rfl⟩
     rw[T.out]at y0;go_wp2_with fail;obtain⟨r1,r2,r3⟩:=Φ (u:= .slice ay az aA) (v:= .slice n i m) I;refine bodyPost_ret (v:= .agg #[.slice ay az aA,.slice n i m]) (by simp[results,results96,go_sem,r1,r2]) rfl ?_;have l:=B.out;refine⟨(ad.setCell (p:=⟨w.heap.size+1,0,none⟩) i_ _).setCell (p:=⟨w.heap.size+1,1,none⟩) i_ _,ga,ca', ?_⟩;by_cases h0:i=0
     . subst h0;refine⟨0,0,rb,rc, ?_,fun hn=>⟨by have:=(l.acc hn).1;omega,(((l.acc hn).2.setOther (by have:=(l.acc hn).1;simp;omega) _).setOther (by have:=(l.acc hn).1;simp;omega) _)⟩,fun h=>absurd h o_,fun j hj=>absurd hj o_,fun j k _ hk=>absurd hk o_⟩;rw[T.out];rw[l.eA rfl];rfl
     . obtain⟨Y,rfl,_⟩:=aB.out o_;refine⟨Y,m,rb,rc, ?_,fun hn=>⟨by have:=(l.acc hn).1;omega,(((l.acc hn).2.setOther (by have:=(l.acc hn).1;simp;omega) _).setOther (by have:=(l.acc hn).1;simp;omega) _)⟩,fun _=>⟨by have:=(l.own.lt Y rfl).1;omega, ?_⟩,fun j hj hl=> ?_,l.cX⟩
       . rw[T.out];unfold b2_;rw[if_neg h0]
       . have aV:=(l.own.lt Y rfl).1;exact(((χ.dQ l.own (fun j hj=>nf_ _ _ j hj)).setOther s_ _).setOther s_ _)
       . have:=l.row j hj hl;exact⟨o_,((this.2.setOther s_ _).setOther s_ _)⟩
theorem pl_ (V:ρ)(M:γ)(w:World)(hM:M.Ok)(hV:π w V M):
 Calls prog 96 #[.agg #[.slice (some ⟨V.ba,V.oa,none⟩) M.n V.ca,.slice (some ⟨V.bn,V.on,none⟩) M.n V.cn]] w
  fun e w'=>∃U:ρ,e= .returned (.agg #[.slice (some ⟨U.ba,U.oa,none⟩) M.n U.ca,.slice (some ⟨U.bn,U.on,none⟩) M.n U.cn])/\π w' U M/\U.cP w.heap.size M.n/\Bl w w':=by
 have k:=hM.lo;have l:=hM.hi;refine(af5_ _ _ _ _ _ _ _ _ _ _ _ w (hV.raw hM) o_ o_ (fun i hi=>o_)).mono ?_;rintro e w' ⟨f,b,ca,d,cn,h,j,rfl,a⟩;have g:M.n≠0:=o_;refine⟨⟨b,0,ca,d,0,cn,h,fun _=>0,j⟩, ?_,⟨fun i hi=> ?_,fun i hi=> ?_,fun i c hi hc=> ?_⟩,⟨(a.acc o_).1,(a.b7 o_).1,fun i hi=>(a.row i hi o_).1⟩,f⟩
 . simp only[b2_,g,if_false]
 . simp only[Nat.zero_add];exact(a.acc o_).2.cell hi
 . simp only[Nat.zero_add];rw[(a.b7 o_).2.cell hi];simp[bn_]
 . simp only[Nat.zero_add];exact(a.row i hi o_).2.cell hc
theorem af6_ (r:aj_)(A:Nat->Bool)(X:Nat->Nat->Int)(w:World)(b:Nat)(h:az_ w r A X)(hok:Ο r X=false):
 Calls prog 57 #[.pointer (some ⟨b,0,none⟩),.agg #[.slice r.aa r.na r.ca,.slice r.an r.nn r.cn]] w
  fun e w'=>e= .returned (.tuple #[.int .i64 0,.int .i64 6])/\Bl w w':=by
 have c:Bl w (w.alloc (.cells #[.slice r.aa r.na r.ca,.slice r.an r.nn r.cn] 41)):=μ.alloc ι _;have a:=lk_ r A X _ (h.below c);rw[hok]at a;clear h hok;go_enter func57,ntmps57;go_wp2_with fail;refine a.mono ?_;rintro e g ⟨rfl,d⟩;have f:Bl w g:=c.trans (d.mono i_);clear a d;go_wp2_with fail;go_ret2;exact⟨rfl,f⟩
theorem af7_ (V:ρ)(M:γ)(w:World)(b n:Nat)(ry:Value)(t:Nat->ByteArray)(c:Nat->Cu)(hM:M.Ok)(hV:π w V M)(h:ad_ w b ry t n (Ι c))(hf:bw_ c=4):
 Calls prog 57 #[.pointer (some ⟨b,0,none⟩),.agg #[.slice (some ⟨V.ba,V.oa,none⟩) M.n V.ca,.slice (some ⟨V.bn,V.on,none⟩) M.n V.cn]] w
  fun e w'=>e= .returned (.tuple #[.int .i64 0,.int .i64 9])/\Bl w w':=by
 have g:Bl w (w.alloc (.cells #[.slice (some ⟨V.ba,V.oa,none⟩) M.n V.ca,.slice (some ⟨V.bn,V.on,none⟩) M.n V.cn] 41)):=μ.alloc ι _;have l:=kn_ V M _ hM (hV.below g);have f:Hid (∀i,i<4->(c i).op=true):=fun i q=>pj_ o_
 have p:=α h;clear h hV hM hf;go_enter func57,ntmps57;go_wp2_with fail;refine l.mono ?_;rintro e o ⟨rfl,m⟩;have j:Bl w o:=g.trans (m.mono i_);clear l m;go_wp2_with fail;go_loopw [7] (fun i' wr=>∃i:Nat,i<=4/\i'= .int .i64 (i:Int)/\wr=o) (fun i' _=>4 - (intOf i').toNat)
 case atStart=>exact⟨0,o_,rfl,rfl⟩
 case round=>
  obtain⟨i,q,rfl,rfl⟩:=hrel;have a:=p.out.below j;rcases (show i=0\/i=1\/i=2\/i=3\/i=4 by omega)with rfl|rfl|rfl|rfl|rfl
  . obtain⟨d,_⟩:=a.cu (k:=0) o_;rw[f.out 0 o_]at d;clear a;go_wp2_with fail;go_roundw
    case rel=>exact⟨1,o_,by go_num,trivial⟩
    case measure=>simp[intOf]
  . obtain⟨d,_⟩:=a.cu (k:=1) o_;rw[f.out 1 o_]at d;clear a;go_wp2_with fail;go_roundw
    case rel=>exact⟨2,o_,by go_num,trivial⟩
    case measure=>simp[intOf]
  . obtain⟨d,_⟩:=a.cu (k:=2) o_;rw[f.out 2 o_]at d;clear a;go_wp2_with fail;go_roundw
    case rel=>exact⟨3,o_,by go_num,trivial⟩
    case measure=>simp[intOf]
  . obtain⟨d,_⟩:=a.cu (k:=3) o_;rw[f.out 3 o_]at d;clear a;go_wp2_with fail;go_roundw
    case rel=>exact⟨4,o_,by go_num,trivial⟩
    case measure=>simp[intOf]
  . clear a;go_wp2_with fail;go_ret2;exact⟨rfl,j⟩
theorem af8_ (V:ρ)(M:γ)(w:World)(b n:Nat)(ry:Value)(t:Nat->ByteArray)(c:Nat->Cu)(hM:M.Ok)(hV:π w V M)(h:ad_ w b ry t n (Ι c))(hf:bw_ c<4):
 Calls prog 57 #[.pointer (some ⟨b,0,none⟩),.agg #[.slice (some ⟨V.ba,V.oa,none⟩) M.n V.ca,.slice (some ⟨V.bn,V.on,none⟩) M.n V.cn]] w
  fun e w'=>∃U:ρ,e= .returned (.tuple #[.int .i64 (bw_ c:Int),.int .i64 0])/\π w' U M/\U.cP w.heap.size M.n/\ad_ w' b ry t n (Ι (bk_ c (bw_ c) (db_ U M.n)))/\ε (fun k=>k=b) w w':=by
 have I:Bl w (w.alloc (.cells #[.slice (some ⟨V.ba,V.oa,none⟩) M.n V.ca,.slice (some ⟨V.bn,V.on,none⟩) M.n V.cn] 41)):=μ.alloc ι _;have T:(w.alloc (.cells #[.slice (some ⟨V.ba,V.oa,none⟩) M.n V.ca,.slice (some ⟨V.bn,V.on,none⟩) M.n V.cn] 41)).heap[w.heap.size]? =some (.cells #[.slice (some ⟨V.ba,V.oa,none⟩) M.n V.ca,.slice (some ⟨V.bn,V.on,none⟩) M.n V.cn] 41 (0,0)):=ο i_;have S:=kn_ V M _ hM (hV.below I);have G:Hid (∀i,i<bw_ c->(c i).op=true):=fun i C=>pj_ C
 have F:Hid ((c (bw_ c)).op=false):=w3_ hf;have E:=α h;have X:b<w.heap.size:=World.rowIs.lt h.1;have H:=α hV;obtain⟨f,R⟩:=δ (bw_ c);rw[R.out]at hf G F ⊢;clear h hV R;go_enter func57,ntmps57;go_wp2_with fail;refine S.mono ?_;rintro e W ⟨rfl,P⟩;have D:Bl w W:=I.trans (P.mono i_);have x:=(P.block _ i_).trans T;have Y:=κ x;clear S P T I;go_wp2_with fail;go_loopw [7] (fun i' wr=>∃i:Nat,i<=f/\i'= .int .i64 (i:Int)/\wr=W) (fun i' _=>4 - (intOf i').toNat)
 case atStart=>exact⟨0,o_,rfl,rfl⟩
 case round=>
  obtain⟨i,C,rfl,rfl⟩:=hrel;have s:=E.out.below D;obtain⟨Z,x1,_,_⟩:=β x;rcases (show i=0\/i=1\/i=2\/i=3 by omega)with rfl|rfl|rfl|rfl
  . obtain⟨u,d0⟩:=s.cu (k:=0) o_;by_cases v:0<f
    . rw[G.out 0 v]at u;clear s d0 x;go_wp2_with fail;go_roundw
      case rel=>exact⟨1,o_,by go_num,trivial⟩
      case measure=>simp[intOf]
    . obtain rfl:f=0:=o_;rw[F.out]at u;have j:Bl w wr.drew:=D.drew;have z:=pl_ V M wr.drew hM (H.out.below j);clear d0 x v C s;go_wp2_with fail;go_region_with (go_at_call 96;refine z.mono ?_;rintro e g ⟨U,rfl,q,r,d⟩;have Q:wr.heap.size<=g.heap.size:=d.size;have a:=(E.out.below j).below d;have y:Bl w g:=j.trans (d.mono (by show _<=wr.heap.size;omega));have J:=World.rowIs.frozen a.1 1;have K:=World.rowIs.frozen a.1 (1+1);have L:=World.rowIs.frozen a.1 (1+2);have N:=World.rowIs.frozen a.1 (1+3);have O:=World.rowIs.frozen a.1 (1+4);obtain⟨d0,d1,d2,d3,d4⟩:=a.cu (k:=0) o_;have A:=α q;have B:=α a;have o:Hid (U.cP w.heap.size M.n):=r.mono (by show _<=wr.heap.size;omega);clear q a r d)
      all_goals go_wp2_with fail
      all_goals go_ret2
      all_goals
       obtain⟨p,l⟩:=af_ (((((g.setCell ⟨b,1,none⟩ (.bool true)).setCell ⟨b,2,none⟩ (.slice (some ⟨U.ba,U.oa,none⟩) M.n U.ca)).setCell ⟨b,3,none⟩ (.slice (some ⟨U.bn,U.on,none⟩) M.n U.cn)).setCell ⟨b,4,none⟩ (.bool false)).setCell ⟨b,5,none⟩ (.string ⟨#[]⟩));have m:ad_ p b ry t n (Ι (bk_ c 0 (db_ U M.n)))/\ε (fun k=>k=b) g p:=by rw[l];exact B.out.dG (k:=0) o_ (db_ U M.n)
       rw[<-l];clear l;exact⟨U,rfl,A.out.de o.out m.2 o_,o.out,m.1,gr_ (gq_ y) m.2⟩
  . obtain⟨u,d0⟩:=s.cu (k:=1) o_;by_cases v:1<f
    . rw[G.out 1 v]at u;clear s d0 x;go_wp2_with fail;go_roundw
      case rel=>exact⟨2,o_,by go_num,trivial⟩
      case measure=>simp[intOf]
    . obtain rfl:f=1:=o_;rw[F.out]at u;have j:Bl w wr.drew:=D.drew;have z:=pl_ V M wr.drew hM (H.out.below j);clear d0 x v C s;go_wp2_with fail;go_region_with (go_at_call 96;refine z.mono ?_;rintro e g ⟨U,rfl,q,r,d⟩;have Q:wr.heap.size<=g.heap.size:=d.size;have a:=(E.out.below j).below d;have y:Bl w g:=j.trans (d.mono (by show _<=wr.heap.size;omega));have J:=World.rowIs.frozen a.1 6;have K:=World.rowIs.frozen a.1 (6+1);have L:=World.rowIs.frozen a.1 (6+2);have N:=World.rowIs.frozen a.1 (6+3);have O:=World.rowIs.frozen a.1 (6+4);obtain⟨d0,d1,d2,d3,d4⟩:=a.cu (k:=1) o_;have A:=α q;have B:=α a;have o:Hid (U.cP w.heap.size M.n):=r.mono (by show _<=wr.heap.size;omega);clear q a r d)
      all_goals go_wp2_with fail
      all_goals go_ret2
      all_goals
       obtain⟨p,l⟩:=af_ (((((g.setCell ⟨b,6,none⟩ (.bool true)).setCell ⟨b,7,none⟩ (.slice (some ⟨U.ba,U.oa,none⟩) M.n U.ca)).setCell ⟨b,8,none⟩ (.slice (some ⟨U.bn,U.on,none⟩) M.n U.cn)).setCell ⟨b,9,none⟩ (.bool false)).setCell ⟨b,10,none⟩ (.string ⟨#[]⟩));have m:ad_ p b ry t n (Ι (bk_ c 1 (db_ U M.n)))/\ε (fun k=>k=b) g p:=by rw[l];exact B.out.dG (k:=1) o_ (db_ U M.n)
       rw[<-l];clear l;exact⟨U,rfl,A.out.de o.out m.2 o_,o.out,m.1,gr_ (gq_ y) m.2⟩
  . obtain⟨u,d0⟩:=s.cu (k:=2) o_;by_cases v:2<f
    . rw[G.out 2 v]at u;clear s d0 x;go_wp2_with fail;go_roundw
      case rel=>exact⟨3,o_,by go_num,trivial⟩
      case measure=>simp[intOf]
    . obtain rfl:f=2:=o_;rw[F.out]at u;have j:Bl w wr.drew:=D.drew;have z:=pl_ V M wr.drew hM (H.out.below j);clear d0 x v C s;go_wp2_with fail;go_region_with (go_at_call 96;refine z.mono ?_;rintro e g ⟨U,rfl,q,r,d⟩;have Q:wr.heap.size<=g.heap.size:=d.size;have a:=(E.out.below j).below d;have y:Bl w g:=j.trans (d.mono (by show _<=wr.heap.size;omega));have J:=World.rowIs.frozen a.1 11;have K:=World.rowIs.frozen a.1 (11+1);have L:=World.rowIs.frozen a.1 (11+2);have N:=World.rowIs.frozen a.1 (11+3);have O:=World.rowIs.frozen a.1 (11+4);obtain⟨d0,d1,d2,d3,d4⟩:=a.cu (k:=2) o_;have A:=α q;have B:=α a;have o:Hid (U.cP w.heap.size M.n):=r.mono (by show _<=wr.heap.size;omega);clear q a r d)
      all_goals go_wp2_with fail
      all_goals go_ret2
      all_goals
       obtain⟨p,l⟩:=af_ (((((g.setCell ⟨b,11,none⟩ (.bool true)).setCell ⟨b,12,none⟩ (.slice (some ⟨U.ba,U.oa,none⟩) M.n U.ca)).setCell ⟨b,13,none⟩ (.slice (some ⟨U.bn,U.on,none⟩) M.n U.cn)).setCell ⟨b,14,none⟩ (.bool false)).setCell ⟨b,15,none⟩ (.string ⟨#[]⟩));have m:ad_ p b ry t n (Ι (bk_ c 2 (db_ U M.n)))/\ε (fun k=>k=b) g p:=by rw[l];exact B.out.dG (k:=2) o_ (db_ U M.n)
       rw[<-l];clear l;exact⟨U,rfl,A.out.de o.out m.2 o_,o.out,m.1,gr_ (gq_ y) m.2⟩
  . obtain⟨u,d0⟩:=s.cu (k:=3) o_;by_cases v:3<f
    . omega
    . obtain rfl:f=3:=o_;rw[F.out]at u;have j:Bl w wr.drew:=D.drew;have z:=pl_ V M wr.drew hM (H.out.below j);clear d0 x v C s;go_wp2_with fail;go_region_with (go_at_call 96;refine z.mono ?_;rintro e g ⟨U,rfl,q,r,d⟩;have Q:wr.heap.size<=g.heap.size:=d.size;have a:=(E.out.below j).below d;have y:Bl w g:=j.trans (d.mono (by show _<=wr.heap.size;omega));have J:=World.rowIs.frozen a.1 16;have K:=World.rowIs.frozen a.1 (16+1);have L:=World.rowIs.frozen a.1 (16+2);have N:=World.rowIs.frozen a.1 (16+3);have O:=World.rowIs.frozen a.1 (16+4);obtain⟨d0,d1,d2,d3,d4⟩:=a.cu (k:=3) o_;have A:=α q;have B:=α a;have o:Hid (U.cP w.heap.size M.n):=r.mono (by show _<=wr.heap.size;omega);clear q a r d)
      all_goals go_wp2_with fail
      all_goals go_ret2
      all_goals
       obtain⟨p,l⟩:=af_ (((((g.setCell ⟨b,16,none⟩ (.bool true)).setCell ⟨b,17,none⟩ (.slice (some ⟨U.ba,U.oa,none⟩) M.n U.ca)).setCell ⟨b,18,none⟩ (.slice (some ⟨U.bn,U.on,none⟩) M.n U.cn)).setCell ⟨b,19,none⟩ (.bool false)).setCell ⟨b,20,none⟩ (.string ⟨#[]⟩));have m:ad_ p b ry t n (Ι (bk_ c 3 (db_ U M.n)))/\ε (fun k=>k=b) g p:=by rw[l];exact B.out.dG (k:=3) o_ (db_ U M.n)
       rw[<-l];clear l;exact⟨U,rfl,A.out.de o.out m.2 o_,o.out,m.1,gr_ (gq_ y) m.2⟩
end Go.Proofs.YtpngikmcjkjdaaaGreatDoor
