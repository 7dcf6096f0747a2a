import Derived.Test.YtpngikmcjkjdaaaGreatDoorA12
import Derived.Test.YtpngikmcjkjdaaaGreatDoorA23
set_option linter.unusedVariables false
set_option linter.unusedSimpArgs false
set_option maxRecDepth 20000
set_option maxHeartbeats 80000000
namespace Go.Proofs.YtpngikmcjkjdaaaGreatDoor
open Go.RowKit Tryz List Nat
variable {b k n:Nat} {t:Nat->ByteArray} {ry:Value} {w w':World}
theorem aew_ (r:aj_)(A:Nat->Bool)(X:Nat->Nat->Int)(w:World)(bx:Nat)(h:az_ w r A X)(hok:Ο r X=false):
 Calls prog 95 #[.pointer (some ⟨bx,0,none⟩),.agg #[.slice r.aa r.na r.ca,.slice r.an r.nn r.cn]] w
  fun e w'=>e= .returned (.tuple #[.int .i64 0,.int .i64 6])/\Bl w w':=by
 have b:Bl w (w.alloc (.cells #[.slice r.aa r.na r.ca,.slice r.an r.nn r.cn] 41)):=μ.alloc ι _;have a:=n8_ r A X _ (h.below b);rw[hok]at a;clear h hok;go_enter func95,ntmps95;go_wp2_with fail;refine a.mono ?_;rintro e f ⟨rfl,c⟩;have d:Bl w f:=b.trans (c.mono i_);clear a c;go_wp2_with fail;go_ret2;exact⟨rfl,d⟩
def bw_ (c:Nat->Cu):Nat:=if (c 0).op=false then 0 else if (c 1).op=false then 1 else if (c 2).op=false then 2 else if (c 3).op=false then 3 else 4
theorem aex_ (c:Nat->Cu):bw_ c<=4:=by unfold bw_;repeat' split<;>try omega
theorem w0_ {c:Nat->Cu}(h:bw_ c<4):(c (bw_ c)).op=false:=by
 unfold bw_ at h ⊢;by_cases a:(c 0).op=false
 . simp[a]
 . by_cases b:(c 1).op=false
   . simp[a,b]
   . by_cases d:(c 2).op=false
     . simp[a,b,d]
     . by_cases e:(c 3).op=false
       . simp[a,b,d,e]
       . simp[a,b,d,e]at h
theorem pe_ {c:Nat->Cu}{i:Nat}(h:i<bw_ c):(c i).op=true:=by
 unfold bw_ at h;have k:∀j,¬(c j).op=false->(c j).op=true:=fun j hj=>by simpa using hj
 by_cases a:(c 0).op=false
 . simp[a]at h
 . by_cases b:(c 1).op=false
   . simp[a,b]at h;subst h;exact k 0 a
   . by_cases d:(c 2).op=false
     . simp[a,b,d]at h;rcases (show i=0\/i=1 by omega)with rfl|rfl
       . exact k 0 a
       . exact k 1 b
     . by_cases e:(c 3).op=false
       . simp[a,b,d,e]at h;rcases (show i=0\/i=1\/i=2 by omega)with rfl|rfl|rfl
         . exact k 0 a
         . exact k 1 b
         . exact k 2 d
       . simp[a,b,d,e]at h;rcases (show i=0\/i=1\/i=2\/i=3 by omega)with rfl|rfl|rfl|rfl
         . exact k 0 a
         . exact k 1 b
         . exact k 2 d
         . exact k 3 e
def db_ (U:ρ)(n:Nat):Cu:=⟨true,.slice (some ⟨U.ba,U.oa,none⟩) n U.ca,.slice (some ⟨U.bn,U.on,none⟩) n U.cn,false,ByteArray.empty⟩
theorem aey_ (V:ρ)(M:γ)(w:World)(bx n:Nat)(t:Nat->ByteArray)(c:Nat->Cu)(hM:M.Ok)(hV:π w V M)(h:Θ w bx t n (Ι c))(hf:bw_ c=4):
 Calls prog 95 #[.pointer (some ⟨bx,0,none⟩),.agg #[.slice (some ⟨V.ba,V.oa,none⟩) M.n V.ca,.slice (some ⟨V.bn,V.on,none⟩) M.n V.cn]] w
  fun e w'=>e= .returned (.tuple #[.int .i64 0,.int .i64 9])/\Bl w w':=by
 have f:Bl w (w.alloc (.cells #[.slice (some ⟨V.ba,V.oa,none⟩) M.n V.ca,.slice (some ⟨V.bn,V.on,none⟩) M.n V.cn] 41)):=μ.alloc ι _;have j:=jj_ V M _ hM (hV.below f);have d:Hid (∀i,i<4->(c i).op=true):=fun i p=>pe_ o_
 have o:=α h;clear h hV hM hf;go_enter func95,ntmps95;go_wp2_with fail;refine j.mono ?_;rintro e m ⟨rfl,l⟩;have g:Bl w m:=f.trans (l.mono i_);clear j l;go_wp2_with fail;go_loopw [6] (fun i' wr=>∃i:Nat,i<=4/\i'= .int .i64 (i:Int)/\wr=m) (fun i' _=>4 - (intOf i').toNat)
 case atStart=>exact⟨0,o_,rfl,rfl⟩
 case round=>
  obtain⟨i,p,rfl,rfl⟩:=hrel;have a:=o.out.below g;rcases (show i=0\/i=1\/i=2\/i=3\/i=4 by omega)with rfl|rfl|rfl|rfl|rfl
  . obtain⟨b,_⟩:=a.cu (k:=0) o_;rw[d.out 0 o_]at b;clear a;go_wp2_with fail;go_roundw
    case rel=>exact⟨1,o_,by go_num,trivial⟩
    case measure=>simp[intOf]
  . obtain⟨b,_⟩:=a.cu (k:=1) o_;rw[d.out 1 o_]at b;clear a;go_wp2_with fail;go_roundw
    case rel=>exact⟨2,o_,by go_num,trivial⟩
    case measure=>simp[intOf]
  . obtain⟨b,_⟩:=a.cu (k:=2) o_;rw[d.out 2 o_]at b;clear a;go_wp2_with fail;go_roundw
    case rel=>exact⟨3,o_,by go_num,trivial⟩
    case measure=>simp[intOf]
  . obtain⟨b,_⟩:=a.cu (k:=3) o_;rw[d.out 3 o_]at b;clear a;go_wp2_with fail;go_roundw
    case rel=>exact⟨4,o_,by go_num,trivial⟩
    case measure=>simp[intOf]
  . clear a;go_wp2_with fail;go_ret2;exact⟨rfl,g⟩
theorem π.touch1 {U:ρ}{M:γ}{bx N:Nat}(h:π w U M)(hU:U.From N M.n)(hT:ε (fun k=>k=bx) w w')(hb:bx<N):π w' U M:=by
 have a:∀b o v,w.cell? ⟨b,o,none⟩=some v->N<=b->w'.cell? ⟨b,o,none⟩=some v:=fun b o v hc hn=>by
  have e:=Ψ hc;have d:=hT.block b e o_;simp only[World.cell?]at hc ⊢;rw[d];exact hc
 exact⟨fun i hi=>a _ _ _ (h.acc i hi) hU.1,fun i hi=>a _ _ _ (h.row i hi) hU.2,fun i c hi hc=>a _ _ _ (h.cel i c hi hc) (hU.3 i hi)⟩
theorem pf_ {S:Nat->Prop}(h:ε S w w'):ε S w w'.drew:=⟨h.os,h.tape,h.output,h.size,h.block⟩
theorem aez_ (V:ρ)(M:γ)(w:World)(bx n:Nat)(t:Nat->ByteArray)(c:Nat->Cu)(hM:M.Ok)(hV:π w V M)(h:Θ w bx t n (Ι c))(hf:bw_ c<4):
 Calls prog 95 #[.pointer (some ⟨bx,0,none⟩),.agg #[.slice (some ⟨V.ba,V.oa,none⟩) M.n V.ca,.slice (some ⟨V.bn,V.on,none⟩) M.n V.cn]] w
  fun e w'=>∃U:ρ,e= .returned (.tuple #[.int .i64 (bw_ c:Int),.int .i64 0])/\π w' U M/\U.From w.heap.size M.n/\Θ w' bx t n (Ι (bk_ c (bw_ c) (db_ U M.n)))/\ε (fun k=>k=bx) w w':=by
 have P:Bl w (w.alloc (.cells #[.slice (some ⟨V.ba,V.oa,none⟩) M.n V.ca,.slice (some ⟨V.bn,V.on,none⟩) M.n V.cn] 41)):=μ.alloc ι _;have aa:(w.alloc (.cells #[.slice (some ⟨V.ba,V.oa,none⟩) M.n V.ca,.slice (some ⟨V.bn,V.on,none⟩) M.n V.cn] 41)).heap[w.heap.size]? =some (.cells #[.slice (some ⟨V.ba,V.oa,none⟩) M.n V.ca,.slice (some ⟨V.bn,V.on,none⟩) M.n V.cn] 41 (0,0)):=ο i_;have HV:=jj_ V M _ hM (hV.below P);have K:Hid (∀i,i<bw_ c->(c i).op=true):=fun i H=>pe_ H
 have J:Hid ((c (bw_ c)).op=false):=w0_ hf;have I:=α h;have ab:bx<w.heap.size:=World.rowIs.lt h;have L:=α hV;obtain⟨f,HF⟩:=δ (bw_ c);rw[HF.out]at hf K J ⊢;clear h hV HF;go_enter func95,ntmps95;go_wp2_with fail;refine HV.mono ?_;rintro e w1 ⟨rfl,X⟩;have o:Bl w w1:=P.trans (X.mono i_);have B:=(X.block _ i_).trans aa;have ac:=κ B;clear HV X aa P;go_wp2_with fail;go_loopw [6] (fun i' wr=>∃i:Nat,i<=f/\i'= .int .i64 (i:Int)/\wr=w1) (fun i' _=>4 - (intOf i').toNat)
 case atStart=>exact⟨0,o_,rfl,rfl⟩
 case round=>
  obtain⟨i,H,rfl,rfl⟩:=hrel;have l:=I.out.below o;obtain⟨N,O,_,_⟩:=β B;rcases (show i=0\/i=1\/i=2\/i=3 by omega)with rfl|rfl|rfl|rfl
  . obtain⟨m,d0⟩:=l.cu (k:=0) o_;by_cases A:0<f
    . rw[K.out 0 A]at m;clear l d0 B;go_wp2_with fail;go_roundw
      case rel=>exact⟨1,o_,by go_num,trivial⟩
      case measure=>simp[intOf]
    . obtain rfl:f=0:=o_;rw[J.out]at m;have f0:=World.rowIs.frozen l 61;have p:=qi_ V M wr hM (L.out.below o);clear d0 B A H l;go_wp2_with fail;refine p.mono ?_;rintro e G ⟨U,rfl,s,u,d⟩;have z:=(I.out.below o).below d;have C:=η o d;have Y:=d.size;obtain⟨g,v,b,-,x⟩:=ν G #[.slice (some ⟨U.ba,U.oa,none⟩) M.n U.ca,.slice (some ⟨U.bn,U.on,none⟩) M.n U.cn] 41;obtain⟨Z,y1,_,_⟩:=β x;have a:=z.below b;have Q:=World.rowIs.frozen a 61;have R:=World.rowIs.frozen a (61+1);have S:=World.rowIs.frozen a (61+2);have T:=World.rowIs.frozen a (61+3);have W:=World.rowIs.frozen a (61+4);obtain⟨d0,d1,d2,d3,d4⟩:=a.cu (k:=0) o_;have E:Hid (π g U M):=s.below b;have F:=α a;have D:=η C b;clear p s z d a x b f0 m N O;go_wp2_with fail;rw[<-v];clear v;go_region
      go_wp2_with fail;go_ret2;obtain⟨q,j⟩:=af_ (((((g.setCell ⟨bx,61,none⟩ (.bool true)).setCell ⟨bx,62,none⟩ (.slice (some ⟨U.ba,U.oa,none⟩) M.n U.ca)).setCell ⟨bx,63,none⟩ (.slice (some ⟨U.bn,U.on,none⟩) M.n U.cn)).setCell ⟨bx,64,none⟩ (.bool false)).setCell ⟨bx,65,none⟩ (.string ⟨#[]⟩));have y:Θ q bx t n (Ι (bk_ c 0 (db_ U M.n)))/\ε (fun k=>k=bx) g q:=by rw[j];exact F.out.put (k:=0) o_ (db_ U M.n)
      rw[<-j];clear j;have r:=pf_ y.2;exact⟨U,rfl,E.out.touch1 u r o_,u.mono o_,y.1,gr_ (gq_ D) r⟩
  . obtain⟨m,d0⟩:=l.cu (k:=1) o_;by_cases A:1<f
    . rw[K.out 1 A]at m;clear l d0 B;go_wp2_with fail;go_roundw
      case rel=>exact⟨2,o_,by go_num,trivial⟩
      case measure=>simp[intOf]
    . obtain rfl:f=1:=o_;rw[J.out]at m;have f0:=World.rowIs.frozen l 66;have p:=qi_ V M wr hM (L.out.below o);clear d0 B A H l;go_wp2_with fail;refine p.mono ?_;rintro e G ⟨U,rfl,s,u,d⟩;have z:=(I.out.below o).below d;have C:=η o d;have Y:=d.size;obtain⟨g,v,b,-,x⟩:=ν G #[.slice (some ⟨U.ba,U.oa,none⟩) M.n U.ca,.slice (some ⟨U.bn,U.on,none⟩) M.n U.cn] 41;obtain⟨Z,y1,_,_⟩:=β x;have a:=z.below b;have Q:=World.rowIs.frozen a 66;have R:=World.rowIs.frozen a (66+1);have S:=World.rowIs.frozen a (66+2);have T:=World.rowIs.frozen a (66+3);have W:=World.rowIs.frozen a (66+4);obtain⟨d0,d1,d2,d3,d4⟩:=a.cu (k:=1) o_;have E:Hid (π g U M):=s.below b;have F:=α a;have D:=η C b;clear p s z d a x b f0 m N O;go_wp2_with fail;rw[<-v];clear v;go_region
      go_wp2_with fail;go_ret2;obtain⟨q,j⟩:=af_ (((((g.setCell ⟨bx,66,none⟩ (.bool true)).setCell ⟨bx,67,none⟩ (.slice (some ⟨U.ba,U.oa,none⟩) M.n U.ca)).setCell ⟨bx,68,none⟩ (.slice (some ⟨U.bn,U.on,none⟩) M.n U.cn)).setCell ⟨bx,69,none⟩ (.bool false)).setCell ⟨bx,70,none⟩ (.string ⟨#[]⟩));have y:Θ q bx t n (Ι (bk_ c 1 (db_ U M.n)))/\ε (fun k=>k=bx) g q:=by rw[j];exact F.out.put (k:=1) o_ (db_ U M.n)
      rw[<-j];clear j;have r:=pf_ y.2;exact⟨U,rfl,E.out.touch1 u r o_,u.mono o_,y.1,gr_ (gq_ D) r⟩
  . obtain⟨m,d0⟩:=l.cu (k:=2) o_;by_cases A:2<f
    . rw[K.out 2 A]at m;clear l d0 B;go_wp2_with fail;go_roundw
      case rel=>exact⟨3,o_,by go_num,trivial⟩
      case measure=>simp[intOf]
    . obtain rfl:f=2:=o_;rw[J.out]at m;have f0:=World.rowIs.frozen l 71;have p:=qi_ V M wr hM (L.out.below o);clear d0 B A H l;go_wp2_with fail;refine p.mono ?_;rintro e G ⟨U,rfl,s,u,d⟩;have z:=(I.out.below o).below d;have C:=η o d;have Y:=d.size;obtain⟨g,v,b,-,x⟩:=ν G #[.slice (some ⟨U.ba,U.oa,none⟩) M.n U.ca,.slice (some ⟨U.bn,U.on,none⟩) M.n U.cn] 41;obtain⟨Z,y1,_,_⟩:=β x;have a:=z.below b;have Q:=World.rowIs.frozen a 71;have R:=World.rowIs.frozen a (71+1);have S:=World.rowIs.frozen a (71+2);have T:=World.rowIs.frozen a (71+3);have W:=World.rowIs.frozen a (71+4);obtain⟨d0,d1,d2,d3,d4⟩:=a.cu (k:=2) o_;have E:Hid (π g U M):=s.below b;have F:=α a;have D:=η C b;clear p s z d a x b f0 m N O;go_wp2_with fail;rw[<-v];clear v;go_region
      go_wp2_with fail;go_ret2;obtain⟨q,j⟩:=af_ (((((g.setCell ⟨bx,71,none⟩ (.bool true)).setCell ⟨bx,72,none⟩ (.slice (some ⟨U.ba,U.oa,none⟩) M.n U.ca)).setCell ⟨bx,73,none⟩ (.slice (some ⟨U.bn,U.on,none⟩) M.n U.cn)).setCell ⟨bx,74,none⟩ (.bool false)).setCell ⟨bx,75,none⟩ (.string ⟨#[]⟩));have y:Θ q bx t n (Ι (bk_ c 2 (db_ U M.n)))/\ε (fun k=>k=bx) g q:=by rw[j];exact F.out.put (k:=2) o_ (db_ U M.n)
      rw[<-j];clear j;have r:=pf_ y.2;exact⟨U,rfl,E.out.touch1 u r o_,u.mono o_,y.1,gr_ (gq_ D) r⟩
  . obtain⟨m,d0⟩:=l.cu (k:=3) o_;by_cases A:3<f
    . omega
    . obtain rfl:f=3:=o_;rw[J.out]at m;have f0:=World.rowIs.frozen l 76;have p:=qi_ V M wr hM (L.out.below o);clear d0 B A H l;go_wp2_with fail;refine p.mono ?_;rintro e G ⟨U,rfl,s,u,d⟩;have z:=(I.out.below o).below d;have C:=η o d;have Y:=d.size;obtain⟨g,v,b,-,x⟩:=ν G #[.slice (some ⟨U.ba,U.oa,none⟩) M.n U.ca,.slice (some ⟨U.bn,U.on,none⟩) M.n U.cn] 41;obtain⟨Z,y1,_,_⟩:=β x;have a:=z.below b;have Q:=World.rowIs.frozen a 76;have R:=World.rowIs.frozen a (76+1);have S:=World.rowIs.frozen a (76+2);have T:=World.rowIs.frozen a (76+3);have W:=World.rowIs.frozen a (76+4);obtain⟨d0,d1,d2,d3,d4⟩:=a.cu (k:=3) o_;have E:Hid (π g U M):=s.below b;have F:=α a;have D:=η C b;clear p s z d a x b f0 m N O;go_wp2_with fail;rw[<-v];clear v;go_region
      go_wp2_with fail;go_ret2;obtain⟨q,j⟩:=af_ (((((g.setCell ⟨bx,76,none⟩ (.bool true)).setCell ⟨bx,77,none⟩ (.slice (some ⟨U.ba,U.oa,none⟩) M.n U.ca)).setCell ⟨bx,78,none⟩ (.slice (some ⟨U.bn,U.on,none⟩) M.n U.cn)).setCell ⟨bx,79,none⟩ (.bool false)).setCell ⟨bx,80,none⟩ (.string ⟨#[]⟩));have y:Θ q bx t n (Ι (bk_ c 3 (db_ U M.n)))/\ε (fun k=>k=bx) g q:=by rw[j];exact F.out.put (k:=3) o_ (db_ U M.n)
      rw[<-j];clear j;have r:=pf_ y.2;exact⟨U,rfl,E.out.touch1 u r o_,u.mono o_,y.1,gr_ (gq_ D) r⟩
theorem ae0_ (w:World)(bx n:Nat)(t:Nat->ByteArray)(c:Nat->Cu)(k:Int)(h:Θ w bx t n (Ι c)):
 Calls prog 54 #[.pointer (some ⟨bx,0,none⟩),.int .i64 k] w fun e w'=>e= .returned (.int .i64 (jw_ c k))/\Θ w' bx t n (Ι (he_ c k))/\ε (fun j=>j=bx) w w':=by
 have d:=am8_ w bx n t c k h;clear h;go_enter func54,ntmps54;go_wp2_with (go_at_call 94;refine d.mono ?_;rintro e i ⟨rfl,b,a⟩;have g:=α b;have f:=α a;clear b a);go_ret;exact⟨rfl,g.out,f.out⟩
theorem ae1_ (w:World)(bx n:Nat)(t:Nat->ByteArray)(c:Nat->Cu)(k limit:Int)(h:Θ w bx t n (Ι c))(hno:d8_ c k limit≠0):
 Calls prog 52 #[.pointer (some ⟨bx,0,none⟩),.int .i64 k,.int .i64 limit] w fun e w'=>e= .returned (.tuple #[.slice none 0 0,.bool false,.int .i64 (d8_ c k limit)])/\w'=w:=by
 have a:=and_ w bx n t c k limit h hno;clear h hno;go_enter func52,ntmps52;go_wp2_with (go_at_call 92;refine a.mono ?_;rintro e d ⟨rfl,b⟩;obtain rfl:w=d:=b.symm);go_ret3
 exact⟨rfl,rfl⟩
theorem ae2_ (w:World)(bx n m limit:Nat)(t:Nat->ByteArray)(c:Nat->Cu)(V:ρ)(M:γ)(h:Θ w bx t n (Ι c))(hn:n<=60)(hm:m<4)(hop:(c m).op=true)(hl1:1<=limit)(hl:limit<=50)(htu:∀i,i<n->ch_ (t i)=true)
 (hA:(c m).vA= .slice (some ⟨V.ba,V.oa,none⟩) M.n V.ca) (hN:(c m).vN= .slice (some ⟨V.bn,V.on,none⟩) M.n V.cn) (hM:M.Ok) (hT:π w V M):
 Calls prog 52 #[.pointer (some ⟨bx,0,none⟩),.int .i64 (m:Int),.int .i64 (limit:Int)] w fun e w'=>∃v,e= .returned (.tuple #[v,.bool (gp_ (c m) M t n limit),.int .i64 0])/\w'.ownsRow w.heap.size 9 1 v (de_ (c m) M t n limit).length (Ζ (de_ (c m) M t n limit))/\Θ w' bx t n (Ι (dp_ c m (de_ (c m) M t n limit)))/\ε (fun j=>j=bx) w w':=by
 have k:=ane_ w bx n m limit t c V M h hn hm hop hl1 hl htu hA hN hM hT;clear h hn hm hop hl1 hl htu hA hN hM hT;go_enter func52,ntmps52;go_wp2_with (go_at_call 92;refine k.mono ?_;rintro e b ⟨v,rfl,d,g,f⟩;have a:Hid (b.ownsRow w.heap.size 9 1 v (de_ (c m) M t n limit).length (Ζ (de_ (c m) M t n limit))/\Θ b bx t n (Ι (dp_ c m (de_ (c m) M t n limit)))/\ε (fun j=>j=bx) w b):=⟨d,g,f⟩;clear d g f);go_ret3
 exact⟨v,rfl,a.out.1,a.out.2.1,a.out.2.2⟩
theorem ae3_ (r:aj_)(A:Nat->Bool)(X:Nat->Nat->Int)(w:World)(bx:Nat)(h:az_ w r A X)(hok:Ο r X=false):
 Calls prog 56 #[.pointer (some ⟨bx,0,none⟩),.agg #[.slice r.aa r.na r.ca,.slice r.an r.nn r.cn]] w
  fun e w'=>e= .returned (.tuple #[.int .i64 0,.int .i64 6])/\Bl w w':=by
 obtain⟨d,a,-,-,-⟩:=ν w #[.slice r.aa r.na r.ca,.slice r.an r.nn r.cn] 41;have c:Bl w d.drew:=by rw[a];exact ξ.drew
 have b:=aw_ a;obtain⟨l,m,_,_⟩:=β b;have j:w.heap.size<d.drew.heap.size:=κ b;have i:=aew_ r A X _ bx (h.below c) hok;clear h hok;go_enter func56,ntmps56;go_wp2_with fail;rw[<-a];clear a b;go_region_with (go_at_call 95;refine i.mono ?_;rintro e k ⟨rfl,f⟩;have g:=η c f;clear f);go_wp2_with fail;go_ret2;exact⟨rfl,g⟩
theorem ae4_ (V:ρ)(M:γ)(w:World)(bx n:Nat)(t:Nat->ByteArray)(c:Nat->Cu)(hM:M.Ok)(hV:π w V M)(h:Θ w bx t n (Ι c))(hf:bw_ c=4):
 Calls prog 56 #[.pointer (some ⟨bx,0,none⟩),.agg #[.slice (some ⟨V.ba,V.oa,none⟩) M.n V.ca,.slice (some ⟨V.bn,V.on,none⟩) M.n V.cn]] w
  fun e w'=>e= .returned (.tuple #[.int .i64 0,.int .i64 9])/\Bl w w':=by
 obtain⟨f,a,-,-,-⟩:=ν w #[.slice (some ⟨V.ba,V.oa,none⟩) M.n V.ca,.slice (some ⟨V.bn,V.on,none⟩) M.n V.cn] 41;have b:Bl w f.drew:=by rw[a];exact ξ.drew
 have d:=aw_ a;obtain⟨m,o,_,_⟩:=β d;have k:w.heap.size<f.drew.heap.size:=κ d;have j:=aey_ V M _ bx n t c hM (hV.below b) (h.below b) hf;clear h hV hM hf;go_enter func56,ntmps56;go_wp2_with fail;rw[<-a];clear a d;go_region_with (go_at_call 95;refine j.mono ?_;rintro e l ⟨rfl,g⟩;have i:=η b g;clear g);go_wp2_with fail;go_ret2;exact⟨rfl,i⟩
theorem ae5_ (V:ρ)(M:γ)(w:World)(bx n:Nat)(t:Nat->ByteArray)(c:Nat->Cu)(hM:M.Ok)(hV:π w V M)(h:Θ w bx t n (Ι c))(hf:bw_ c<4):
 Calls prog 56 #[.pointer (some ⟨bx,0,none⟩),.agg #[.slice (some ⟨V.ba,V.oa,none⟩) M.n V.ca,.slice (some ⟨V.bn,V.on,none⟩) M.n V.cn]] w
  fun e w'=>∃U:ρ,e= .returned (.tuple #[.int .i64 (bw_ c:Int),.int .i64 0])/\π w' U M/\U.From w.heap.size M.n/\Θ w' bx t n (Ι (bk_ c (bw_ c) (db_ U M.n)))/\ε (fun k=>k=bx) w w':=by
 obtain⟨i,b,-,-,-⟩:=ν w #[.slice (some ⟨V.ba,V.oa,none⟩) M.n V.ca,.slice (some ⟨V.bn,V.on,none⟩) M.n V.cn] 41;have d:Bl w i.drew:=by rw[b];exact ξ.drew
 have f:=aw_ b;obtain⟨r,s,_,_⟩:=β f;have q:w.heap.size<i.drew.heap.size:=κ f;have p:=aez_ V M _ bx n t c hM (hV.below d) (h.below d) hf;clear h hV hM hf;go_enter func56,ntmps56;go_wp2_with fail;rw[<-b];clear b f;go_region_with (go_at_call 95;refine p.mono ?_;rintro e g ⟨U,rfl,l,m,o,j⟩;have a:Hid (π g U M/\U.From w.heap.size M.n/\Θ g bx t n (Ι (bk_ c (bw_ c) (db_ U M.n)))/\ε (fun k=>k=bx) w g):=⟨l,m.mono o_,o,gr_ (gq_ d) j⟩;clear l o j m);go_wp2_with fail;go_ret2;exact⟨U,rfl,a.out.1,a.out.2.1,a.out.2.2.1,a.out.2.2.2⟩
theorem ad_.cu {c:Nat->Cu}(h:ad_ w b ry t n (Ι c))(hk:k<4):
 w.cell? ⟨b,1+5*k,none⟩=some (.bool (c k).op)/\w.cell? ⟨b,1+5*k+1,none⟩=some (c k).vA/\w.cell? ⟨b,1+5*k+2,none⟩=some (c k).vN/\w.cell? ⟨b,1+5*k+3,none⟩=some (.bool (c k).bg)/\w.cell? ⟨b,1+5*k+4,none⟩=some (.string (c k).la):=by
 have a:∀f,f<5->w.cell? ⟨b,1+5*k+f,none⟩=some (Ι c (5*k+f)):=fun f hf=>by
  rw[World.rowIs.cell h.1 (i:=1+5*k+f) o_,if_neg o_];congr 2
  omega
 have d:∀f,f<5->(5*k+f)/5=k/\(5*k+f)%5=f:=fun f hf=>o_
 have r:∀f,f<5->Ι c (5*k+f)=if f=0 then .bool (c k).op else if f=1 then(c k).vA else if f=2 then(c k).vN else if f=3 then .bool (c k).bg else .string (c k).la:=fun f hf=>by
  unfold Ι;rw[(d f hf).1,(d f hf).2]
 exact⟨by rw[<-Nat.add_zero (1+5*k),a 0 o_,r 0 o_];rfl,by rw[a 1 o_,r 1 o_];rfl,by rw[a 2 o_,r 2 o_];rfl,by rw[a 3 o_,r 3 o_];rfl,by rw[a 4 o_,r 4 o_];rfl⟩
theorem ng_ {w1:World}{base m:Nat}{f:Nat->Value}{v:Value}{x:List Value}(ho:w.ownsRow base 9 1 v m x)(h:w.rowIs b 77 n f)(hT:ε (fun j=>j=b) w w1):w1.ownsRow base 9 1 v m x:=by
 refine hT.own ho (fun g hg hgb=> ?_);subst hgb;obtain⟨c,d,_⟩:=h;rcases ho.2 with ⟨rfl,_⟩|⟨k,e,i,rfl,_,a,_⟩
 . simp[Value.ownBlock]at hg
 . simp only[Value.ownBlock,Δ]at hg;subst hg;rw[d]at a;injection a with a;injection a with _ a;exact absurd a d_
theorem ad_.put5 {c:Nat->Cu}(h:ad_ w b ry t n (Ι c))(hk:k<4)(d:Cu):
 ad_ (((((w.setCell ⟨b,1+5*k,none⟩ (.bool d.op)).setCell ⟨b,1+5*k+1,none⟩ d.vA).setCell ⟨b,1+5*k+2,none⟩ d.vN).setCell ⟨b,1+5*k+3,none⟩ (.bool d.bg)).setCell ⟨b,1+5*k+4,none⟩ (.string d.la)) b ry t n (Ι (bk_ c k d))/\
 ε (fun j=>j=b) w (((((w.setCell ⟨b,1+5*k,none⟩ (.bool d.op)).setCell ⟨b,1+5*k+1,none⟩ d.vA).setCell ⟨b,1+5*k+2,none⟩ d.vN).setCell ⟨b,1+5*k+3,none⟩ (.bool d.bg)).setCell ⟨b,1+5*k+4,none⟩ (.string d.la)):=by
 have g:ε (fun j=>j=b) w (((((w.setCell ⟨b,1+5*k,none⟩ (.bool d.op)).setCell ⟨b,1+5*k+1,none⟩ d.vA).setCell ⟨b,1+5*k+2,none⟩ d.vN).setCell ⟨b,1+5*k+3,none⟩ (.bool d.bg)).setCell ⟨b,1+5*k+4,none⟩ (.string d.la)):=(((((ε.refl (fun j=>j=b) w).set ⟨b,1+5*k,none⟩ (.bool d.op) (.inl rfl)).set ⟨b,1+5*k+1,none⟩ d.vA (.inl rfl)).set ⟨b,1+5*k+2,none⟩ d.vN (.inl rfl)).set ⟨b,1+5*k+3,none⟩ (.bool d.bg) (.inl rfl)).set ⟨b,1+5*k+4,none⟩ (.string d.la) (.inl rfl);refine⟨⟨(((((World.rowIs.set h.1 (1+5*k) (.bool d.op)).set (1+5*k+1) d.vA).set (1+5*k+2) d.vN).set (1+5*k+3) (.bool d.bg)).set (1+5*k+4) (.string d.la)).congr (fun j hj=> ?_),ng_ h.2 h.1 g⟩,g⟩;unfold Ι bk_;by_cases a:j=0
 . simp only[a,if_true,show¬0=1+5*k+4 by omega,show¬0=1+5*k+3 by omega,show¬0=1+5*k+2 by omega,show¬0=1+5*k+1 by omega,show¬0=1+5*k by omega,if_false]
 . by_cases q:(j - 1)/5=k
   . simp only[a,q,if_false,if_true];rcases (show(j - 1)%5=0\/(j - 1)%5=1\/(j - 1)%5=2\/(j - 1)%5=3\/(j - 1)%5=4 by omega)with f|f|f|f|f
     . have e:j=1+5*k:=o_;simp only[f,if_pos e,show¬j=1+5*k+4 by omega,show¬j=1+5*k+3 by omega,show¬j=1+5*k+2 by omega,show¬j=1+5*k+1 by omega,if_false,if_true]
     . have e:j=1+5*k+1:=o_;simp only[f,if_pos e,show¬j=1+5*k+4 by omega,show¬j=1+5*k+3 by omega,show¬j=1+5*k+2 by omega,if_false,if_true,show¬(1:Nat)=0 by omega]
     . have e:j=1+5*k+2:=o_;simp only[f,if_pos e,show¬j=1+5*k+4 by omega,show¬j=1+5*k+3 by omega,if_false,if_true,show¬(2:Nat)=0 by omega,show¬(2:Nat)=1 by omega]
     . have e:j=1+5*k+3:=o_;simp only[f,if_pos e,show¬j=1+5*k+4 by omega,if_false,if_true,show¬(3:Nat)=0 by omega,show¬(3:Nat)=1 by omega,show¬(3:Nat)=2 by omega]
     . have e:j=1+5*k+4:=o_;simp only[f,if_pos e,if_false,show¬(4:Nat)=0 by omega,show¬(4:Nat)=1 by omega,show¬(4:Nat)=2 by omega,show¬(4:Nat)=3 by omega]
   . simp only[a,q,if_false,show¬j=1+5*k+4 by omega,show¬j=1+5*k+3 by omega,show¬j=1+5*k+2 by omega,show¬j=1+5*k+1 by omega,show¬j=1+5*k by omega]
theorem rs_ (w:World)(b n:Nat)(ry:Value)(t:Nat->ByteArray)(c:Nat->Cu)(k:Int)(h:ad_ w b ry t n (Ι c)):
 Calls prog 93 #[.pointer (some ⟨b,0,none⟩),.int .i64 k] w fun e w'=>e= .returned (.bool (opB c k))/\w'=w:=by
 by_cases g:0<=k
 . by_cases i:k<4
   . obtain⟨m,rfl⟩:∃m:Nat,k=m:=⟨k.toNat,o_⟩;have a:m<4:=o_;rw[n4_ c a];obtain⟨f,_⟩:=h.cu a;generalize (c m).op=bb at*;clear h;rcases (show m=0\/m=1\/m=2\/m=3 by omega)with rfl|rfl|rfl|rfl
     all_goals
      go_enter func93,ntmps93;go_wp2_with fail;go_ret;exact⟨rfl,rfl⟩
   . rw[lg_ o_];have d:decide (k<4)=false:=s_;clear h;go_enter func93,ntmps93;go_wp2_with fail;go_ret;exact⟨rfl,rfl⟩
 . rw[lg_ o_];have d:decide (0<=k)=false:=s_;clear h;go_enter func93,ntmps93;go_wp2_with fail;go_ret;exact⟨rfl,rfl⟩
theorem ae6_ (w:World)(b n:Nat)(ry:Value)(t:Nat->ByteArray)(c:Nat->Cu)(k:Int)(h:ad_ w b ry t n (Ι c)):
 Calls prog 55 #[.pointer (some ⟨b,0,none⟩),.int .i64 k] w fun e w'=>e= .returned (.int .i64 (jw_ c k))/\ad_ w' b ry t n (Ι (he_ c k))/\ε (fun j=>j=b) w w':=by
 have g:=rs_ w b n ry t c k h;have i:=α h;unfold jw_ he_;cases hop:opB c k with
 |false=>
  rw[hop]at g;clear h;go_enter func55,ntmps55;go_wp2_with (go_at_call 93;refine g.mono ?_;rintro e f ⟨rfl,d⟩;obtain rfl:w=f:=d.symm);go_ret;exact⟨rfl,i.out,ε.refl _ _⟩
 |true=>
  rw[hop]at g;have p:0<=k/\k<4:=by
   by_cases o:0<=k/\k<4
   . exact o
   . rw[lg_ o]at hop;cases hop
  obtain⟨m,rfl⟩:∃m:Nat,k=m:=⟨k.toNat,o_⟩;have q:m<4:=o_;obtain⟨r,s,u,v,x⟩:=h.cu q;have l:=World.rowIs.frozen h.1;clear h hop p;rcases (show m=0\/m=1\/m=2\/m=3 by omega)with rfl|rfl|rfl|rfl
  . have f0:=l 1;go_enter func55,ntmps55;go_wp2_with (go_at_call 93;refine g.mono ?_;rintro e f ⟨rfl,d⟩;obtain rfl:w=f:=d.symm);go_ret;have a:=i.out.put5 (k:=0) o_ shut;exact⟨rfl,a.1,a.2⟩
  . have f0:=l 6;go_enter func55,ntmps55;go_wp2_with (go_at_call 93;refine g.mono ?_;rintro e f ⟨rfl,d⟩;obtain rfl:w=f:=d.symm);go_ret;have a:=i.out.put5 (k:=1) o_ shut;exact⟨rfl,a.1,a.2⟩
  . have f0:=l 11;go_enter func55,ntmps55;go_wp2_with (go_at_call 93;refine g.mono ?_;rintro e f ⟨rfl,d⟩;obtain rfl:w=f:=d.symm);go_ret;have a:=i.out.put5 (k:=2) o_ shut;exact⟨rfl,a.1,a.2⟩
  . have f0:=l 16;go_enter func55,ntmps55;go_wp2_with (go_at_call 93;refine g.mono ?_;rintro e f ⟨rfl,d⟩;obtain rfl:w=f:=d.symm);go_ret;have a:=i.out.put5 (k:=3) o_ shut;exact⟨rfl,a.1,a.2⟩
theorem ae7_ (w:World)(bx n:Nat)(ry:Value)(t:Nat->ByteArray)(c:Nat->Cu)(k limit:Int)(h:ad_ w bx ry t n (Ι c))(hno:d8_ c k limit≠0):
 Calls prog 53 #[.pointer (some ⟨bx,0,none⟩),.int .i64 k,.int .i64 limit] w fun e w'=>e= .returned (.tuple #[.slice none 0 0,.bool false,.int .i64 (d8_ c k limit)])/\w'=w:=by
 have b:=rs_ w bx n ry t c k h;clear h;cases hop:opB c k with
 |false=>
  have a:d8_ c k limit=10:=by simp[d8_,hop]
  rw[hop]at b;rw[a];clear hno a hop;go_enter func53,ntmps53;go_wp2_with (go_at_call 93;refine b.mono ?_;rintro e f ⟨rfl,d⟩;obtain rfl:w=f:=d.symm);go_ret3
  exact⟨rfl,rfl⟩
 |true=>
  have g:¬(1<=limit/\limit<=50):=fun hh=>hno (by simp[d8_,hop,hh])
  have a:d8_ c k limit=8:=by simp[d8_,hop,g]
  rw[hop]at b;rw[a];by_cases i:limit<1
  . clear hno a hop g;go_enter func53,ntmps53;go_wp2_with (go_at_call 93;refine b.mono ?_;rintro e f ⟨rfl,d⟩;obtain rfl:w=f:=d.symm);go_ret3
    exact⟨rfl,rfl⟩
  . have j:50<limit:=o_;have l:decide (limit<1)=false:=s_;clear hno a hop g i;go_enter func53,ntmps53;go_wp2_with (go_at_call 93;refine b.mono ?_;rintro e f ⟨rfl,d⟩;obtain rfl:w=f:=d.symm);go_ret3
    exact⟨rfl,rfl⟩
end Go.Proofs.YtpngikmcjkjdaaaGreatDoor
