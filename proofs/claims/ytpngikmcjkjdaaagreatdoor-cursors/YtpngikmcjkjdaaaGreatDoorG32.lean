import Derived.Test.YtpngikmcjkjdaaaGreatDoorG0
import Derived.Test.YtpngikmcjkjdaaaGreatDoorW0
import Derived.Deep.DeepCutAuto
import Derived.Deep.RegionHeld3
import Derived.Deep.Upon
import Derived.Test.YtpngikmcjkjdaaaGreatDoorG11
import Derived.Test.YtpngikmcjkjdaaaGreatDoorG2
import Derived.Test.YtpngikmcjkjdaaaGreatDoorG5
set_option linter.unusedVariables false
set_option linter.unusedSimpArgs false
set_option maxRecDepth 20000
set_option maxHeartbeats 80000000
namespace Go.Proofs.YtpngikmcjkjdaaaGreatDoor
open Go.RowKit Tryz
def dg (q i:Nat):Nat:=q/4^i%4
def enc (f:Nat->Nat):Nat->Nat
 |0=>0
 |k+1=>enc f k+f k*4^k
theorem s7_ {f:Nat->Nat}{k:Nat}(h:∀i,i<k->f i<4):enc f k<4^k:=by
 induction k with
 |zero=>simp[enc]
 |succ k ih=>
  have h1:=ih (fun i hi=>h i o_);have h2:f k*4^k<=3*4^k:=Nat.mul_le_mul_right _ (by have:=h k o_;omega);have h3:4^(k+1)=4*4^k:=by rw[Nat.pow_succ,Nat.mul_comm]
  simp only[enc];omega
theorem afb_ {f:Nat->Nat}{k i:Nat}(h:∀i,i<k->f i<4)(hi:i<k):dg (enc f k) i=f i:=by
 induction k with
 |zero=>omega
 |succ k ih=>
  have h1:=s7_ (k:=k) (fun i hi=>h i o_);simp only[enc,dg];by_cases e:i=k
  . subst e;rw[Nat.add_mul_div_right _ _ (Nat.pow_pos o_),Nat.div_eq_of_lt h1,Nat.zero_add,Nat.mod_eq_of_lt (h i o_)]
  . have h2:=ih (fun i hi=>h i o_) o_;unfold dg at h2;have h3:4^k=4^(k - i - 1)*4*4^i:=by
     rw[<-Nat.pow_succ,<-Nat.pow_add];congr 1;omega
    rw[h3,show f k*(4^(k - i - 1)*4*4^i)=(f k*4^(k - i - 1)*4)*4^i by simp[Nat.mul_assoc],Nat.add_mul_div_right _ _ (Nat.pow_pos o_),Nat.add_mul_mod_self_right];exact h2
theorem afu_ (q i:Nat):dg q i<4:=Nat.mod_lt _ o_
theorem zh_ {f g:Nat->Nat}{k:Nat}(h:∀i,i<k->f i=g i):enc f k=enc g k:=by
 induction k with
 |zero=>rfl
 |succ k ih=>simp only[enc];rw[ih (fun i hi=>h i o_),h k o_]
theorem afc_ {q k:Nat}(h:q<4^k):enc (dg q) k=q:=by
 have key:∀k,enc (dg q) k=q%4^k:=by
  intro k;induction k with
  |zero=>simp[enc,Nat.mod_one]
  |succ k ih=>
   simp only[enc,ih,dg];rw[Nat.pow_succ,Nat.mod_mul,Nat.mul_comm (4^k)]
 rw[key,Nat.mod_eq_of_lt h]
def sw (b x:Nat):Nat:=if x=b then 0 else if x=0 then b else x
theorem adf_ (b x:Nat):sw b (sw b x)=x:=by
 unfold sw;by_cases h1:x=b
 . subst h1;by_cases h2:x=0
   . simp[h2]
   . simp[Ne.symm h2]
 . by_cases h2:x=0
   . subst h2;simp[h1]
   . simp[h1,h2]
theorem adg_ {b x n:Nat}(hb:b<n)(hx:x<n):sw b x<n:=by unfold sw;split<;>(try split)<;>omega
def dc_ (most i:Nat):Nat:=min i (most+1)
def b0_ (t:Nat->Nat)(most:Nat)(r:Nat->Nat)(c:Nat):Nat->Nat
 |0=>min (r 0+1) (most+1)
 |i+1=>min (min (min (r (i+1)+1) (b0_ t most r c i+1)) (if t i=c then r i else r i+1)) (most+1)
theorem nv_ (t:Nat->Nat)(most:Nat)(r:Nat->Nat)(c i:Nat):b0_ t most r c i<=most+1:=by
 cases i with
 |zero=>simp only[b0_];omega
 |succ i=>simp only[b0_];omega
theorem uk_ {t:Nat->Nat}{most:Nat}{r r':Nat->Nat}{c i:Nat}(h:∀j,j<=i->r j=r' j):b0_ t most r c i=b0_ t most r' c i:=by
 induction i with
 |zero=>simp only[b0_,h 0 lr__]
 |succ i ih=>simp only[b0_];rw[ih (fun j hj=>h j o_),h (i+1) lr__,h i o_]
structure Ear where
 t:Nat->Nat
 m:Nat
 most:Nat
namespace Ear
variable (E:Ear)
def b0:Nat:=enc (dc_ E.most) (E.m+1)
def row (q i:Nat):Nat:=dg (sw E.b0 q) i
def num (r:Nat->Nat):Nat:=sw E.b0 (enc r (E.m+1))
def succ (q c:Nat):Nat:=E.num (b0_ E.t E.most (E.row q) c)
def good (q:Nat):Prop:=q<4^(E.m+1)
def tab (ps:List Nat):Tab where
 n:=ps.length
 acc k:=decide (E.row (ps.getD k 0) E.m<=E.most)
 nxt:=pn E.succ ps
variable {E}
theorem adh_ (h:E.most<=2):E.b0<4^(E.m+1):=s7_ (fun i _=>by unfold dc_;omega)
theorem ab8_ (h:E.most<=2){r:Nat->Nat}(hr:∀i,i<=E.m->r i<4):E.good (E.num r):=adg_ (adh_ h) (s7_ (fun i hi=>hr i o_))
theorem vn_ {r:Nat->Nat}(hr:∀i,i<=E.m->r i<4){i:Nat}(hi:i<=E.m):E.row (E.num r) i=r i:=by
 unfold row num;rw[adf_,afb_ (fun i hi=>hr i o_) o_]
theorem vo_ (h:E.most<=2){q:Nat}(hq:E.good q):E.num (E.row q)=q:=by
 unfold row num;rw[afc_ (adg_ (adh_ h) hq),adf_]
theorem zi_ {r r':Nat->Nat}(h:∀i,i<=E.m->r i=r' i):E.num r=E.num r':=by unfold num;rw[zh_ (fun i hi=>h i o_)]
theorem row_inj (h:E.most<=2){q q':Nat}(hq:E.good q)(hq':E.good q')(hr:∀i,i<=E.m->E.row q i=E.row q' i):q=q':=by
 rw[<-vo_ h hq,<-vo_ h hq',zi_ hr]
theorem row_zero (h:E.most<=2){i:Nat}(hi:i<=E.m):E.row 0 i=dc_ E.most i:=by
 have:E.num (dc_ E.most)=0:=by unfold num sw;rw[if_pos (show enc (dc_ E.most) (E.m+1)=E.b0 from rfl)]
 rw[<-this];exact vn_ (fun i _=>by unfold dc_;omega) hi
theorem vp_ (h:E.most<=2)(r:Nat->Nat)(c i:Nat):b0_ E.t E.most r c i<4:=by have:=nv_ E.t E.most r c i;omega
theorem succ_good (h:E.most<=2)(q c:Nat):E.good (E.succ q c):=ab8_ h (fun i _=>vp_ h _ c i)
theorem row_succ (h:E.most<=2)(q c:Nat){i:Nat}(hi:i<=E.m):E.row (E.succ q c) i=b0_ E.t E.most (E.row q) c i:=vn_ (fun i _=>vp_ h _ c i) hi
theorem row_lt (q i:Nat):E.row q i<4:=afu_ _ _
theorem good_zero:E.good 0:=Nat.pow_pos o_
theorem bound {ps:List Nat}{p:Nat}(hm:E.m<=12)(h:PRel E.good E.succ ps p):ps.length<=67108864:=by
 have h1:=d3_ (4^(E.m+1)) ps h.nd (fun x hx=>h.inr x hx);have h2:4^(E.m+1)<=4^13:=Nat.pow_le_pow_right o_ o_;omega
theorem numbered {ps:List Nat}(h:PRel E.good E.succ ps (8*ps.length)):cd_ (E.tab ps) where
 pos:=h.len
 nx i c hi hc:=by
  have:=(h.clo (8*i+c) (by have:i<ps.length:=hi;omega)).2;rw[show(8*i+c)/8=i by omega,show(8*i+c)%8=c by omega]at this;exact List.idxOf_lt_length_of_mem this
 step p hp:=h.num p hp
 row i hi:=h.row i (by have:i<ps.length:=hi;omega)
 all:=h.cm
def lang (E:Ear)(x:List Nat):Bool:=decide (E.row (x.foldl E.succ 0) E.m<=E.most)
theorem nh_ {ps:List Nat}(h:PRel E.good E.succ ps (8*ps.length))(k:Nat)(hk:k<ps.length)(x:List Nat)(hx:ax_ x):
 (E.tab ps).read k x<ps.length/\ps.getD ((E.tab ps).read k x) 0=x.foldl E.succ (ps.getD k 0):=by
 induction x generalizing k with
 |nil=>exact⟨hk,rfl⟩
 |cons c x ih=>
  have hc:c<8:=hx c i_;have hx':ax_ x:=fun d hd=>hx d (by simp[hd])
  have hcl:=(h.clo (8*k+c) o_).2;rw[show(8*k+c)/8=k by omega,show(8*k+c)%8=c by omega]at hcl;have hlt:(E.tab ps).nxt k c<ps.length:=List.idxOf_lt_length_of_mem hcl;have he:ps.getD ((E.tab ps).nxt k c) 0=E.succ (ps.getD k 0) c:=e1_ ps _ hcl;simp only[Tab.read,List.foldl_cons];have:=ih _ hlt hx';rw[he]at this;exact this
theorem tab_accepts {ps:List Nat}(h:PRel E.good E.succ ps (8*ps.length))(x:List Nat)(hx:ax_ x):(E.tab ps).accepts x=E.lang x:=by
 have:=nh_ h 0 h.len x hx;rw[h.hd]at this;simp only[Tab.accepts];show decide (E.row (ps.getD ((E.tab ps).read 0 x) 0) E.m<=E.most)=_
 rw[this.2];rfl
end Ear
theorem zj_ (a b:Nat)(w:World):
 Calls prog 165 #[.int .i64 a,.int .i64 b] w fun e w'=>e= .returned (.int .i64 ((min a b:Nat):Int))/\w'=w:=by
 by_cases h:a<b
 . rw[Nat.min_eq_left o_];have h':(a:Int)<(b:Int):=o_;go_enter func165,ntmps165;go_wp2
   go_ret;exact⟨rfl,rfl⟩
 . rw[Nat.min_eq_right o_];have h':¬(a:Int)<(b:Int):=o_;go_enter func165,ntmps165;go_wp2
   go_ret;exact⟨rfl,rfl⟩
def bf_ (f:Nat->Nat):Array Value:= #[.int .i64 ((f 0:Nat):Int),.int .i64 ((f 1:Nat):Int),.int .i64 ((f 2:Nat):Int),.int .i64 ((f 3:Nat):Int),.int .i64 ((f 4:Nat):Int),.int .i64 ((f 5:Nat):Int),.int .i64 ((f 6:Nat):Int),.int .i64 ((f 7:Nat):Int),.int .i64 ((f 8:Nat):Int),.int .i64 ((f 9:Nat):Int),.int .i64 ((f 10:Nat):Int),.int .i64 ((f 11:Nat):Int),.int .i64 ((f 12:Nat):Int)]
theorem dq_ {w:World}{b t:Nat}{f:Nat->Nat}(h:w.heap[b]? =some (.cells (bf_ f) t (0,0))):w.rowIs b t 13 (fun i=> .int .i64 ((f i:Nat):Int)):=by
 refine⟨_,h,rfl,fun i hi=> ?_⟩;rcases (show i=0\/i=1\/i=2\/i=3\/i=4\/i=5\/i=6\/i=7\/i=8\/i=9\/i=10\/i=11\/i=12 by omega)with rfl|rfl|rfl|rfl|rfl|rfl|rfl|rfl|rfl|rfl|rfl|rfl|rfl<;>rfl
theorem el_ {w:World}{b t:Nat}{f:Nat->Nat}(h:w.rowIs b t 13 (fun i=> .int .i64 ((f i:Nat):Int))):
 w.cell? ⟨b,0,none⟩=some (.int .i64 ((f 0:Nat):Int))/\w.cell? ⟨b,1,none⟩=some (.int .i64 ((f 1:Nat):Int))/\w.cell? ⟨b,2,none⟩=some (.int .i64 ((f 2:Nat):Int))/\w.cell? ⟨b,3,none⟩=some (.int .i64 ((f 3:Nat):Int))/\w.cell? ⟨b,4,none⟩=some (.int .i64 ((f 4:Nat):Int))/\w.cell? ⟨b,5,none⟩=some (.int .i64 ((f 5:Nat):Int))/\w.cell? ⟨b,6,none⟩=some (.int .i64 ((f 6:Nat):Int))/\w.cell? ⟨b,7,none⟩=some (.int .i64 ((f 7:Nat):Int))/\w.cell? ⟨b,8,none⟩=some (.int .i64 ((f 8:Nat):Int))/\w.cell? ⟨b,9,none⟩=some (.int .i64 ((f 9:Nat):Int))/\w.cell? ⟨b,10,none⟩=some (.int .i64 ((f 10:Nat):Int))/\w.cell? ⟨b,11,none⟩=some (.int .i64 ((f 11:Nat):Int))/\w.cell? ⟨b,12,none⟩=some (.int .i64 ((f 12:Nat):Int)):=
 ⟨h.cell (i:=0) o_,h.cell (i:=1) o_,h.cell (i:=2) o_,h.cell (i:=3) o_,h.cell (i:=4) o_,h.cell (i:=5) o_,h.cell (i:=6) o_,h.cell (i:=7) o_,h.cell (i:=8) o_,h.cell (i:=9) o_,h.cell (i:=10) o_,h.cell (i:=11) o_,h.cell (i:=12) o_⟩
theorem k4_ {w:World}{b t:Nat}{f:Nat->Value}(h:w.rowIs b t 13 f):
 w.frozen? ⟨b,0,none⟩=false/\w.frozen? ⟨b,1,none⟩=false/\w.frozen? ⟨b,2,none⟩=false/\w.frozen? ⟨b,3,none⟩=false/\w.frozen? ⟨b,4,none⟩=false/\w.frozen? ⟨b,5,none⟩=false/\w.frozen? ⟨b,6,none⟩=false/\w.frozen? ⟨b,7,none⟩=false/\w.frozen? ⟨b,8,none⟩=false/\w.frozen? ⟨b,9,none⟩=false/\w.frozen? ⟨b,10,none⟩=false/\w.frozen? ⟨b,11,none⟩=false/\w.frozen? ⟨b,12,none⟩=false:=
 ⟨h.frozen 0,h.frozen 1,h.frozen 2,h.frozen 3,h.frozen 4,h.frozen 5,h.frozen 6,h.frozen 7,h.frozen 8,h.frozen 9,h.frozen 10,h.frozen 11,h.frozen 12⟩
def g4_ (w:World)(b:Nat)(f:Nat->Nat):World:=(((((((((((((w.setCell ⟨b,0,none⟩ (.int .i64 ((f 0:Nat):Int))).setCell ⟨b,1,none⟩ (.int .i64 ((f 1:Nat):Int))).setCell ⟨b,2,none⟩ (.int .i64 ((f 2:Nat):Int))).setCell ⟨b,3,none⟩ (.int .i64 ((f 3:Nat):Int))).setCell ⟨b,4,none⟩ (.int .i64 ((f 4:Nat):Int))).setCell ⟨b,5,none⟩ (.int .i64 ((f 5:Nat):Int))).setCell ⟨b,6,none⟩ (.int .i64 ((f 6:Nat):Int))).setCell ⟨b,7,none⟩ (.int .i64 ((f 7:Nat):Int))).setCell ⟨b,8,none⟩ (.int .i64 ((f 8:Nat):Int))).setCell ⟨b,9,none⟩ (.int .i64 ((f 9:Nat):Int))).setCell ⟨b,10,none⟩ (.int .i64 ((f 10:Nat):Int))).setCell ⟨b,11,none⟩ (.int .i64 ((f 11:Nat):Int))).setCell ⟨b,12,none⟩ (.int .i64 ((f 12:Nat):Int)))
theorem mc_ {w:World}{b t:Nat}{g:Nat->Value}(f:Nat->Nat)(h:w.rowIs b t 13 g):(g4_ w b f).rowIs b t 13 (fun i=> .int .i64 ((f i:Nat):Int)):=by
 unfold g4_;refine((((((((((((((h.set 0 _).set 1 _).set 2 _).set 3 _).set 4 _).set 5 _).set 6 _).set 7 _).set 8 _).set 9 _).set 10 _).set 11 _).set 12 _)).congr (fun i hi=> ?_);rcases (show i=0\/i=1\/i=2\/i=3\/i=4\/i=5\/i=6\/i=7\/i=8\/i=9\/i=10\/i=11\/i=12 by omega)with rfl|rfl|rfl|rfl|rfl|rfl|rfl|rfl|rfl|rfl|rfl|rfl|rfl<;>simp
theorem j0_ {W w:World}{B b:Nat}(f:Nat->Nat)(h:Below B W w)(hb:B<=b):Below B W (g4_ w b f):=by
 unfold g4_;exact(((((((((((((h.setCell hb _).setCell hb _).setCell hb _).setCell hb _).setCell hb _).setCell hb _).setCell hb _).setCell hb _).setCell hb _).setCell hb _).setCell hb _).setCell hb _).setCell hb _)
theorem ab9_ (s:ByteArray)(most:Nat)(w:World)(hs:s.size<=12)(hm:most<=2):
 Calls prog 135 #[.agg #[.string s,.int .i64 most]] w fun e w'=>e= .returned (.agg (bf_ (fun i=>if i<=s.size then dc_ most i else 0)))/\Below w.heap.size w w':=by
 obtain⟨W,hW,BW,b0,b1,b2⟩:=n3__ w #[.string s,.int .i64 most] 115 (bf_ (fun _=>0)) 171 (bf_ (fun _=>0)) 171;have hWs:W.heap.size=w.heap.size+1+1+1:=by rw[hW];simp
 have r2:=dq_ b2;unfold bf_ at hW;go_enter func135,ntmps135;go_wp2_with fail;simp only[Int.ofNat_zero]at hW;rw[<-hW];clear hW;go_loopw [4] (fun i' wr=>∃i:Nat,i<=s.size+1/\i'= .int .i64 i/\Below (w.heap.size+1+1) W wr/\wr.rowIs (w.heap.size+1+1) 171 13 (fun j=> .int .i64 (((if j<i then dc_ most j else 0):Nat):Int))) (fun i' _=>s.size+1 - (intOf i').toNat)
 case atStart=>exact⟨0,o_,rfl,br__,r2.congr (fun j _=>i_)⟩
 case round=>
  obtain⟨i,hi,rfl,hb,hr⟩:=hrel;clear r2;obtain⟨x0,x1,_,_⟩:=aa_ ((hb.block _ o_).trans b0);by_cases hlt:i<=s.size
  . have c0:=hr.cell (i:=i) o_;have c1:=hr.frozen i;have HC:=zj_ i (most+1) wr;rw[show((most+1:Nat):Int)=(most:Int)+1 by simp]at HC;have HR:Hid (wr.rowIs (w.heap.size+1+1) 171 13 (fun j=> .int .i64 (((if j<i then dc_ most j else 0):Nat):Int))):=hr;have HB:Hid _:=hb;clear hr hb;go_wp2_with fail;refine HC.mono ?_;rintro e w' ⟨rfl,hw'⟩;obtain rfl:wr=w':=hw'.symm;clear HC;go_wp2_with fail;go_roundw
    case rel=>
     refine⟨i+1,o_,by go_num,HB.out.setCell (p:=⟨w.heap.size+1+1,i,none⟩) lr__ _,(HR.out.set i _).congr (fun j _=> ?_)⟩;by_cases e:j=i
     . subst e;simp[dc_]
     . by_cases h':j<i
       . simp only[e,h',if_false,if_true];rw[if_pos o_]
       . simp only[e,h',if_false];rw[if_neg o_]
    case measure=>simp[intOf];omega
  . have hle:¬(i:Int)<=(s.size:Int):=o_;have hr':wr.rowIs (w.heap.size+1+1) 171 13 (fun j=> .int .i64 (((if j<=s.size then dc_ most j else 0):Nat):Int)):=hr.congr (fun j _=>by
     by_cases h':j<i
     . rw[if_pos h',if_pos o_]
     . rw[if_neg h',if_neg o_])
    clear hr;obtain⟨f,hf⟩:∃f:Nat->Nat,f=(fun j=>if j<=s.size then dc_ most j else 0):=⟨_,rfl⟩;have HF:Hid (wr.rowIs (w.heap.size+1+1) 171 13 (fun j=> .int .i64 ((f j:Nat):Int))):=by rw[hf];exact hr'
    have HFF:Hid (f=(fun j=>if j<=s.size then dc_ most j else 0)):=hf;clear hr' hf;obtain⟨c0,c1,c2,c3,c4,c5,c6,c7,c8,c9,c10,c11,c12⟩:=el_ HF.out;have r1:=(dq_ b1).of_block (hb.block _ o_);obtain⟨d0,d1,d2,d3,d4,d5,d6,d7,d8,d9,d10,d11,d12⟩:=el_ r1;obtain⟨e0,e1,e2,e3,e4,e5,e6,e7,e8,e9,e10,e11,e12⟩:=k4_ r1;have HR1:Hid (wr.rowIs (w.heap.size+1) 171 13 (fun _=> .int .i64 ((0:Nat):Int))):=r1;have HB:Hid _:=hb;clear r1 hb;go_wp2_with fail;obtain⟨W9,hW9⟩:=ew__ (g4_ wr (w.heap.size+1) f);have hr9:=mc_ f HR1.out;have hb9:Below w.heap.size w (g4_ wr (w.heap.size+1) f):=j0_ f (BW.trans (HB.out.mono o_)) o_;rw[<-hW9]at hr9 hb9;unfold g4_ at hW9;rw[<-hW9];clear hW9 c0 c1 c2 c3 c4 c5 c6 c7 c8 c9 c10 c11 c12;obtain⟨c0,c1,c2,c3,c4,c5,c6,c7,c8,c9,c10,c11,c12⟩:=el_ hr9;refine bodyPost_ret (v:= .agg (bf_ f)) (by simp[results,results135,go_sem,bf_,c0,c1,c2,c3,c4,c5,c6,c7,c8,c9,c10,c11,c12]) rfl ?_;exact⟨by rw[HFF.out],hb9⟩
def ay_ (s:ByteArray)(i:Nat):Nat:=(s.data.toList.getD i 0).toNat - 97
theorem k5_ (a b:Int)(w:World):
 Calls prog 165 #[.int .i64 a,.int .i64 b] w fun e w'=>e= .returned (.int .i64 (min a b))/\w=w':=by
 by_cases h:a<b
 . rw[show min a b=a by omega];go_enter func165,ntmps165;go_wp2
   go_ret;exact⟨rfl,rfl⟩
 . rw[show min a b=b by omega];go_enter func165,ntmps165;go_wp2
   go_ret;exact⟨rfl,rfl⟩
theorem nc_ (b:Int)(w:World)(h1:97<=b)(h2:b<=104):
 Calls prog 121 #[.int .u8 b] w fun e w'=>e= .returned (.tuple #[.int .i64 (b - 97),.bool true])/\w=w':=
 (kw_ b w h1 h2).mono (fun e w' h=>⟨h.1,h.2.symm⟩)
theorem qo_ {s:ByteArray}{i:Nat}(h:i<s.size):ay_ s i=s[i].toNat - 97:=by unfold ay_;rw[l6_ s i h]
theorem aeh_ (s:ByteArray)(most c:Nat)(f:Nat->Nat)(w:World)(hs:s.size<=12)(hm:most<=2)(ht:ed_ s)(hf:∀i,i<=12->f i<=3):
 Calls prog 136 #[.agg #[.string s,.int .i64 most],.agg (bf_ f),.int .i64 c] w fun e w'=>e= .returned (.agg (bf_ (fun i=>if i<=s.size then b0_ (ay_ s) most f c i else 0)))/\Below w.heap.size w w':=by
 obtain⟨W,hW⟩:=ew__ ((((w.alloc (.cells #[.string s,.int .i64 most] 115)).alloc (.cells (bf_ f) 171)).alloc (.cells (bf_ (fun _=>0)) 171)).alloc (.cells (bf_ (fun _=>0)) 171));have BW:Below w.heap.size w W:=by
  rw[hW];exact((ba__.alloc i_ _).alloc s_ _).alloc s_ _
 have hWs:W.heap.size=w.heap.size+1+1+1+1:=by rw[hW];simp
 have b0:W.heap[w.heap.size]? =some (.cells #[.string s,.int .i64 most] 115 (0,0)):=by rw[hW];exact ah_ (ah_ (ah_ (ag_ i_)))
 have b1:W.heap[w.heap.size+1]? =some (.cells (bf_ f) 171 (0,0)):=by rw[hW];exact ah_ (ah_ (ag_ i_))
 have b2:W.heap[w.heap.size+1+1]? =some (.cells (bf_ (fun _=>0)) 171 (0,0)):=by rw[hW];exact ah_ (ag_ i_)
 have b3:W.heap[w.heap.size+1+1+1]? =some (.cells (bf_ (fun _=>0)) 171 (0,0)):=by rw[hW];exact ag_ i_
 have r1:=dq_ b1;have r3:=dq_ b3;rw[show bf_ (fun _=>0)= #[.int .i64 0,.int .i64 0,.int .i64 0,.int .i64 0,.int .i64 0,.int .i64 0,.int .i64 0,.int .i64 0,.int .i64 0,.int .i64 0,.int .i64 0,.int .i64 0,.int .i64 0]from rfl]at hW;obtain⟨x0,x1,_,_⟩:=aa_ b0;have c0:=r1.cell (i:=0) o_;have c1:=r3.cell (i:=0) o_;have c2:=r3.frozen 0;go_enter func136,ntmps136;go_upto_region 2 with fail;rw[<-hW];clear hW;have f0:=hf 0 o_;go_wp2_with (go_at_call 165;refine(k5_ _ _ _).mono ?_;rintro e w' ⟨rfl,rfl⟩);have P0:(W.setCell ⟨w.heap.size+1+1+1,0,none⟩ (.int .i64 (min (f 0:Int) (most:Int)+1))).rowIs (w.heap.size+1+1+1) 171 13 (fun j=> .int .i64 (((if j<=0 then b0_ (ay_ s) most f c j else 0):Nat):Int)):=by
  refine(r3.set 0 _).congr (fun j _=> ?_);by_cases e:j=0
  . subst e;simp[b0_];omega
  . simp[e]
 have B0:Below (w.heap.size+1+1+1) W (W.setCell ⟨w.heap.size+1+1+1,0,none⟩ (.int .i64 (min (f 0:Int) (most:Int)+1))):=br__.setCell (p:=⟨w.heap.size+1+1+1,0,none⟩) lr__ _;clear r3 c0 c1 c2 x0 x1;go_loopw [8,9,10,11,12,13,14] (fun i' _ _ _ _ _ _ wr=>∃i:Nat,i<=s.size/\i'= .int .i64 i/\Below (w.heap.size+1+1+1) W wr/\wr.rowIs (w.heap.size+1+1+1) 171 13 (fun j=> .int .i64 (((if j<=i then b0_ (ay_ s) most f c j else 0):Nat):Int)))
  (fun i' _ _ _ _ _ _ _=>s.size - (intOf i').toNat)
 case atStart=>exact⟨0,o_,rfl,B0,P0⟩
 case round=>
  obtain⟨i,hi,rfl,hb,hr⟩:=hrel;clear P0 B0;obtain⟨x0,x1,_,_⟩:=aa_ ((hb.block _ o_).trans b0);by_cases hlt:i<s.size
  . have hch:=jb_ ht i hlt;have hno:=qo_ hlt;have q1:=r1.of_block (hb.block _ o_);have c0:=q1.cell (i:=i) o_;have c1:=q1.cell (i:=i+1) o_;have d0:=hr.cell (i:=i) o_;have d1:=hr.cell (i:=i+1) o_;have d2:=hr.frozen (i+1);have f0:=hf i o_;have f1:=hf (i+1) o_;have hnl:=nv_ (ay_ s) most f c i;simp only[Nat.le_refl,if_true]at d0;rw[if_neg o_]at d1;have HS:Hid (b0_ (ay_ s) most f c (i+1)=min (min (min (f (i+1)+1) (b0_ (ay_ s) most f c i+1)) (if ay_ s i=c then f i else f i+1)) (most+1)):=rfl;obtain⟨hh,HH⟩:=hx__ (b0_ (ay_ s) most f c i);have HR:Hid (wr.rowIs (w.heap.size+1+1+1) 171 13 (fun j=> .int .i64 (((if j<=i then b0_ (ay_ s) most f c j else 0):Nat):Int))):=hr;have HB:Hid _:=hb;rw[HH.out]at d0 hnl HS;clear hr hb q1;by_cases hsame:ay_ s i=c
    . rw[if_pos hsame]at HS;have hb1:(((s[i].toNat:Int)- 97) !=(c:Int))=false:=s_;go_wp2_with (first|(go_at_call 121;refine(nc_ _ _ hch.1 hch.2).mono ?_;rintro e w' ⟨rfl,rfl⟩)|(go_at_call 165;refine(k5_ _ _ _).mono ?_;rintro e w' ⟨rfl,rfl⟩));go_roundw
      case rel=>
       refine⟨i+1,o_,by go_num,HB.out.setCell (p:=⟨w.heap.size+1+1+1,i+1,none⟩) lr__ _,(HR.out.set (i+1) _).congr (fun j _=> ?_)⟩;by_cases e:j=i+1
       . subst e;simp only[if_true,Nat.le_refl];rw[HS.out];congr 1
         omega
       . simp only[if_neg e];by_cases h':j<=i
         . rw[if_pos h',if_pos o_]
         . rw[if_neg h',if_neg o_]
      case measure=>simp[intOf];omega
    . rw[if_neg hsame]at HS;have hb1:(((s[i].toNat:Int)- 97) !=(c:Int))=true:=s_;go_wp2_with (first|(go_at_call 121;refine(nc_ _ _ hch.1 hch.2).mono ?_;rintro e w' ⟨rfl,rfl⟩)|(go_at_call 165;refine(k5_ _ _ _).mono ?_;rintro e w' ⟨rfl,rfl⟩));go_roundw
      case rel=>
       refine⟨i+1,o_,by go_num,HB.out.setCell (p:=⟨w.heap.size+1+1+1,i+1,none⟩) lr__ _,(HR.out.set (i+1) _).congr (fun j _=> ?_)⟩;by_cases e:j=i+1
       . subst e;simp only[if_true,Nat.le_refl];rw[HS.out];congr 1
         omega
       . simp only[if_neg e];by_cases h':j<=i
         . rw[if_pos h',if_pos o_]
         . rw[if_neg h',if_neg o_]
      case measure=>simp[intOf];omega
  . have he:i=s.size:=o_;subst he;obtain⟨g,hg⟩:∃g:Nat->Nat,g=(fun j=>if j<=s.size then b0_ (ay_ s) most f c j else 0):=⟨_,rfl⟩;have HF:Hid (wr.rowIs (w.heap.size+1+1+1) 171 13 (fun j=> .int .i64 ((g j:Nat):Int))):=by rw[hg];exact hr
    have HFF:Hid (g=(fun j=>if j<=s.size then b0_ (ay_ s) most f c j else 0)):=hg;clear hr hg r1;obtain⟨c0,c1,c2,c3,c4,c5,c6,c7,c8,c9,c10,c11,c12⟩:=el_ HF.out;have r1:=(dq_ b2).of_block (hb.block _ o_);obtain⟨d0,d1,d2,d3,d4,d5,d6,d7,d8,d9,d10,d11,d12⟩:=el_ r1;obtain⟨e0,e1,e2,e3,e4,e5,e6,e7,e8,e9,e10,e11,e12⟩:=k4_ r1;have HR1:Hid (wr.rowIs (w.heap.size+1+1) 171 13 (fun _=> .int .i64 ((0:Nat):Int))):=r1;have HB:Hid _:=hb;clear r1 hb;go_wp2_with fail;obtain⟨W9,hW9⟩:=ew__ (g4_ wr (w.heap.size+1+1) g);have hr9:=mc_ g HR1.out;have hb9:Below w.heap.size w (g4_ wr (w.heap.size+1+1) g):=j0_ g (BW.trans (HB.out.mono o_)) o_;rw[<-hW9]at hr9 hb9;unfold g4_ at hW9;rw[<-hW9];clear hW9 c0 c1 c2 c3 c4 c5 c6 c7 c8 c9 c10 c11 c12;obtain⟨c0,c1,c2,c3,c4,c5,c6,c7,c8,c9,c10,c11,c12⟩:=el_ hr9;refine bodyPost_ret (v:= .agg (bf_ g)) (by simp[results,results136,go_sem,bf_,c0,c1,c2,c3,c4,c5,c6,c7,c8,c9,c10,c11,c12]) rfl ?_;exact⟨by rw[HFF.out],hb9⟩
theorem nw_ {P:Program}(w:World)(d:Nat)(t e:TypeId)(n:Nat)(ht:P.underlying t=some (.array n e))(he:P.underlying e=some (.int .i64))(hsz:∀w,(sizeOf e).run P w= .ok 1 w)(f g:Nat->Nat):
 (Op.equalIn (d+2) t (.agg ((List.range n).map fun i=>Value.int .i64 ((f i:Nat):Int)).toArray) (.agg ((List.range n).map fun i=>Value.int .i64 ((g i:Nat):Int)).toArray)).run P w= .ok ((List.range n).all fun i=>f i==g i) w:=by
 rw[Op.equalIn];simp only[Sem.run_bind,run_underlying ht,Result.andThen_ok,hsz,Std.Legacy.Range.forIn_eq_forIn_range',Std.Legacy.Range.size,Nat.sub_zero,Nat.add_sub_cancel,Nat.div_one];have hl:∀i∈List.range' 0 n 1,i<n:=fun i hi=>by simpa using (List.mem_range'_1.1 hi).2
 conv=>rhs;rw[List.range_eq_range']
 generalize List.range' 0 n 1=l at hl ⊢;induction l with
 |nil=>simp
 |cons i l ih=>
  have hi:i<n:=hl i i_;have px:(part e ((List.range n).map fun i=>Value.int .i64 ((f i:Nat):Int)).toArray (i*1)).run P w= .ok (.int .i64 ((f i:Nat):Int)) w:=by
   simp[part,isAgg,run_underlying he,hi]
  have py:(part e ((List.range n).map fun i=>Value.int .i64 ((g i:Nat):Int)).toArray (i*1)).run P w= .ok (.int .i64 ((g i:Nat):Int)) w:=by
   simp[part,isAgg,run_underlying he,hi]
  have pe:(Op.equalIn (d+1) e (.int .i64 ((f i:Nat):Int)) (.int .i64 ((g i:Nat):Int))).run P w= .ok (f i==g i) w:=by
   rw[run_equalIn_int w d e .i64 .i64 _ _ he];congr 1
   rw[Bool.eq_iff_iff];simp only[beq_iff_eq];constructor<;>intro h<;>omega
  simp only[List.forIn_cons,Sem.run_bind,px,py,pe,Result.andThen_ok,List.all_cons];cases hb:(f i==g i)
  . simp
  . simp only[Bool.not_true,Bool.false_eq_true,if_false,Sem.run_pure,Result.andThen_ok,Bool.true_and];exact ih fun j hj=>hl j (by simp[hj])
theorem aca_ (f g:Nat->Nat)(w:World):Sem.run prog (Op.equalIn 10000 171 (.agg (bf_ f)) (.agg (bf_ g))) w= .ok ((List.range 13).all fun i=>f i==g i) w:=by
 obtain⟨i3,hi3,hz3,hz31,hz32⟩:=info_parts du_;have h:=nw_ (P:=prog) w 9998 171 3 13 underlying171 underlying3 (fun w=>by rw[run_sizeOf w hi3];simp[Program.cellsOf,hi3,hz31]) f g;have e1:bf_ f=((List.range 13).map fun i=>Value.int .i64 ((f i:Nat):Int)).toArray:=rfl;have e2:bf_ g=((List.range 13).map fun i=>Value.int .i64 ((g i:Nat):Int)).toArray:=rfl;rw[e1,e2,h]
theorem acb_ (ao:Option Addr)(g n cap:Nat)(F:Nat->Nat->Nat)(f:Nat->Nat)(w:World)(hn:n<=100000000)(ho:0<n->ao=some ⟨g,0,none⟩)(hc:∀k i,k<n->i<13->w.cell? ⟨g,k*13+i,none⟩=some (.int .i64 ((F k i:Nat):Int))):
 Calls prog 137 #[.slice ao n cap,.agg (bf_ f)] w fun e w'=>Below w.heap.size w w'/\∃k,e= .returned (.int .i64 ((k:Nat):Int))/\k<=n/\(k<n->∀i,i<13->F k i=f i)/\∀j,j<k->∃i,i<13/\F j i≠f i:=by
 obtain⟨W,hW,BW,-,-⟩:=nw__ w (bf_ f) 171;have hWs:W.heap.size=w.heap.size+1:=by rw[hW];simp
 have b0:=hn__ hW;go_enter func137,ntmps137;go_wp2_with fail;rw[<-hW];clear hW;go_loopw [5,6,9] (fun _ _ k' wr=>∃k:Nat,k<=n/\k'= .int .i64 k/\Below (w.heap.size+1) W wr/\∀j,j<k->∃i,i<13/\F j i≠f i)
  (fun _ _ k' _=>n - (intOf k').toNat)
 case atStart=>exact⟨0,o_,rfl,br__,fun j hj=>absurd hj o_⟩
 case round=>
  obtain⟨k,hk,rfl,hb,hno⟩:=hrel;have hbw:Below w.heap.size w wr:=BW.trans (hb.mono o_);have hbs:=hb.size;by_cases hlt:k<n
  . obtain rfl:=ho o_;have hgl:g<w.heap.size:=an_ (hc k 0 hlt o_);have hcc:∀i,i<13->wr.cell? ⟨g,k*13+i,none⟩=some (.int .i64 ((F k i:Nat):Int)):=fun i hi=>by rw[hbw.cell (p:=⟨g,k*13+i,none⟩) hgl];exact hc k i hlt hi
    have c0:=hcc 0 o_;have c1:=hcc 1 o_;have c2:=hcc 2 o_;have c3:=hcc 3 o_;have c4:=hcc 4 o_;have c5:=hcc 5 o_;have c6:=hcc 6 o_;have c7:=hcc 7 o_;have c8:=hcc 8 o_;have c9:=hcc 9 o_;have c10:=hcc 10 o_;have c11:=hcc 11 o_;have c12:=hcc 12 o_;simp only[Nat.add_zero]at c0;clear hcc;go_upto_region 4 with fail;obtain⟨W4,hW4,-,-,-⟩:=nw__ wr (bf_ (F k)) 171;have hB4:Below (w.heap.size+1) W W4:=by rw[hW4];exact hb.alloc o_ _
    have hr4:=dq_ (w:=W4) (b:=wr.heap.size) (t:=171) (f:=F k) (by rw[hW4];exact ag_ rfl);unfold bf_ at hW4;rw[<-hW4];clear hW4 c0 c1 c2 c3 c4 c5 c6 c7 c8 c9 c10 c11 c12;obtain⟨c0,c1,c2,c3,c4,c5,c6,c7,c8,c9,c10,c11,c12⟩:=el_ hr4;obtain⟨d0,d1,d2,d3,d4,d5,d6,d7,d8,d9,d10,d11,d12⟩:=el_ ((dq_ b0).of_block (hB4.block _ o_));have he:=aca_ (F k) f W4;obtain⟨bb,HBB⟩:=hx__ ((List.range 13).all fun i=>F k i==f i);rw[HBB.out]at he;unfold bf_ at he;have HB:Hid _:=hB4;have HN:Hid _:=hno;clear hr4 hb hbw hno hB4;cases bb
    . go_wp2_with fail;go_roundw
      case rel=>
       refine⟨k+1,o_,by go_num,HB.out,fun j hj=> ?_⟩;by_cases e:j=k
       . subst e;have:=HBB.out;rw[List.all_eq_false]at this;obtain⟨i,hi,hne⟩:=this;exact⟨i,by simpa using hi,by simpa using hne⟩
       . exact HN.out j o_
      case measure=>simp[intOf];omega
    . go_wp2_with fail;go_ret;refine⟨BW.trans (HB.out.mono o_),k,rfl,o_,fun _ i hi=> ?_,HN.out⟩;have:=HBB.out;rw[List.all_eq_true]at this;simpa using this i (by simpa using hi)
  . have he:k=n:=o_;subst he;go_wp2_with fail;go_ret;exact⟨hbw,k,rfl,lr__,fun h'=>absurd h' o_,hno⟩
def hv (E:Ear)(q i:Nat):Nat:=if i<=E.m then E.row q i else 0
def hcells (X:Nat->Nat->Nat):Nat->List Value
 |0=> []
 |k+1=>hcells X k++(List.range 13).map fun c=> .int .i64 ((X k c:Nat):Int)
theorem k6_ (X:Nat->Nat->Nat)(k:Nat):(hcells X k).length=k*13:=by
 induction k with
 |zero=>rfl
 |succ k ih=>simp only[hcells,List.length_append,ih,List.length_map,List.length_range];omega
theorem zk_ (X:Nat->Nat->Nat)(k i c:Nat)(hi:i<k)(hc:c<13):(hcells X k)[i*13+c]? =some (.int .i64 ((X i c:Nat):Int)):=by
 induction k with
 |zero=>omega
 |succ k ih=>
  simp only[hcells];by_cases e:i=k
  . subst e;rw[List.getElem?_append_right (by rw[k6_];omega),k6_,show i*13+c - i*13=c by omega];simp[hc]
  . rw[List.getElem?_append_left (by rw[k6_];omega)];exact ih o_
theorem s8_ {X Y:Nat->Nat->Nat}{k:Nat}(h:∀i c,i<k->c<13->X i c=Y i c):hcells X k=hcells Y k:=by
 induction k with
 |zero=>rfl
 |succ k ih=>
  simp only[hcells];rw[ih (fun i c hi hc=>h i c o_ hc)];congr 1
  apply List.map_congr_left;intro c hc;rw[h k c o_ (by simpa using hc)]
section
variable {w w2:World}
theorem hx_ {base base' e e' s s' n n':Nat}{v v':Value}{x x':List Value}(h:w.ownsRow base e s v n x)(h':w.ownsRow base' e' s' v' n' x')(hne:e≠e')(g:Nat)(hg:v.ownBlock=some g)(hg':v'.ownBlock=some g):False:=by
 rcases h.2 with ⟨rfl,_⟩|⟨a,cap,cur,rfl,_,h1,_⟩
 . simp[Value.ownBlock]at hg
 . rcases h'.2 with ⟨rfl,_⟩|⟨a',cap',cur',rfl,_,h2,_⟩
   . simp[Value.ownBlock]at hg'
   . simp only[Value.ownBlock,Option.some.injEq]at hg hg';subst hg;subst hg';rw[h1]at h2;simp only[Option.some.injEq,Obj.cells.injEq]at h2;exact hne h2.2.1
theorem my_ {base e s n t b m:Nat}{v:Value}{x:List Value}{f:Nat->Value}(h:w.ownsRow base e s v n x)(hb:w.rowIs b t m f)(hne:e≠t)(g:Nat)(hg:v.ownBlock=some g):g≠b:=by
 obtain⟨c,hb,_,_⟩:=hb;rcases h.2 with ⟨rfl,_⟩|⟨a,cap,cur,rfl,_,h1,_⟩
 . simp[Value.ownBlock]at hg
 . simp only[Value.ownBlock,Option.some.injEq]at hg;subst hg;rintro rfl;rw[h1]at hb;simp only[Option.some.injEq,Obj.cells.injEq]at hb;exact hne hb.2.1
theorem qp_ {base base' e e' s s' n n':Nat}{v v':Value}{x x':List Value}(h:w.ownsRow base e s v n x)(h':w.ownsRow base' e' s' v' n' x')(hne:e≠e')(hg:w.grownBy w2 v'.ownBlock):w2.ownsRow base e s v n x:=by
 refine h.kept hg ?_;cases hv:v.ownBlock with
 |none=>exact .inl rfl
 |some k=>exact .inr (fun e=>hx_ h h' hne k hv e.symm)
end
structure WMem (W:World)(gw:Nat)(w:World)(X:Nat->Nat->Nat)(n:Nat)(vs va vn:Value)(k:Nat)(xa xn:List Value):Prop where
 blw:Below gw W w
 blk:w.heap[gw]? =some (.cells #[va,vn] 169 (0,0))
 own0:w.ownsRow (gw+1) 4 1 va k xa
 own1:w.ownsRow (gw+1) 174 8 vn k xn
 own2:w.ownsRow (gw+1) 171 13 vs n (hcells X n)
structure cw_ (W:World)(gw H:Nat)(w:World)(X:Nat->Nat->Nat)(n:Nat)(vs va vn:Value)(k:Nat)(xa xn:List Value)(r:Nat->Nat):Prop where
 mem:WMem W gw w X n vs va vn k xa xn
 rw:w.rowIs H 174 8 (fun c=> .int .i64 ((r c:Nat):Int))
 lo:gw+1<=H
 dn:∀g,vn.ownBlock=some g->g≠H
section
variable {W:World} {gw H:Nat} {w w1 w2:World} {X:Nat->Nat->Nat} {n:Nat} {vs va vn:Value} {k:Nat} {xa xn:List Value} {r:Nat->Nat}
theorem WMem.below (h:WMem W gw w X n vs va vn k xa xn)(hb:Below w.heap.size w w1):WMem W gw w1 X n vs va vn k xa xn:=
 ⟨h.blw.trans (hb.mono (by have:=ac_ h.blk;omega)),(hb.block _ (ac_ h.blk)).trans h.blk,al_ h.own0 hb,al_ h.own1 hb,al_ h.own2 hb⟩
theorem cw_.below (h:cw_ W gw H w X n vs va vn k xa xn r)(hb:Below w.heap.size w w1):cw_ W gw H w1 X n vs va vn k xa xn r:=
 ⟨h.mem.below hb,h.rw.of_block (hb.block _ h.rw.lt),h.lo,h.dn⟩
theorem WMem.round (h:WMem W gw w X n vs va vn k xa xn):cw_ W gw w.heap.size (w.alloc (.cells #[.int .i64 0,.int .i64 0,.int .i64 0,.int .i64 0,.int .i64 0,.int .i64 0,.int .i64 0,.int .i64 0] 174)) X n vs va vn k xa xn (fun _=>0):=by
 refine⟨h.below ba__,⟨_,ag_ rfl,rfl,fun i hi=> ?_⟩,by have:=ac_ h.blk;omega,fun g hg=>by have:=(h.own1.lt g hg).2;omega⟩;rcases (show i=0\/i=1\/i=2\/i=3\/i=4\/i=5\/i=6\/i=7 by omega)with rfl|rfl|rfl|rfl|rfl|rfl|rfl|rfl<;>rfl
theorem cw_.put (h:cw_ W gw H w X n vs va vn k xa xn r)(c v:Nat):cw_ W gw H (w.setCell ⟨H,c,none⟩ (.int .i64 (v:Int))) X n vs va vn k xa xn (fun x=>if x=c then v else r x):=by
 have hm:=h.mem;have hlo:=h.lo;refine⟨⟨hm.blw.setCell (p:=⟨H,c,none⟩) s_ _,aj_ hm.blk s_,bb_ hm.own0 _ _ (fun g hg=>my_ hm.own0 h.rw d_ g hg),bb_ hm.own1 _ _ (fun g hg=>h.dn g hg),bb_ hm.own2 _ _ (fun g hg=>my_ hm.own2 h.rw d_ g hg)⟩,(h.rw.set c _).congr (fun x _=> ?_),h.lo,h.dn⟩;by_cases e:x=c
 . simp[e]
 . simp[e]
theorem cw_.rcongr (h:cw_ W gw H w X n vs va vn k xa xn r){r':Nat->Nat}(e:∀x,x<8->r x=r' x):cw_ W gw H w X n vs va vn k xa xn r':=
 ⟨h.mem,h.rw.congr (fun x hx=>by rw[e x hx]),h.lo,h.dn⟩
theorem cw_.xcongr (h:cw_ W gw H w X n vs va vn k xa xn r){X':Nat->Nat->Nat}(e:∀i c,i<n->c<13->X i c=X' i c):cw_ W gw H w X' n vs va vn k xa xn r:=
 ⟨⟨h.mem.blw,h.mem.blk,h.mem.own0,h.mem.own1,by have:=h.mem.own2;rw[s8_ e]at this;exact this⟩,h.rw,h.lo,h.dn⟩
theorem cw_.grown (h:cw_ W gw H w X n vs va vn k xa xn r){g cap:Nat}(hown:w2.ownsRow (gw+1) 171 13 (.slice (some ⟨g,0,none⟩) (n+1) cap) (n+1) (hcells X n++(List.range 13).map fun c=> .int .i64 ((X n c:Nat):Int)))(hg:w.grownBy w2 vs.ownBlock):
 cw_ W gw H w2 X (n+1) (.slice (some ⟨g,0,none⟩) (n+1) cap) va vn k xa xn r:=by
 have hm:=h.mem;have hsz:=ac_ hm.blk;refine⟨⟨hm.blw.grown hg o_ (fun x e=>by have:=(hm.own2.lt x e).1;omega), ?_,qp_ hm.own0 hm.own2 d_ hg,qp_ hm.own1 hm.own2 d_ hg,hown⟩,gj_ h.rw hg (fun e=>my_ hm.own2 h.rw d_ H e rfl),h.lo,h.dn⟩;rw[hg.block _ hsz (fun e=>by have:=(hm.own2.lt _ e.symm).1;omega)];exact hm.blk
theorem cw_.add (h:cw_ W gw H w X n vs va vn k xa xn r){va' vn':Value}{ya yn:List Value}(hb:w2.heap[gw]? =some (.cells #[va',vn'] 169 (0,0)))
 (h0:w2.ownsRow (gw+1) 4 1 va' (k+1) ya) (h1:w2.ownsRow (gw+1) 174 8 vn' (k+1) yn)
 (ht:ab_ (fun b=>b=gw\/va.ownBlock=some b\/vn.ownBlock=some b) w w2):WMem W gw w2 X n vs va' vn' (k+1) ya yn:=by
 have hm:=h.mem;have hsz:=ac_ hm.blk;refine⟨ht.below hm.blw o_ ?_,hb,h0,h1,ht.own hm.own2 ?_⟩
 . rintro x (rfl|e|e)
   . omega
   . have:=(hm.own0.lt _ e).1;omega
   . have:=(hm.own1.lt _ e).1;omega
 . rintro g hg (rfl|e|e)
   . have:=(hm.own2.lt _ hg).1;omega
   . exact hx_ hm.own2 hm.own0 d_ g hg e
   . exact hx_ hm.own2 hm.own1 d_ g hg e
end
theorem zl_:(prog.info? 171).map (fun i=>(i.zero,i.size,i.bytes))=some (some (.agg (bf_ (fun _=>0))),13,104):=k_
theorem w1_ (w:World)(f:Nat->Nat)(t:TypeId):∀(j:Nat) (u:Value),((List.range 13).map fun c=>Value.int .i64 ((f c:Nat):Int))[j]? =some u->(w.alloc (.cells (bf_ f) t)).cell? ((⟨w.heap.size,0,none⟩:Addr).add j)=some u:=by
 intro j u hu;have hj:j<13:=by
  rcases Nat.lt_or_ge j 13 with h|h
  . exact h
  . rw[List.getElem?_eq_none (by simpa using h)]at hu;simp at hu
 have hr:=(dq_ (w:=w.alloc (.cells (bf_ f) t)) (b:=w.heap.size) (t:=t) (f:=f) (ag_ rfl)).cell hj;have:(⟨w.heap.size,0,none⟩:Addr).add j=⟨w.heap.size,j,none⟩:=by
  simp[Addr.add];intro h;exact h.symm
 rw[this,hr,<-hu];simp[hj]
theorem afv_ {E:Ear}(hm:E.most<=2){q i:Nat}:hv E q i<=3:=by unfold hv;have:=E.row_lt q i;split<;>omega
theorem afd_ {E:Ear}(hm:E.most<=2)(h12:E.m<=12){q q':Nat}(hq:E.good q)(hq':E.good q')(h:∀i,i<13->hv E q i=hv E q' i):q=q':=by
 refine Ear.row_inj hm hq hq' (fun i hi=> ?_);have:=h i o_;unfold hv at this;rw[if_pos hi,if_pos hi]at this;exact this
theorem zm_ {E:Ear}(hm:E.most<=2)(h12:E.m<=12){qs:List Nat}{r p q':Nat}(hR:PRel E.good E.succ qs r)(hq':E.good q')(hp:p<qs.length)(h:∀i,i<13->hv E (qs.getD p 0) i=hv E q' i):q'∈qs/\qs.idxOf q'=p:=by
 have e:=afd_ hm h12 (hR.inr _ (ds_ qs p hp)) hq' h;have hmem:q'∈qs:=by rw[<-e];exact ds_ qs p hp
 refine⟨hmem, ?_⟩;have h1:=List.idxOf_lt_length_of_mem hmem;have h3:qs[p]'hp=q':=by rw[<-e,List.getD_eq_getElem?_getD,List.getElem?_eq_getElem hp];rfl
 have h4:qs[qs.idxOf q']'h1=q':=by simp[List.getElem_idxOf]
 have hp2:=List.pairwise_iff_getElem.1 hR.nd;rcases Nat.lt_trichotomy (qs.idxOf q') p with h5|h5|h5
 . exact absurd (h4.trans h3.symm) (hp2 _ _ h1 hp h5)
 . exact h5
 . exact absurd (h3.trans h4.symm) (hp2 _ _ hp h1 h5)
theorem zn_ {E:Ear}{qs:List Nat}{q':Nat}(h:∀j,j<qs.length->∃i,i<13/\hv E (qs.getD j 0) i≠hv E q' i):q'∉qs:=by
 intro hmem;obtain⟨i,hi,hne⟩:=h _ (List.idxOf_lt_length_of_mem hmem);rw[e1_ qs q' hmem]at hne;exact hne rfl
theorem aei_ {s:ByteArray}{most:Nat}(hm:most<=2)(q c i:Nat):(if i<=s.size then b0_ (ay_ s) most (hv ⟨ay_ s,s.size,most⟩ q) c i else 0)=hv ⟨ay_ s,s.size,most⟩ (Ear.succ ⟨ay_ s,s.size,most⟩ q c) i:=by
 unfold hv;by_cases h:i<=s.size
 . rw[if_pos h,if_pos h,Ear.row_succ hm q c h];exact uk_ (fun j hj=>by rw[if_pos (by show j<=s.size;omega)])
 . rw[if_neg h,if_neg h]
theorem acc_ {s:ByteArray}{most:Nat}(hm:most<=2)(i:Nat):(if i<=s.size then dc_ most i else 0)=hv ⟨ay_ s,s.size,most⟩ 0 i:=by
 unfold hv;by_cases h:i<=s.size
 . rw[if_pos h,if_pos h,Ear.row_zero hm h]
 . rw[if_neg h,if_neg h]
def hX (E:Ear)(qs:List Nat):Nat->Nat->Nat:=fun k c=>hv E (qs.getD k 0) c
theorem afe_ {E:Ear}{qs:List Nat}{q i c:Nat}(hi:i<qs.length):hX E qs i c=hX E (qs++ [q]) i c:=by unfold hX;rw[ce_ _ _ _ hi]
theorem ul_ {E:Ear}{ps:List Nat}{q k:Nat}(hk:k<=ps.length):a0_ (E.tab (ps++ [q])).acc k=a0_ (E.tab ps).acc k:=by
 induction k with
 |zero=>rfl
 |succ k ih=>
  simp only[a0_];rw[ih o_];simp only[Ear.tab];rw[ce_ _ _ _ o_]
theorem s9_ (s:ByteArray)(most:Nat)(w:World)(hs:s.size<=12)(hm:most<=2)(ht:ed_ s):
 Calls prog 99 #[.agg #[.string s,.int .i64 most]] w
  fun e w'=>Below w.heap.size w w'/\∃ps gw ga ca gn cn,PRel (Ear.good ⟨ay_ s,s.size,most⟩) (Ear.succ ⟨ay_ s,s.size,most⟩) ps (8*ps.length)/\e= .returned (.pointer (some ⟨gw,0,none⟩))/\ez_ w' gw ga ca gn cn (Ear.tab ⟨ay_ s,s.size,most⟩ ps):=by
 obtain⟨iH,hiH,hzH,hzH1,hzH2⟩:=info_parts zl_;obtain⟨E,HE⟩:∃E:Ear,Hid (E=⟨ay_ s,s.size,most⟩):=⟨_,rfl⟩;have hEm:E.most<=2:=by rw[HE.out];exact hm
 have hE12:E.m<=12:=by rw[HE.out];exact hs
 obtain⟨W,hW,BW,b0,b1⟩:=n2__ w #[.string s,.int .i64 most] 115 #[.slice none 0 0,.slice none 0 0] 169;have hWs:W.heap.size=w.heap.size+1+1:=by rw[hW];simp
 obtain⟨x0,x1,_,_⟩:=aa_ b0;obtain⟨f,HF⟩:∃f:Nat->Nat,Hid (f=fun i=>if i<=s.size then dc_ most i else 0):=⟨_,rfl⟩;have HC:=ab9_ s most W hs hm;rw[<-HF.out]at HC;unfold bf_ at HC;go_enter func99,ntmps99;go_upto_region 2 with fail;rw[<-hW];clear hW;go_wp2_with fail;refine HC.mono ?_;clear HC;rintro e w1 ⟨rfl,hB1⟩;have hs1:=hB1.size;clear x0 x1;go_wp2_with fail;obtain⟨W2,hW2⟩:=ew__ ((w1.alloc (.cells (bf_ f) 171)).alloc (.cells (bf_ f) 171));have P0:WMem W (w.heap.size+1) W2 (hX E [0]) 1 (.slice (some ⟨w1.heap.size+1,0,none⟩) 1 1) (.slice none 0 0) (.slice none 0 0) 0 [] []:=by
  have hb1:w1.heap[w.heap.size+1]? =some (.cells #[.slice none 0 0,.slice none 0 0] 169 (0,0)):=(hB1.block _ o_).trans b1;rw[hW2];refine⟨((hB1.mono o_).alloc o_ _).alloc s_ _,ah_ (ah_ hb1),on__,on__, ?_⟩;have h:=World.ownsRow_lit (base:=(w.heap.size+1)+1) (e:=171) (size:=13) (w1.alloc (.cells (bf_ f) 171)) (bf_ f) 1 s_ d_ rfl;have e1:(bf_ f).toList=hcells (hX E [0]) 1:=by
   simp only[hcells,List.nil_append];have:(fun c=>Value.int .i64 ((hX E [0] 0 c:Nat):Int))=fun c=>Value.int .i64 ((f c:Nat):Int):=by
    funext c;have:=acc_ (s:=s) hm c;rw[<-HE.out]at this;rw[HF.out];show Value.int .i64 ((hv E 0 c:Nat):Int)=_
    rw[<-this]
   rw[this];rfl
  rw[e1]at h;have hsz:(w1.alloc (.cells (bf_ f) 171)).heap.size=w1.heap.size+1:=i_;rw[hsz]at h;exact h
 unfold bf_ at hW2;rw[<-hW2];clear hW2;have hbig:∀qs r,PRel E.good E.succ qs r->qs.length<=67108864:=fun qs r h=>Ear.bound hE12 h
 go_loopw [5,6,7,8,9,10] (fun vs k' _ _ _ _ wr=>∃(k:Nat) (ps:List Nat) (va vn:Value),k<=ps.length/\k'= .int .i64 k/\PRel E.good E.succ ps (8*k)/\WMem W (w.heap.size+1) wr (hX E ps) ps.length vs va vn k (a0_ (E.tab ps).acc k) (b4_ (pn E.succ ps) k))
  (fun _ k' _ _ _ _ _=>67108864 - (intOf k').toNat)
 case atStart=>exact⟨0,[0],_,_,i_,rfl,PRel.start Ear.good_zero,P0⟩
 case round=>
  obtain⟨k,ps,va,vn,hk,rfl,hR,hP⟩:=hrel;clear P0;have hbd:=hbig _ _ hR;have hlen:=hR.len;have hbw:Below w.heap.size w wr:=BW.trans (hP.blw.mono o_);obtain⟨x0,x1,_,_⟩:=aa_ ((hP.blw.block _ o_).trans b0);obtain⟨ap,cp,rfl,hap⟩:=af_ hP.own2;obtain⟨gp,rfl,hcp⟩:=hap o_;have hszs:=ac_ hP.blk;rename World=>wo
  by_cases hlt:k<ps.length
  . have R0:=hP.round;obtain⟨q,HQ⟩:=hx__ (ps.getD k 0);have HGQ:Hid (E.good q):=by unfold Hid;rw[<-HQ.out];exact hR.inr _ (ds_ ps k hlt)
    have HR:Hid _:=hR;clear hP hR hap hcp;go_wp2_with fail;go_loopw [5,8,9,10] (fun vs c' _ _ wr=>∃(c:Nat) (qs:List Nat),c<=8/\c'= .int .i64 c/\k<qs.length/\Hid (qs.getD k 0=q)/\PRel E.good E.succ qs (8*k+c)/\cw_ W (w.heap.size+1) wo.heap.size wr (hX E qs) qs.length vs va vn k (a0_ (E.tab qs).acc k) (b4_ (pn E.succ qs) k) (fun c'=>if c'<c then pn E.succ qs k c' else 0))
     (fun _ c' _ _ _=>8 - (intOf c').toNat)
    case atStart=>exact⟨0,ps,o_,rfl,hlt,HQ,HR.out,R0.rcongr (fun x _=>i_)⟩
    case round=>
     clear R0 HR HQ hlt hbd hlen x0 x1;obtain⟨c,qs,hc,rfl,hlt,HQ,hR,hP⟩:=hrel;have hbd:=hbig _ _ hR;have hlen:=hR.len;have hbW:=hP.mem.blw;have hbw:Below w.heap.size w wr:=BW.trans (hbW.mono o_);obtain⟨x0,x1,_,_⟩:=aa_ ((hbW.block _ o_).trans b0);obtain⟨ap,cp,rfl,hap⟩:=af_ hP.mem.own2;obtain⟨gq,rfl,hcp⟩:=hap o_;have hszs:=ac_ hP.mem.blk;have hce:∀k i,k<qs.length->i<13->wr.cell? ⟨gq,k*13+i,none⟩=some (.int .i64 ((hX E qs k i:Nat):Int)):=fun k i hk hi=>(hcp (k*13+i) o_).trans (zk_ _ _ _ _ hk hi)
     by_cases hl8:c<8
     . have hck:∀i,i<13->wr.cell? ⟨gq,k*13+i,none⟩=some (.int .i64 ((hv E q i:Nat):Int)):=fun i hi=>by rw[hce k i hlt hi];unfold hX;rw[HQ.out]
       have c0:=hck 0 o_;have c1:=hck 1 o_;have c2:=hck 2 o_;have c3:=hck 3 o_;have c4:=hck 4 o_;have c5:=hck 5 o_;have c6:=hck 6 o_;have c7:=hck 7 o_;have c8:=hck 8 o_;have c9:=hck 9 o_;have c10:=hck 10 o_;have c11:=hck 11 o_;have c12:=hck 12 o_;simp only[Nat.add_zero]at c0;have HC:=fun w=>aeh_ s most c (hv E q) w hs hm ht (fun i _=>afv_ hEm)
       obtain⟨f2,HF2⟩:∃f:Nat->Nat,Hid (f=hv E (E.succ q c)):=⟨_,rfl⟩;have hf2:(fun i=>if i<=s.size then b0_ (ay_ s) most (hv E q) c i else 0)=f2:=by
        rw[HF2.out];funext i;rw[HE.out];exact aei_ hm q c i
       rw[hf2]at HC;unfold bf_ at HC;clear hf2 hck;have HCE:Hid _:=hce;have HP:Hid (cw_ W (w.heap.size+1) wo.heap.size wr (hX E qs) qs.length (.slice (some ⟨gq,0,none⟩) qs.length cp) va vn k (a0_ (E.tab qs).acc k) (b4_ (pn E.succ qs) k) (fun c'=>if c'<c then pn E.succ qs k c' else 0)):=hP;have HR:Hid (PRel E.good E.succ qs (8*k+c)):=hR;have hgl:gq<wr.heap.size:=an_ c0;have n1:¬gq=wr.heap.size:=o_;have n2:¬w.heap.size=wr.heap.size:=o_;have n3:¬wr.heap.size=gq:=o_;have n4:¬wr.heap.size=w.heap.size:=o_;have HS:∀w',Below wr.heap.size wr w'->w'.cell? ⟨w.heap.size,0,none⟩=some (.string s)/\w'.cell? ⟨w.heap.size,1,none⟩=some (.int .i64 most)/\w'.cell? ⟨gq,k*13,none⟩=some (.int .i64 ((hv E q 0:Nat):Int))/\w'.cell? ⟨gq,k*13+1,none⟩=some (.int .i64 ((hv E q 1:Nat):Int))/\w'.cell? ⟨gq,k*13+2,none⟩=some (.int .i64 ((hv E q 2:Nat):Int))/\w'.cell? ⟨gq,k*13+3,none⟩=some (.int .i64 ((hv E q 3:Nat):Int))/\w'.cell? ⟨gq,k*13+4,none⟩=some (.int .i64 ((hv E q 4:Nat):Int))/\w'.cell? ⟨gq,k*13+5,none⟩=some (.int .i64 ((hv E q 5:Nat):Int))/\w'.cell? ⟨gq,k*13+6,none⟩=some (.int .i64 ((hv E q 6:Nat):Int))/\w'.cell? ⟨gq,k*13+7,none⟩=some (.int .i64 ((hv E q 7:Nat):Int))/\w'.cell? ⟨gq,k*13+8,none⟩=some (.int .i64 ((hv E q 8:Nat):Int))/\w'.cell? ⟨gq,k*13+9,none⟩=some (.int .i64 ((hv E q 9:Nat):Int))/\w'.cell? ⟨gq,k*13+10,none⟩=some (.int .i64 ((hv E q 10:Nat):Int))/\w'.cell? ⟨gq,k*13+11,none⟩=some (.int .i64 ((hv E q 11:Nat):Int))/\w'.cell? ⟨gq,k*13+12,none⟩=some (.int .i64 ((hv E q 12:Nat):Int)):=fun w' hb=>⟨(hb.cell (p:=⟨w.heap.size,0,none⟩) s_).trans x0,(hb.cell (p:=⟨w.heap.size,1,none⟩) s_).trans x1,(hb.cell (p:=⟨gq,_,none⟩) hgl).trans c0,(hb.cell (p:=⟨gq,_,none⟩) hgl).trans c1,(hb.cell (p:=⟨gq,_,none⟩) hgl).trans c2,(hb.cell (p:=⟨gq,_,none⟩) hgl).trans c3,(hb.cell (p:=⟨gq,_,none⟩) hgl).trans c4,(hb.cell (p:=⟨gq,_,none⟩) hgl).trans c5,(hb.cell (p:=⟨gq,_,none⟩) hgl).trans c6,(hb.cell (p:=⟨gq,_,none⟩) hgl).trans c7,(hb.cell (p:=⟨gq,_,none⟩) hgl).trans c8,(hb.cell (p:=⟨gq,_,none⟩) hgl).trans c9,(hb.cell (p:=⟨gq,_,none⟩) hgl).trans c10,(hb.cell (p:=⟨gq,_,none⟩) hgl).trans c11,(hb.cell (p:=⟨gq,_,none⟩) hgl).trans c12⟩
       clear hP hR hap hcp hce;go_upto_region 11 with fail;go_cut [9] (fun p9 wc=>∃g9,p9= .pointer (some ⟨g9,0,none⟩)/\Below wr.heap.size wr wc/\wr.heap.size<=g9/\wc.rowIs g9 171 13 (fun i=> .int .i64 ((f2 i:Nat):Int)))
       case first=>
        refine wp_region_noPanic ?_;refine wp_region_held_drew (S:=(fun w'=>w'.cell? ⟨w.heap.size,0,none⟩=some (.string s)/\w'.cell? ⟨w.heap.size,1,none⟩=some (.int .i64 most)/\w'.cell? ⟨gq,k*13,none⟩=some (.int .i64 ((hv E q 0:Nat):Int))/\w'.cell? ⟨gq,k*13+1,none⟩=some (.int .i64 ((hv E q 1:Nat):Int))/\w'.cell? ⟨gq,k*13+2,none⟩=some (.int .i64 ((hv E q 2:Nat):Int))/\w'.cell? ⟨gq,k*13+3,none⟩=some (.int .i64 ((hv E q 3:Nat):Int))/\w'.cell? ⟨gq,k*13+4,none⟩=some (.int .i64 ((hv E q 4:Nat):Int))/\w'.cell? ⟨gq,k*13+5,none⟩=some (.int .i64 ((hv E q 5:Nat):Int))/\w'.cell? ⟨gq,k*13+6,none⟩=some (.int .i64 ((hv E q 6:Nat):Int))/\w'.cell? ⟨gq,k*13+7,none⟩=some (.int .i64 ((hv E q 7:Nat):Int))/\w'.cell? ⟨gq,k*13+8,none⟩=some (.int .i64 ((hv E q 8:Nat):Int))/\w'.cell? ⟨gq,k*13+9,none⟩=some (.int .i64 ((hv E q 9:Nat):Int))/\w'.cell? ⟨gq,k*13+10,none⟩=some (.int .i64 ((hv E q 10:Nat):Int))/\w'.cell? ⟨gq,k*13+11,none⟩=some (.int .i64 ((hv E q 11:Nat):Int))/\w'.cell? ⟨gq,k*13+12,none⟩=some (.int .i64 ((hv E q 12:Nat):Int)))) k_ ?_ (fun hHeld0=> ?_)
        . (try dsimp only);go_keep
        refine wt_ (i:=0) ?_;try simp only[Act.put,List.setIfInBounds_toArray,List.set_cons_zero,List.set_cons_succ]
        refine wt_ (i:=1) ?_;try simp only[Act.put,List.setIfInBounds_toArray,List.set_cons_zero,List.set_cons_succ]
        refine wt_ (i:=2) ?_;try simp only[Act.put,List.setIfInBounds_toArray,List.set_cons_zero,List.set_cons_succ]
        refine wt_ (i:=3) ?_;try simp only[Act.put,List.setIfInBounds_toArray,List.set_cons_zero,List.set_cons_succ]
        refine wt_ (i:=4) ?_;try simp only[Act.put,List.setIfInBounds_toArray,List.set_cons_zero,List.set_cons_succ]
        refine wt_ (i:=5) ?_;try simp only[Act.put,List.setIfInBounds_toArray,List.set_cons_zero,List.set_cons_succ]
        refine wpAnyH_ready (rs:=[6,7]) k_ i_ ?_;refine AllReadyH.cons g_ (fun K hK=> ?_) ?_
        . go_simp;refine(HC _).mono ?_;rintro e w3 ⟨rfl,hB3⟩;have hBx:Below wr.heap.size wr w3:=by first|exact((Below.refl wr.heap.size wr).drew).trans hB3|exact(((Below.refl wr.heap.size wr).drew).alloc lr__ _).trans (hB3.mono i_)
          obtain⟨k0,k1,k2,k3,k4,k5,k6,k7,k8,k9,k10,k11,k12,k13,k14⟩:=HS w3 hBx;try obtain⟨d0,d1,d2,d3,d4,d5,d6,d7,d8,d9,d10,d11,d12⟩:=el_ ((dq_ (f:=fun _=>0) (w:=(wr.alloc (.cells (bf_ (fun _=>0)) 171)).drew) (b:=wr.heap.size) (t:=171) (ag_ rfl)).of_block (hB3.block _ i_))
          try obtain⟨e0,e1,e2,e3,e4,e5,e6,e7,e8,e9,e10,e11,e12⟩:=k4_ ((dq_ (f:=fun _=>0) (w:=(wr.alloc (.cells (bf_ (fun _=>0)) 171)).drew) (b:=wr.heap.size) (t:=171) (ag_ rfl)).of_block (hB3.block _ i_))
          have HBX:Hid _:=hBx;have HB3:Hid _:=hB3;clear hBx hB3;try dsimp only
          refine hK.out _ _ ?_ (fun hHeld1=> ?_)
          . (try dsimp only);go_keep
          clear hK K hHeld0;try simp only[Act.put,List.setIfInBounds_toArray,List.set_cons_zero,List.set_cons_succ]
          refine wpAnyH_ready (rs:=[7]) k_ i_ ?_;refine AllReadyH.cons g_ (fun K hK=> ?_) ?_
          . go_simp;refine hK.out _ _ ?_ (fun hHeld2=> ?_)
            . (try dsimp only);go_keep
            clear hK K hHeld1;try simp only[Act.put,List.setIfInBounds_toArray,List.set_cons_zero,List.set_cons_succ]
            refine wpAnyH_ready (rs:=[8]) k_ i_ ?_;refine AllReadyH.cons g_ (fun K hK=> ?_) ?_
            . go_simp;refine hK.out _ _ ?_ (fun hHeld3=> ?_)
              . (try dsimp only);go_keep
              clear hK K hHeld2;try simp only[Act.put,List.setIfInBounds_toArray,List.set_cons_zero,List.set_cons_succ]
              refine wpAnyH_done k_ ?_ _;refine NoPanic.normal ?_;go_wp2_with fail;go_meet
              have hq:=dq_ (w:=w3.alloc (.cells (bf_ f2) 171)) (b:=w3.heap.size) (t:=171) (f:=f2) (ag_ rfl);have hp:=HBX.out.alloc (by have:=HBX.out.size;omega) (.cells (bf_ f2) 171);have hz:=HBX.out.size;unfold bf_ at hq hp;exact⟨w3.heap.size,rfl,hp,hz,hq⟩
            exact AllReadyH.nil
          exact AllReadyH.nil
        refine AllReadyH.cons g_ (fun K hK=> ?_) ?_
        . go_simp;refine hK.out _ _ ?_ (fun hHeld4=> ?_)
          . (try dsimp only);go_keep
          clear hK K hHeld0;try simp only[Act.put,List.setIfInBounds_toArray,List.set_cons_zero,List.set_cons_succ]
          refine wpAnyH_ready (rs:=[6]) k_ i_ ?_;refine AllReadyH.cons g_ (fun K hK=> ?_) ?_
          . go_simp;refine(HC _).mono ?_;rintro e w3 ⟨rfl,hB3⟩;have hBx:Below wr.heap.size wr w3:=by first|exact((Below.refl wr.heap.size wr).drew).trans hB3|exact(((Below.refl wr.heap.size wr).drew).alloc lr__ _).trans (hB3.mono i_)
            obtain⟨k0,k1,k2,k3,k4,k5,k6,k7,k8,k9,k10,k11,k12,k13,k14⟩:=HS w3 hBx;try obtain⟨d0,d1,d2,d3,d4,d5,d6,d7,d8,d9,d10,d11,d12⟩:=el_ ((dq_ (f:=fun _=>0) (w:=(wr.alloc (.cells (bf_ (fun _=>0)) 171)).drew) (b:=wr.heap.size) (t:=171) (ag_ rfl)).of_block (hB3.block _ i_))
            try obtain⟨e0,e1,e2,e3,e4,e5,e6,e7,e8,e9,e10,e11,e12⟩:=k4_ ((dq_ (f:=fun _=>0) (w:=(wr.alloc (.cells (bf_ (fun _=>0)) 171)).drew) (b:=wr.heap.size) (t:=171) (ag_ rfl)).of_block (hB3.block _ i_))
            have HBX:Hid _:=hBx;have HB3:Hid _:=hB3;clear hBx hB3;try dsimp only
            refine hK.out _ _ ?_ (fun hHeld5=> ?_)
            . (try dsimp only);go_keep
            clear hK K hHeld4;try simp only[Act.put,List.setIfInBounds_toArray,List.set_cons_zero,List.set_cons_succ]
            refine wpAnyH_ready (rs:=[8]) k_ i_ ?_;refine AllReadyH.cons g_ (fun K hK=> ?_) ?_
            . go_simp;refine hK.out _ _ ?_ (fun hHeld6=> ?_)
              . (try dsimp only);go_keep
              clear hK K hHeld5;try simp only[Act.put,List.setIfInBounds_toArray,List.set_cons_zero,List.set_cons_succ]
              refine wpAnyH_done k_ ?_ _;refine NoPanic.normal ?_;go_wp2_with fail;go_meet
              have hq:=mc_ f2 ((dq_ (f:=fun _=>0) (w:=(wr.alloc (.cells (bf_ (fun _=>0)) 171)).drew) (b:=wr.heap.size) (t:=171) (ag_ rfl)).of_block (HB3.out.block _ i_));have hp:=j0_ (b:=wr.heap.size) f2 HBX.out lr__;unfold g4_ at hq hp;exact⟨wr.heap.size,rfl,hp,lr__,hq⟩
            exact AllReadyH.nil
          exact AllReadyH.nil
        exact AllReadyH.nil
       case rest=>
        obtain⟨g9,rfl,hB9,hg9,hr9⟩:=hcut;have hs9:=hB9.size;have hP9:=HP.out.below hB9;have HCE9:∀k i,k<qs.length->i<13->wc.cell? ⟨gq,k*13+i,none⟩=some (.int .i64 ((hX E qs k i:Nat):Int)):=fun k i hk hi=>(hB9.cell (p:=⟨gq,k*13+i,none⟩) hgl).trans (HCE.out k i hk hi)
        have HC2:=acb_ (some ⟨gq,0,none⟩) gq qs.length cp (hX E qs) f2 wc o_ (fun _=>rfl) HCE9;obtain⟨a0,a1,a2,a3,a4,a5,a6,a7,a8,a9,a10,a11,a12⟩:=el_ hr9;have HR9:Hid (wc.rowIs g9 171 13 (fun i=> .int .i64 ((f2 i:Nat):Int))):=hr9;unfold bf_ at HC2;clear HS HC HCE9 c0 c1 c2 c3 c4 c5 c6 c7 c8 c9 c10 c11 c12 x0 x1 n1 n2 n3 n4 HP HCE hbW hbw hr9;have HP9:Hid (cw_ W (w.heap.size+1) wo.heap.size wc (hX E qs) qs.length (.slice (some ⟨gq,0,none⟩) qs.length cp) va vn k (a0_ (E.tab qs).acc k) (b4_ (pn E.succ qs) k) (fun c'=>if c'<c then pn E.succ qs k c' else 0)):=hP9;have hgsz:=hP9.mem.own2.lt gq rfl;clear hP9;go_wp2_with fail;refine HC2.mono ?_;clear HC2 a0 a1 a2 a3 a4 a5 a6 a7 a8 a9 a10 a11 a12;rintro e w5 ⟨hB5,p,rfl,hpn,hyes,hno⟩;have hs5:=hB5.size;have hP5:=HP9.out.below hB5;have HP5:Hid (cw_ W (w.heap.size+1) wo.heap.size w5 (hX E qs) qs.length (.slice (some ⟨gq,0,none⟩) qs.length cp) va vn k (a0_ (E.tab qs).acc k) (b4_ (pn E.succ qs) k) (fun c'=>if c'<c then pn E.succ qs k c' else 0)):=hP5;have HR5:Hid (w5.rowIs g9 171 13 (fun i=> .int .i64 ((f2 i:Nat):Int))):=HR9.out.of_block (hB5.block _ HR9.out.lt);have r0:=hP5.rw.cell hl8;have r1:=hP5.rw.frozen c;have hHl:=hP5.rw.lt;simp only[Nat.lt_irrefl,if_false]at r0;have HSQ:Hid (E.succ (qs.getD ((8*k+c)/8) 0) ((8*k+c)%8)=E.succ q c):=by
         unfold Hid;rw[show(8*k+c)/8=k by omega,show(8*k+c)%8=c by omega,HQ.out]
        have HGS:Hid (E.good (E.succ q c)):=Ear.succ_good hEm q c;clear hP5 HP9 HR9 hB5 hB9;by_cases hlp:p<qs.length
        . have hold:=zm_ hEm hE12 HR.out HGS.out hlp (fun i hi=>by have:=hyes hlp i hi;rw[HF2.out]at this;exact this);have hpb:((p:Int)==(qs.length:Int))=false:=by rw[beq_eq_false_iff_ne];omega
          have HO:Hid _:=hold;clear hold hyes hno;go_wp2_with fail;go_roundw
          case rel=>
           have hpnc:pn E.succ qs k c=p:=by
            unfold pn;rw[HQ.out];exact HO.out.2
           have hn:=(HP5.out.put c p).rcongr (r':=fun c'=>if c'<c+1 then pn E.succ qs k c' else 0) (fun x _=>by
            by_cases e:x=c
            . subst e;simp[hpnc]
            . by_cases h':x<c
              . simp only[e,h',if_false,if_true];rw[if_pos o_]
              . simp only[e,h',if_false];rw[if_neg o_])
           exact⟨c+1,qs,o_,by go_num,hlt,HQ,HR.out.old o_ (by rw[HSQ.out];exact HO.out.1),hn⟩
          case measure=>simp[intOf];omega
        . have hpe:p=qs.length:=o_;subst hpe;have hnew:=zn_ (E:=E) (qs:=qs) (q':=E.succ q c) (fun j hj=>by
           obtain⟨i,hi,hne⟩:=hno j hj;exact⟨i,hi,by rw[HF2.out]at hne;exact hne⟩)
          have HN:Hid _:=hnew;obtain⟨a0,a1,a2,a3,a4,a5,a6,a7,a8,a9,a10,a11,a12⟩:=el_ HR5.out;clear hnew hno hyes;have HPa:Hid (cw_ W (w.heap.size+1) wo.heap.size (w5.alloc (.cells (bf_ f2) 171)) (hX E (qs++ [E.succ q c])) qs.length (.slice (some ⟨gq,0,none⟩) qs.length cp) va vn k (a0_ (E.tab qs).acc k) (b4_ (pn E.succ qs) k) (fun c'=>if c'<c then pn E.succ qs k c' else 0)):=(HP5.out.below ba__).xcongr (fun i c hi _=>afe_ hi);have HNA:Hid ((w5.alloc (.cells (bf_ f2) 171)).ownsRow ((w.heap.size+1)+1) 171 13 (.slice (some ⟨gq,0,none⟩) qs.length cp) qs.length (hcells (hX E (qs++ [E.succ q c])) qs.length)):=HPa.out.mem.own2;have HCN:Hid _:=w1_ w5 f2 171;have HG:Hid (∀g cap w2,w2.ownsRow ((w.heap.size+1)+1) 171 13 (.slice (some ⟨g,0,none⟩) (qs.length+1) cap) (qs.length+1) (hcells (hX E (qs++ [E.succ q c])) qs.length++((List.range 13).map fun c=>Value.int .i64 ((f2 c:Nat):Int)))->
           (w5.alloc (.cells (bf_ f2) 171)).grownBy w2 (Value.slice (some ⟨gq,0,none⟩) qs.length cp).ownBlock->
           w2.cell? ⟨wo.heap.size,c,none⟩=some (.int .i64 0)/\w2.frozen? ⟨wo.heap.size,c,none⟩=false/\Hid (cw_ W (w.heap.size+1) wo.heap.size w2 (hX E (qs++ [E.succ q c])) (qs.length+1) (.slice (some ⟨g,0,none⟩) (qs.length+1) cap) va vn k (a0_ (E.tab qs).acc k) (b4_ (pn E.succ qs) k) (fun c'=>if c'<c then pn E.succ qs k c' else 0))):=by
           intro g cap w2 ho hg;have e1:((List.range 13).map fun c=>Value.int .i64 ((f2 c:Nat):Int))=(List.range 13).map fun x=>Value.int .i64 ((hX E (qs++ [E.succ q c]) qs.length x:Nat):Int):=by
            rw[HF2.out];unfold hX;simp[List.getD_eq_getElem?_getD]
           rw[e1]at ho;have hw2:=HPa.out.grown ho hg;refine⟨?_,hw2.rw.frozen c,hw2⟩;have:=hw2.rw.cell hl8;simpa using this
          clear HPa;unfold bf_ at HNA HCN HG;go_wp2_with (at_builtin;refine ae_ _ rfl _ _ 173 rfl ((w.heap.size+1)+1) 171 iH (.agg (bf_ (fun _=>0))) 13 104 underlying173 hiH hzH hzH1 hzH2 rfl d_ _ qs.length (hcells (hX E (qs++ [E.succ q c])) qs.length) rfl HNA.out ⟨w5.heap.size,0,none⟩ 1 1 ((List.range 13).map fun c=>Value.int .i64 ((f2 c:Nat):Int)) rfl rfl HCN.out (by intro u hu;simp only[List.mem_map]at hu;obtain⟨_,_,rfl⟩:=hu;rfl) d_ u_ o_ s_ ?_;intro g2 cap2 w2 hown hgr hfr;obtain⟨f0,f1,HNW⟩:=HG.out g2 cap2 w2 hown hgr;clear hown hgr hfr);go_roundw
          case rel=>
           have hnew:=HR.out.new o_ (by rw[HSQ.out];exact HN.out) (by rw[HSQ.out];exact HGS.out);rw[HSQ.out]at hnew;have hpnew:pn E.succ (qs++ [E.succ q c]) k c=qs.length:=by
            simp only[pn];rw[ce_ _ _ _ hlt,HQ.out,List.idxOf_append,if_neg HN.out];simp
           have hn:=(HNW.out.put c qs.length).rcongr (r':=fun c'=>if c'<c+1 then pn E.succ (qs++ [E.succ q c]) k c' else 0) (fun x hx=>by
            by_cases e:x=c
            . subst e;simp[hpnew]
            . by_cases h':x<c
              . simp only[e,h',if_false,if_true];rw[if_pos o_,hn_ HR.out k x hx o_]
              . simp only[e,h',if_false];rw[if_neg o_])
           rw[<-ul_ (E:=E) (q:=E.succ q c) o_,<-lo_ (X:=pn E.succ (qs++ [E.succ q c])) (fun x c' hx hc'=>hn_ HR.out x c' hc' o_)]at hn;exact⟨c+1,(qs++ [E.succ q c]),o_,by go_num,s_,by unfold Hid;rw[ce_ _ _ _ hlt];exact HQ.out,hnew,by simpa using hn⟩
          case measure=>simp[intOf];omega
     . have hc8:c=8:=o_;subst hc8;clear hap hcp;obtain⟨tv,HTV0⟩:=hx__ (hv E q s.size);have HTV:Hid (decide (tv<=most)=decide (E.row q E.m<=E.most)):=by
        unfold Hid;rw[<-HTV0.out];have hEs:E.m=s.size:=by rw[HE.out]
        have hEo:E.most=most:=by rw[HE.out]
        unfold hv;rw[<-hEs,if_pos lr__,hEo]
       have y0:=hce k s.size hlt o_;rw[show hX E qs k s.size=tv by unfold hX;rw[HQ.out];exact HTV0.out]at y0;have hrw:=hP.rw;have r0:=hrw.cell (i:=0) o_;have r1:=hrw.cell (i:=1) o_;have r2:=hrw.cell (i:=2) o_;have r3:=hrw.cell (i:=3) o_;have r4:=hrw.cell (i:=4) o_;have r5:=hrw.cell (i:=5) o_;have r6:=hrw.cell (i:=6) o_;have r7:=hrw.cell (i:=7) o_;simp only[show(0:Nat)<8 from by decide,show(1:Nat)<8 from by decide,show(2:Nat)<8 from by decide,show(3:Nat)<8 from by decide,show(4:Nat)<8 from by decide,show(5:Nat)<8 from by decide,show(6:Nat)<8 from by decide,show(7:Nat)<8 from by decide,if_true]at r0 r1 r2 r3 r4 r5 r6 r7;have hgl:=(hP.mem.own2.lt gq rfl);have hHl:=hrw.lt;have HS:Hid (∀w',ab_ (fun b=>b=(w.heap.size+1)\/va.ownBlock=some b\/vn.ownBlock=some b) wr.drew w'->w'.cell? ⟨w.heap.size,0,none⟩=some (.string s)/\w'.cell? ⟨w.heap.size,1,none⟩=some (.int .i64 most)/\w'.cell? ⟨gq,k*13+s.size,none⟩=some (.int .i64 (tv:Int))/\w'.cell? ⟨wo.heap.size,0,none⟩=some (.int .i64 ((pn E.succ qs k 0:Nat):Int))/\w'.cell? ⟨wo.heap.size,1,none⟩=some (.int .i64 ((pn E.succ qs k 1:Nat):Int))/\w'.cell? ⟨wo.heap.size,2,none⟩=some (.int .i64 ((pn E.succ qs k 2:Nat):Int))/\w'.cell? ⟨wo.heap.size,3,none⟩=some (.int .i64 ((pn E.succ qs k 3:Nat):Int))/\w'.cell? ⟨wo.heap.size,4,none⟩=some (.int .i64 ((pn E.succ qs k 4:Nat):Int))/\w'.cell? ⟨wo.heap.size,5,none⟩=some (.int .i64 ((pn E.succ qs k 5:Nat):Int))/\w'.cell? ⟨wo.heap.size,6,none⟩=some (.int .i64 ((pn E.succ qs k 6:Nat):Int))/\w'.cell? ⟨wo.heap.size,7,none⟩=some (.int .i64 ((pn E.succ qs k 7:Nat):Int))):=by
        intro w' ht;have hc:∀k o:Nat,k<wr.heap.size->¬(k=(w.heap.size+1)\/va.ownBlock=some k\/vn.ownBlock=some k)->w'.cell? ⟨k,o,none⟩=wr.cell? ⟨k,o,none⟩:=fun k o hk hn=>World.cell?_of_block (a:=⟨k,o,none⟩) (ht.block k hk hn)
        have na:¬(w.heap.size=(w.heap.size+1)\/va.ownBlock=some w.heap.size\/vn.ownBlock=some w.heap.size):=by
         rintro(e|e|e)
         . omega
         . have:=(hP.mem.own0.lt _ e).1;omega
         . have:=(hP.mem.own1.lt _ e).1;omega
        have nb:¬(gq=(w.heap.size+1)\/va.ownBlock=some gq\/vn.ownBlock=some gq):=by
         rintro(e|e|e)
         . have:=hgl.1;omega
         . exact hx_ hP.mem.own2 hP.mem.own0 d_ gq rfl e
         . exact hx_ hP.mem.own2 hP.mem.own1 d_ gq rfl e
        have nc:¬(wo.heap.size=(w.heap.size+1)\/va.ownBlock=some wo.heap.size\/vn.ownBlock=some wo.heap.size):=by
         rintro(e|e|e)
         . have:=hP.lo;omega
         . exact my_ hP.mem.own0 hrw d_ _ e rfl
         . exact hP.dn _ e rfl
        exact⟨(hc _ _ o_ na).trans x0,(hc _ _ o_ na).trans x1,(hc _ _ hgl.2 nb).trans y0,(hc _ _ hHl nc).trans r0,(hc _ _ hHl nc).trans r1,(hc _ _ hHl nc).trans r2,(hc _ _ hHl nc).trans r3,(hc _ _ hHl nc).trans r4,(hc _ _ hHl nc).trans r5,(hc _ _ hHl nc).trans r6,(hc _ _ hHl nc).trans r7⟩
       have HP3:Hid (cw_ W (w.heap.size+1) wo.heap.size wr.drew (hX E qs) qs.length (.slice (some ⟨gq,0,none⟩) qs.length cp) va vn k (a0_ (E.tab qs).acc k) (b4_ (pn E.succ qs) k) (fun c'=>if c'<8 then pn E.succ qs k c' else 0)):=hP.below (br__.drew);have HA:=xt_ (w.heap.size+1) ((w.heap.size+1)+1) va vn k _ _ (decide (tv<=most)) (pn E.succ qs k) wr.drew HP3.out.mem.blk HP3.out.mem.own0 HP3.out.mem.own1 o_ (by show(w.heap.size+1)+1<=wr.heap.size;omega) o_;unfold row8 at HA;have HR:Hid (PRel E.good E.succ qs (8*k+8)):=hR;clear hP hR hce hrw hbW hbw HTV0;have hs13:(s.size:Int)<13:=o_;go_upto_region 16 with fail;refine wp_region_noPanic ?_;refine wp_region_held_drew (S:=(fun w'=>w'.cell? ⟨w.heap.size,0,none⟩=some (.string s)/\w'.cell? ⟨w.heap.size,1,none⟩=some (.int .i64 most)/\w'.cell? ⟨gq,k*13+s.size,none⟩=some (.int .i64 (tv:Int))/\w'.cell? ⟨wo.heap.size,0,none⟩=some (.int .i64 ((pn E.succ qs k 0:Nat):Int))/\w'.cell? ⟨wo.heap.size,1,none⟩=some (.int .i64 ((pn E.succ qs k 1:Nat):Int))/\w'.cell? ⟨wo.heap.size,2,none⟩=some (.int .i64 ((pn E.succ qs k 2:Nat):Int))/\w'.cell? ⟨wo.heap.size,3,none⟩=some (.int .i64 ((pn E.succ qs k 3:Nat):Int))/\w'.cell? ⟨wo.heap.size,4,none⟩=some (.int .i64 ((pn E.succ qs k 4:Nat):Int))/\w'.cell? ⟨wo.heap.size,5,none⟩=some (.int .i64 ((pn E.succ qs k 5:Nat):Int))/\w'.cell? ⟨wo.heap.size,6,none⟩=some (.int .i64 ((pn E.succ qs k 6:Nat):Int))/\w'.cell? ⟨wo.heap.size,7,none⟩=some (.int .i64 ((pn E.succ qs k 7:Nat):Int)))) k_ ?_ (fun hHeld0=> ?_)
       . (try dsimp only);go_keep
       refine wt_ (i:=0) ?_;try simp only[Act.put,List.setIfInBounds_toArray,List.set_cons_zero,List.set_cons_succ]
       refine wt_ (i:=1) ?_;try simp only[Act.put,List.setIfInBounds_toArray,List.set_cons_zero,List.set_cons_succ]
       refine wt_ (i:=2) ?_;try simp only[Act.put,List.setIfInBounds_toArray,List.set_cons_zero,List.set_cons_succ]
       refine wt_ (i:=3) ?_;try simp only[Act.put,List.setIfInBounds_toArray,List.set_cons_zero,List.set_cons_succ]
       refine wt_ (i:=4) ?_;try simp only[Act.put,List.setIfInBounds_toArray,List.set_cons_zero,List.set_cons_succ]
       refine wt_ (i:=5) ?_;try simp only[Act.put,List.setIfInBounds_toArray,List.set_cons_zero,List.set_cons_succ]
       refine wt_ (i:=6) ?_;try simp only[Act.put,List.setIfInBounds_toArray,List.set_cons_zero,List.set_cons_succ]
       refine wt_ (i:=7) ?_;try simp only[Act.put,List.setIfInBounds_toArray,List.set_cons_zero,List.set_cons_succ]
       refine wt_ (i:=8) ?_;try simp only[Act.put,List.setIfInBounds_toArray,List.set_cons_zero,List.set_cons_succ]
       refine wt_ (i:=9) ?_;try simp only[Act.put,List.setIfInBounds_toArray,List.set_cons_zero,List.set_cons_succ]
       refine wt_ (i:=10) ?_;try simp only[Act.put,List.setIfInBounds_toArray,List.set_cons_zero,List.set_cons_succ]
       refine wt_ (i:=11) ?_;try simp only[Act.put,List.setIfInBounds_toArray,List.set_cons_zero,List.set_cons_succ]
       refine wt_ (i:=12) ?_;try simp only[Act.put,List.setIfInBounds_toArray,List.set_cons_zero,List.set_cons_succ]
       refine wpAnyH_ready (rs:=[13]) k_ i_ ?_;refine AllReadyH.cons g_ (fun K hK=> ?_) ?_
       . go_simp;refine HA.mono ?_;rintro e w6 ⟨rfl,va',vn',f0,f1,f2,f3,_,_⟩;obtain⟨k0,k1,k2,k3,k4,k5,k6,k7,k8,k9,k10⟩:=HS.out w6 f3;have F1:Hid _:=HP3.out.add f0 f1 f2 f3;clear f0 f1 f2 f3;try dsimp only
         refine hK.out _ _ ?_ (fun hHeld1=> ?_)
         . (try dsimp only);go_keep
         clear hK K hHeld0;try simp only[Act.put,List.setIfInBounds_toArray,List.set_cons_zero,List.set_cons_succ]
         refine wpAnyH_done k_ ?_ _;refine NoPanic.normal ?_;go_wp2_with fail;go_roundw
         case rel=>
          have f1:=F1.out;have ea:a0_ (E.tab qs).acc k++ [.bool (decide (tv<=most))]=a0_ (E.tab qs).acc (k+1):=by
           simp only[a0_,Ear.tab];rw[HQ.out,<-HTV.out]
          have er:b4_ (pn E.succ qs) k++ [(.int .i64 ((pn E.succ qs k 0:Nat):Int)),(.int .i64 ((pn E.succ qs k 1:Nat):Int)),(.int .i64 ((pn E.succ qs k 2:Nat):Int)),(.int .i64 ((pn E.succ qs k 3:Nat):Int)),(.int .i64 ((pn E.succ qs k 4:Nat):Int)),(.int .i64 ((pn E.succ qs k 5:Nat):Int)),(.int .i64 ((pn E.succ qs k 6:Nat):Int)),(.int .i64 ((pn E.succ qs k 7:Nat):Int))]=b4_ (pn E.succ qs) (k+1):=by
           simp only[b4_];rfl
          rw[ea,er]at f1;exact⟨k+1,qs,_,_,o_,by go_num,by rw[show 8*(k+1)=8*k+8 by omega];exact HR.out,f1⟩
         case measure=>simp[intOf];omega
       exact AllReadyH.nil
  . have he:k=ps.length:=o_;subst he;obtain⟨y0,y1,_,_⟩:=aa_ hP.blk;obtain⟨aa,ca,rfl,haa⟩:=af_ hP.own0;obtain⟨an,cn,rfl,han⟩:=af_ hP.own1;obtain⟨ga,rfl,_⟩:=haa hR.len;obtain⟨gn,rfl,_⟩:=han hR.len;have HP:Hid (WMem W (w.heap.size+1) wo (hX E ps) ps.length (.slice (some ⟨gp,0,none⟩) ps.length cp) (.slice (some ⟨ga,0,none⟩) ps.length ca) (.slice (some ⟨gn,0,none⟩) ps.length cn) ps.length (a0_ (E.tab ps).acc ps.length) (b4_ (pn E.succ ps) ps.length)):=hP;have HR:Hid (PRel E.good E.succ ps (8*ps.length)):=hR;have HY0:Hid _:=y0;have HY1:Hid _:=y1;have HBw:Hid _:=hbw;clear hP hR hap hcp y0 y1 haa han x0 x1 hbw;go_wp2_with fail;go_ret;have hp:=HP.out;have hfin:ez_ wo (w.heap.size+1) ga ca gn cn (E.tab ps):=⟨HY0.out,HY1.out,fun x hx=>by
     have hx':x<ps.length:=hx;rw[hp.own0.cellAt x o_];exact lp_ _ _ _ hx',fun x c hx hc=>by
     have hx':x<ps.length:=hx;rw[hp.own1.cellAt (x*8+c) o_];exact ps_ _ _ _ _ hx' hc⟩
    have hrf:=HR.out;rw[HE.out]at hfin hrf;exact⟨HBw.out,ps,(w.heap.size+1),ga,ca,gn,cn,hrf,rfl,hfin⟩
def em_ (s:ByteArray)(d b:Int):Int:=
 if (decide (s.size<=12)&&ba_ s s.size)=false then 7 else if d<0\/2<d then 8 else if b<1\/40<b then 8 else 0
theorem acd_ (s:ByteArray)(most budget:Nat)(w:World)(hs:s.size<=12)(hm:most<=2)(ht:ed_ s)(hb0:1<=budget)(hb1:budget<=40):
 Calls prog 60 #[.string s,.int .i64 most,.int .i64 budget] w fun e w'=>∃n,di_ (Ear.lang ⟨ay_ s,s.size,most⟩) budget n w e w':=by
 have HT:=fun w=>jd_ s w u_
 rw[show(decide (s.size<=12)&&ba_ s s.size)=true by simp[hs,(ek_ s).2 ht]]at HT;obtain⟨W,hW,BW,b0,-⟩:=n2__ w #[.slice none 0 0,.slice none 0 0] 41 #[.string s,.int .i64 most] 115;have hWs:W.heap.size=w.heap.size+1+1:=by rw[hW];simp
 have HC:=s9_ s most W hs hm ht;have hm2:¬(2:Int)<(most:Int):=o_;have hm3:¬(most:Int)<0:=o_;go_enter func60,ntmps60;go_wp2_with (go_at_call 98;refine(HT _).mono ?_;rintro e w' ⟨rfl,rfl⟩);rw[<-hW];clear hW HT;refine HC.mono ?_;clear HC;rintro e w2 ⟨hB2,ps,gw,ga,ca,gn,cn,hR,rfl,hWd⟩;have hs2:=hB2.size;have hbd:=Ear.bound (E:=⟨ay_ s,s.size,most⟩) hs hR;have HC:=qz_ gw ga ca gn cn _ (Ear.lang ⟨ay_ s,s.size,most⟩) budget w2 hWd (Ear.numbered hR) (by show ps.length<=100000000;omega) (fun x hx=>Ear.tab_accepts hR x hx) hb0 hb1;have BW2:Below w.heap.size w w2:=BW.trans (hB2.mono o_);have a2:=(hB2.block _ o_).trans b0;clear hR hWd hB2;go_wp2_with fail;refine HC.mono ?_;intro e w3 hp;obtain⟨a0,n0,c0,a1,n1,c1,er,rfl,hB,hB1,hfin⟩:=hp.wrap BW2 o_;have a3:=(hB1.block _ o_).trans a2;have HF:Hid _:=hfin w.heap.size o_ o_;obtain⟨q0,q1,p0,p1⟩:=aa_ a3;clear HC hp hfin hB1;go_wp2_with fail;obtain⟨r1,r2,r3⟩:=a7_ (u:= .slice a0 n0 c0) (v:= .slice a1 n1 c1) a3;refine bodyPost_ret (v:= .tuple #[.agg #[.slice a0 n0 c0,.slice a1 n1 c1],.int .i64 er]) (by simp[results,results60,go_sem,r1,r2]) rfl ?_;exact⟨_,HF.out⟩
theorem ace_ (s:ByteArray)(d b:Int)(w:World)(hss:s.size<=maxLen)(hne:em_ s d b≠0):
 Calls prog 60 #[.string s,.int .i64 d,.int .i64 b] w fun e w'=>e= .returned (.tuple #[.agg #[.slice none 0 0,.slice none 0 0],.int .i64 (em_ s d b)])/\Below w.heap.size w w':=by
 have HT:=fun w=>jd_ s w hss
 obtain⟨W0,hW0,BW0,-,bb0⟩:=nw__ w #[.slice none 0 0,.slice none 0 0] 41;have HF0:Hid _:=az_ BW0 (b:=w.heap.size) o_ (.slice none 0 0) (.slice none 0 0);obtain⟨q0,q1,p0,p1⟩:=aa_ bb0;obtain⟨_,r2,r1⟩:=a7_ (u:= .slice none 0 0) (v:= .slice none 0 0) bb0;have HR1:Hid _:=r1;have HR2:Hid _:=r2;clear r1 r2;unfold em_ at hne ⊢;cases htt:(decide (s.size<=12)&&ba_ s s.size)
 . rw[htt]at HT;simp only[if_true];clear htt hne;have HT0:=HT W0;go_enter func60,ntmps60;go_upto_region 1 with fail;rw[<-hW0];clear hW0;go_wp2_with (go_at_call 98;refine HT0.mono ?_;rintro e w' ⟨rfl,hw'⟩;obtain rfl:W0=w':=hw'.symm);have r1:=HR1.out;have r2:=HR2.out;refine bodyPost_ret (v:= .tuple #[.agg #[.slice none 0 0,.slice none 0 0],.int .i64 7]) (by simp[results,results60,go_sem,r1,r2]) rfl ?_;exact⟨rfl,HF0.out⟩
 . rw[htt]at hne HT;simp only[Bool.true_eq_false,if_false]at hne ⊢;have HT0:=HT W0;by_cases hd:d<0\/2<d
   . simp only[if_pos hd];clear hne htt;rcases hd with hd|hd
     . go_enter func60,ntmps60;go_upto_region 1 with fail;rw[<-hW0];clear hW0;go_wp2_with (go_at_call 98;refine HT0.mono ?_;rintro e w' ⟨rfl,hw'⟩;obtain rfl:W0=w':=hw'.symm);have r1:=HR1.out;have r2:=HR2.out;refine bodyPost_ret (v:= .tuple #[.agg #[.slice none 0 0,.slice none 0 0],.int .i64 8]) (by simp[results,results60,go_sem,r1,r2]) rfl ?_;exact⟨rfl,HF0.out⟩
     . have hd':¬d<0:=o_;go_enter func60,ntmps60;go_upto_region 1 with fail;rw[<-hW0];clear hW0;go_wp2_with (go_at_call 98;refine HT0.mono ?_;rintro e w' ⟨rfl,hw'⟩;obtain rfl:W0=w':=hw'.symm);have r1:=HR1.out;have r2:=HR2.out;refine bodyPost_ret (v:= .tuple #[.agg #[.slice none 0 0,.slice none 0 0],.int .i64 8]) (by simp[results,results60,go_sem,r1,r2]) rfl ?_;exact⟨rfl,HF0.out⟩
   . simp only[if_neg hd]at hne ⊢;have hb:b<1\/40<b:=by
      refine Classical.byContradiction (fun h=> ?_);rw[if_neg h]at hne;exact hne rfl
     simp only[if_pos hb];clear hne HF0 HR1 HR2 q0 q1 p0 p1 HT0;have hs:s.size<=12:=by simp at htt;exact htt.1
     have ht:ed_ s:=(ek_ s).1 (by simp at htt;exact htt.2);obtain⟨most,rfl⟩:∃n:Nat,d=(n:Int):=⟨d.toNat,o_⟩;have hm:most<=2:=o_;obtain⟨W,hW,-,-,-⟩:=nw__ W0 #[.string s,.int .i64 most] 115;have BW:Below w.heap.size w W:=by rw[hW];exact BW0.alloc (by have:=BW0.size;omega) _
     have b0:W.heap[w.heap.size]? =some (.cells #[.slice none 0 0,.slice none 0 0] 41 (0,0)):=by rw[hW];exact ah_ bb0
     have hWs:w.heap.size<W.heap.size:=by rw[hW,hW0];simp;omega
     have HC:=s9_ s most W hs hm ht;rw[hW0]at hW;clear hW0 bb0 BW0;have hm2:¬(2:Int)<(most:Int):=o_;have hm3:¬(most:Int)<0:=o_;clear htt hd;go_enter func60,ntmps60;go_wp2_with (go_at_call 98;refine(HT _).mono ?_;rintro e w' ⟨rfl,rfl⟩);rw[<-hW];clear hW HT;refine HC.mono ?_;clear HC;rintro e w2 ⟨hB2,ps,gw,ga,ca,gn,cn,hR,rfl,hWd⟩;have hs2:=hB2.size;have hbd:=Ear.bound (E:=⟨ay_ s,s.size,most⟩) hs hR;have HC:=o9_ gw ga ca gn cn _ b w2 hWd (Ear.numbered hR) (by show ps.length<=100000000;omega) hb;have BW2:Below w.heap.size w w2:=BW.trans (hB2.mono o_);have a2:=(hB2.block _ o_).trans b0;clear hR hWd hB2;go_wp2_with fail;refine HC.mono ?_;clear HC;rintro e w5 ⟨rfl,hB5⟩;have a3:=(hB5.block _ o_).trans a2;have BW5:Below w.heap.size w w5:=BW2.trans (hB5.mono o_);have HF:Hid _:=az_ BW5 (b:=w.heap.size) o_ (.slice none 0 0) (.slice none 0 0);obtain⟨q0,q1,p0,p1⟩:=aa_ a3;clear hB5 a2;go_wp2_with fail;obtain⟨r1,r2,r3⟩:=a7_ (u:= .slice none 0 0) (v:= .slice none 0 0) a3;refine bodyPost_ret (v:= .tuple #[.agg #[.slice none 0 0,.slice none 0 0],.int .i64 8]) (by simp[results,results60,go_sem,r1,r2]) rfl ?_;exact⟨rfl,HF.out⟩
theorem aej_ (s:ByteArray)(most budget:Nat)(w:World)(hs:s.size<=12)(hm:most<=2)(ht:ed_ s)(hb0:1<=budget)(hb1:budget<=40):
 Calls prog 27 #[.string s,.int .i64 most,.int .i64 budget] w fun e w'=>∃n,di_ (Ear.lang ⟨ay_ s,s.size,most⟩) budget n w e w':=by
 obtain⟨W,hW,BW,-,-⟩:=nw__ w #[.slice none 0 0,.slice none 0 0] 41;have hWs:W.heap.size=w.heap.size+1:=by rw[hW];simp
 have b0:=hn__ hW;have HC:=acd_ s most budget W hs hm ht hb0 hb1;go_enter func27,ntmps27;go_wp2_with fail;rw[<-hW];clear hW;refine HC.mono ?_;rintro e w1 ⟨n,hp⟩;obtain⟨a0,n0,c0,a1,n1,c1,er,rfl,hB,hB1,hfin⟩:=hp.wrap BW o_;have a2:=(hB1.block _ o_).trans b0;have HF:Hid _:=hfin w.heap.size o_ o_;obtain⟨q0,q1,p0,p1⟩:=aa_ a2;clear HC hp hfin hB1 b0;go_wp2_with fail;obtain⟨r1,r2,r3⟩:=a7_ (u:= .slice a0 n0 c0) (v:= .slice a1 n1 c1) a2;refine bodyPost_ret (v:= .tuple #[.agg #[.slice a0 n0 c0,.slice a1 n1 c1],.int .i64 er]) (by simp[results,results27,go_sem,r1,r2]) rfl ?_;exact⟨n,HF.out⟩
theorem aek_ (s:ByteArray)(d b:Int)(w:World)(hss:s.size<=maxLen)(hne:em_ s d b≠0):
 Calls prog 27 #[.string s,.int .i64 d,.int .i64 b] w fun e w'=>e= .returned (.tuple #[.agg #[.slice none 0 0,.slice none 0 0],.int .i64 (em_ s d b)])/\Below w.heap.size w w':=by
 obtain⟨W,hW,BW,-,-⟩:=nw__ w #[.slice none 0 0,.slice none 0 0] 41;have hWs:W.heap.size=w.heap.size+1:=by rw[hW];simp
 have b0:=hn__ hW;have HC:=ace_ s d b W hss hne;obtain⟨er,HE⟩:=hx__ (em_ s d b);rw[HE.out]at HC ⊢;clear hne HE;go_enter func27,ntmps27;go_wp2_with fail;rw[<-hW];clear hW;refine HC.mono ?_;clear HC;rintro e w1 ⟨rfl,hB1⟩;have a2:=(hB1.block _ o_).trans b0;have BW1:Below w.heap.size w w1:=BW.trans (hB1.mono o_);have HF:Hid _:=az_ BW1 (b:=w.heap.size) o_ (.slice none 0 0) (.slice none 0 0);obtain⟨q0,q1,p0,p1⟩:=aa_ a2;clear hB1 b0;go_wp2_with fail;obtain⟨r1,r2,r3⟩:=a7_ (u:= .slice none 0 0) (v:= .slice none 0 0) a2;refine bodyPost_ret (v:= .tuple #[.agg #[.slice none 0 0,.slice none 0 0],.int .i64 er]) (by simp[results,results27,go_sem,r1,r2]) rfl ?_;exact⟨rfl,HF.out⟩
end Go.Proofs.YtpngikmcjkjdaaaGreatDoor
