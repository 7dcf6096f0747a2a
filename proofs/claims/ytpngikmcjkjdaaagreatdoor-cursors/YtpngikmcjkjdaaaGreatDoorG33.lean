import Derived.Test.YtpngikmcjkjdaaaGreatDoorG0
import Derived.BigQuiet
import Derived.Deep.RegionHeld3
import Derived.Deep.RegionWith
import Derived.Test.YtpngikmcjkjdaaaGreatDoorG19
import Derived.Test.YtpngikmcjkjdaaaGreatDoorG21
set_option linter.unusedVariables false
set_option linter.unusedSimpArgs false
set_option maxRecDepth 20000
set_option maxHeartbeats 80000000
namespace Go.Proofs.YtpngikmcjkjdaaaGreatDoor
open Go.RowKit Tryz
theorem qq_ (e:Ex):∀(g:Nat) (w:World),ExAt w g e->Calls prog 151 #[.pointer (some ⟨g,0,none⟩)] w fun r w'=>r= .returned (.bool e.empty)/\w=w':=by
 induction e with
 |nil=>
  intro g w h;have k0:=h.kind;simp only[Ex.kind,show((0:Nat):Int)=0 from rfl]at k0;go_enter func151,ntmps151;go_wp2_with fail;go_ret;exact⟨rfl,rfl⟩
 |one S=>
  intro g w h;have k0:=h.kind;simp only[Ex.kind,show((1:Nat):Int)=1 from rfl]at k0;go_enter func151,ntmps151;go_wp2_with fail;go_ret;exact⟨rfl,rfl⟩
 |star a _=>
  intro g w h;have k0:=h.kind;simp only[Ex.kind,show((4:Nat):Int)=4 from rfl]at k0;go_enter func151,ntmps151;go_wp2_with fail;go_ret;exact⟨rfl,rfl⟩
 |thn a b iha ihb=>
  intro g w h;have k0:=h.kind;simp only[Ex.kind,show((2:Nat):Int)=2 from rfl]at k0;obtain⟨ga,gb,h1,h2,h3⟩:=h;obtain⟨c9,c10⟩:=fb_ h1;unfold ptr at c9 c10;have HA:=iha ga w h2;have HB:=ihb gb w h3;simp only[Ex.empty];obtain⟨ea,HEA⟩:=hx__ (a.empty);obtain⟨eb,HEB⟩:=hx__ (b.empty);rw[HEA.out]at HA ⊢;rw[HEB.out]at HB ⊢;clear iha ihb h1 h2 h3;go_enter func151,ntmps151;go_wp2_with fail;refine HA.mono ?_;rintro e w1 ⟨rfl,rfl⟩;go_wp2_with fail;refine HB.mono ?_;rintro e w1 ⟨rfl,rfl⟩;cases ea<;>(go_wp2_with fail;go_ret;exact⟨rfl,rfl⟩)
 |alt a b iha ihb=>
  intro g w h;have k0:=h.kind;simp only[Ex.kind,show((3:Nat):Int)=3 from rfl]at k0;obtain⟨ga,gb,h1,h2,h3⟩:=h;obtain⟨c9,c10⟩:=fb_ h1;unfold ptr at c9 c10;have HA:=iha ga w h2;have HB:=ihb gb w h3;simp only[Ex.empty];obtain⟨ea,HEA⟩:=hx__ (a.empty);obtain⟨eb,HEB⟩:=hx__ (b.empty);rw[HEA.out]at HA ⊢;rw[HEB.out]at HB ⊢;clear iha ihb h1 h2 h3;go_enter func151,ntmps151;go_wp2_with fail;refine HA.mono ?_;rintro e w1 ⟨rfl,rfl⟩;go_wp2_with fail;refine HB.mono ?_;rintro e w1 ⟨rfl,rfl⟩;cases ea<;>(go_wp2_with fail;go_ret;exact⟨rfl,rfl⟩)
def Ex.nb (e:Ex):ByteArray:=⟨e.nm.toArray⟩
theorem fn_ (e:Ex):lsb e.nb=e.nm:=by simp[lsb,Ex.nb]
theorem j8_ (e:Ex):e.nb.size=e.nm.length:=by rw[<-abe_,fn_]
theorem en_ (a b:ByteArray):lsb (a++b)=lsb a++lsb b:=by simp[lsb]
theorem ael_ (a:Ex):(Ex.star a).nb=(⟨#[40]⟩++a.nb)++⟨#[41,42]⟩:=by
 apply hb_;rw[en_,en_,fn_,fn_];rfl
theorem aff_ (a b:Ex):(Ex.thn a b).nb=((⟨#[40]⟩++a.nb)++⟨#[44]⟩++b.nb)++⟨#[41]⟩:=by
 apply hb_;rw[en_,en_,en_,en_,fn_,fn_,fn_];simp[Ex.nm,lsb]
theorem afg_ (a b:Ex):(Ex.alt a b).nb=((⟨#[40]⟩++a.nb)++⟨#[124]⟩++b.nb)++⟨#[41]⟩:=by
 apply hb_;rw[en_,en_,en_,en_,fn_,fn_,fn_];simp[Ex.nm,lsb]
def NmC (e:Ex):Prop:=∀(g:Nat) (w:World),ExAt w g e->e.nm.length<=2^60->Calls prog 150 #[.pointer (some ⟨g,0,none⟩)] w fun r w'=>r= .returned (.string e.nb)/\Below w.heap.size w w'
theorem zo_:NmC .nil:=by
 intro g w h hn;have k0:=h.kind;simp only[Ex.kind,show((0:Nat):Int)=0 from rfl]at k0;have e0:(Ex.nil).nb=⟨#[45]⟩:=rfl;rw[e0];clear hn;go_enter func150,ntmps150;go_wp2_with fail;go_ret;exact⟨rfl,br__⟩
theorem w2_ (a:Ex)(iha:NmC a):NmC (.star a):=by
 intro g w h hn;have k0:=h.kind;simp only[Ex.kind,show((4:Nat):Int)=4 from rfl]at k0;obtain⟨ga,h1,h2⟩:=h;obtain⟨c9,c10⟩:=fb_ h1;unfold ptr at c9;rw[nq_]at hn;have HA:=iha ga w h2 o_;have hz:a.nb.size<=2^60:=by rw[j8_];omega
 rw[ael_];obtain⟨b,HB⟩:=hx__ (a.nb);rw[HB.out]at HA hz ⊢;clear iha h1 h2 hn HB;go_enter func150,ntmps150;go_wp2_with fail;refine HA.mono ?_;rintro e w1 ⟨rfl,hB⟩;go_wp2_with fail;go_ret;exact⟨rfl,hB⟩
theorem zp_ (a b:Ex)(iha:NmC a)(ihb:NmC b):NmC (.thn a b):=by
 intro g w h hn;have k0:=h.kind;simp only[Ex.kind,show((2:Nat):Int)=2 from rfl]at k0;obtain⟨ga,gb,h1,h2,h3⟩:=h;obtain⟨c9,c10⟩:=fb_ h1;have hg:=ac_ h1;unfold ptr at c9 c10;rw[pj_]at hn;have HU:∀w',Below w.heap.size w w'->Calls prog 150 #[.pointer (some ⟨ga,0,none⟩)] w' fun r w''=>r= .returned (.string a.nb)/\Below w.heap.size w w'':=fun w' hb=>(iha ga w' (h2.below hb) o_).mono (fun e w'' h=>⟨h.1,hb.trans (h.2.mono hb.size)⟩)
 have HV:∀w',Below w.heap.size w w'->Calls prog 150 #[.pointer (some ⟨gb,0,none⟩)] w' fun r w''=>r= .returned (.string b.nb)/\Below w.heap.size w w'':=fun w' hb=>(ihb gb w' (h3.below hb) o_).mono (fun e w'' h=>⟨h.1,hb.trans (h.2.mono hb.size)⟩)
 have hz:a.nb.size<=2^60:=by rw[j8_];omega
 have hz2:b.nb.size<=2^60:=by rw[j8_];omega
 rw[aff_];obtain⟨x,HX⟩:=hx__ (a.nb);obtain⟨y,HY⟩:=hx__ (b.nb);rw[HX.out]at HU hz ⊢;rw[HY.out]at HV hz2 ⊢;have n1:¬9223372036854775807<1+x.size:=o_;have n2:¬9223372036854775807<1+x.size+1:=o_;have n3:¬9223372036854775807<1+x.size+1+y.size:=o_;have n4:¬9223372036854775807<1+x.size+1+y.size+1:=o_;clear iha ihb h1 h2 h3 hn HX HY;go_enter func150,ntmps150;go_wp2_with fail;go_region_held3 (fun w'=>w'.cell? ⟨g,9,none⟩=some (.pointer (some ⟨ga,0,none⟩))/\w'.cell? ⟨g,10,none⟩=some (.pointer (some ⟨gb,0,none⟩))) (go_keep)
  (first
   |(go_at_call_of 150 ga;refine Calls.mono (HU _ ((Below.refl w.heap.size w).drew)) ?_;rintro e w1 ⟨rfl,hB1⟩;have d9:=(hB1.cell (p:=⟨g,9,none⟩) hg).trans c9;have d10:=(hB1.cell (p:=⟨g,10,none⟩) hg).trans c10;have HV1:=HV _ hB1;clear HU HV)
   |(go_at_call_of 150 gb;refine Calls.mono HV1 ?_;rintro e w2 ⟨rfl,hB2⟩;have d9':=(hB2.cell (p:=⟨g,9,none⟩) hg).trans c9;have d10':=(hB2.cell (p:=⟨g,10,none⟩) hg).trans c10;clear HV1))
 all_goals
  go_wp2_with fail;go_ret;exact⟨rfl,hB2⟩
theorem zq_ (a b:Ex)(iha:NmC a)(ihb:NmC b):NmC (.alt a b):=by
 intro g w h hn;have k0:=h.kind;simp only[Ex.kind,show((3:Nat):Int)=3 from rfl]at k0;obtain⟨ga,gb,h1,h2,h3⟩:=h;obtain⟨c9,c10⟩:=fb_ h1;have hg:=ac_ h1;unfold ptr at c9 c10;rw[pk_]at hn;have HU:∀w',Below w.heap.size w w'->Calls prog 150 #[.pointer (some ⟨ga,0,none⟩)] w' fun r w''=>r= .returned (.string a.nb)/\Below w.heap.size w w'':=fun w' hb=>(iha ga w' (h2.below hb) o_).mono (fun e w'' h=>⟨h.1,hb.trans (h.2.mono hb.size)⟩)
 have HV:∀w',Below w.heap.size w w'->Calls prog 150 #[.pointer (some ⟨gb,0,none⟩)] w' fun r w''=>r= .returned (.string b.nb)/\Below w.heap.size w w'':=fun w' hb=>(ihb gb w' (h3.below hb) o_).mono (fun e w'' h=>⟨h.1,hb.trans (h.2.mono hb.size)⟩)
 have hz:a.nb.size<=2^60:=by rw[j8_];omega
 have hz2:b.nb.size<=2^60:=by rw[j8_];omega
 rw[afg_];obtain⟨x,HX⟩:=hx__ (a.nb);obtain⟨y,HY⟩:=hx__ (b.nb);rw[HX.out]at HU hz ⊢;rw[HY.out]at HV hz2 ⊢;have n1:¬9223372036854775807<1+x.size:=o_;have n2:¬9223372036854775807<1+x.size+1:=o_;have n3:¬9223372036854775807<1+x.size+1+y.size:=o_;have n4:¬9223372036854775807<1+x.size+1+y.size+1:=o_;clear iha ihb h1 h2 h3 hn HX HY;go_enter func150,ntmps150;go_wp2_with fail;go_region_held3 (fun w'=>w'.cell? ⟨g,9,none⟩=some (.pointer (some ⟨ga,0,none⟩))/\w'.cell? ⟨g,10,none⟩=some (.pointer (some ⟨gb,0,none⟩))) (go_keep)
  (first
   |(go_at_call_of 150 ga;refine Calls.mono (HU _ ((Below.refl w.heap.size w).drew)) ?_;rintro e w1 ⟨rfl,hB1⟩;have d9:=(hB1.cell (p:=⟨g,9,none⟩) hg).trans c9;have d10:=(hB1.cell (p:=⟨g,10,none⟩) hg).trans c10;have HV1:=HV _ hB1;clear HU HV)
   |(go_at_call_of 150 gb;refine Calls.mono HV1 ?_;rintro e w2 ⟨rfl,hB2⟩;have d9':=(hB2.cell (p:=⟨g,9,none⟩) hg).trans c9;have d10':=(hB2.cell (p:=⟨g,10,none⟩) hg).trans c10;clear HV1))
 all_goals
  go_wp2_with fail;go_ret;exact⟨rfl,hB2⟩
theorem aem_ (S:Nat->Bool):(Ex.one S).nb=⟨(91::setL S 8).toArray⟩++⟨#[93]⟩:=by
 apply hb_;rw[en_,fn_];simp[Ex.nm,lsb]
def setB (S:Nat->Bool)(c:Nat):ByteArray:=⟨(91::setL S c).toArray⟩
theorem qr_ (S:Nat->Bool)(c:Nat):(setB S c).size<=1+c:=by
 have:=sl_ S c;show(91::setL S c).toArray.size<=1+c
 simp;omega
theorem aen_ {S:Nat->Bool}{c:Nat}(h:S c=false):setB S (c+1)=setB S c:=by simp[setB,setL,h]
theorem acf_ {S:Nat->Bool}{c:Nat}(h:S c=true):setB S (c+1)=setB S c++⟨#[jc_ c]⟩:=by
 apply hb_;rw[en_];simp[setB,setL,h,lsb,jc_]
theorem zr_ (S:Nat->Bool):NmC (.one S):=by
 intro g w h hn;have k0:=h.kind;simp only[Ex.kind,show((1:Nat):Int)=1 from rfl]at k0;have hg:=h.lt;have hS:∀c,c<8->w.cell? ⟨g,1+c,none⟩=some (.bool (S c)):=fun c hc=>(id_ h hc).1
 have s0:setB S 0=⟨#[91]⟩:=rfl;have HE:Hid ((Ex.one S).nb=setB S 8++⟨#[93]⟩):=aem_ S;have hnb:(Ex.one S).nb=setB S 8++⟨#[93]⟩:=HE.out;rw[hnb];have hz8:=qr_ S 8;clear h hn HE hnb;go_enter func150,ntmps150;go_wp2_with fail;go_loopw [3,4] (fun s' i' wr=>∃c:Nat,c<=8/\s'= .string (setB S c)/\i'= .int .i64 (c:Int)/\Below w.heap.size w wr) (fun _ i' _=>8 - (intOf i').toNat)
 case atStart=>exact⟨0,o_,by rw[s0],rfl,br__⟩
 case round=>
  obtain⟨c,hc,rfl,rfl,hB⟩:=hrel;by_cases hc8:c<8
  . have hz:=qr_ S c;have c1:=(hB.cell (p:=⟨g,1+c,none⟩) hg).trans (hS c hc8);cases hs:S c
    . rw[hs]at c1;have HN:Hid (setB S (c+1)=setB S c):=aen_ hs;clear hs hS;go_wp2_with fail;go_roundw
      case rel=>exact⟨c+1,o_,by rw[HN.out],by go_num,hB⟩
      case measure=>simp[intOf];omega
    . rw[hs]at c1;have HN:Hid (setB S (c+1)=setB S c++⟨#[jc_ c]⟩):=acf_ hs;have hcv:Sem.run prog (convert 110 9 (.slice (some ⟨wr.heap.size,0,none⟩) 1 1)) (wr.alloc (.cells #[.int .u8 (97+(c:Int))] 5))= .ok (.string ⟨#[jc_ c]⟩) (wr.alloc (.cells #[.int .u8 (97+(c:Int))] 5)):=yi_ c hc8 wr;have h97:IntKind.u8.wrap (IntKind.i64.wrap (97+(c:Int)))=97+(c:Int):=by rw[IntKind.wrap_i64,IntKind.wrap_u8];omega
      have h97':IntKind.u8.wrap (97+(c:Int))=97+(c:Int):=by rw[IntKind.wrap_u8];omega
      clear hs hS;go_wp2_with fail;go_roundw
      case rel=>exact⟨c+1,o_,by rw[HN.out],by go_num,hB.alloc hB.size _⟩
      case measure=>simp[intOf];omega
  . obtain rfl:c=8:=o_;clear hS;go_wp2_with fail;go_ret;exact⟨rfl,hB⟩
theorem acg_ (e:Ex):NmC e:=by
 induction e with
 |nil=>exact zo_
 |one S=>exact zr_ S
 |star a iha=>exact w2_ a iha
 |thn a b iha ihb=>exact zp_ a b iha ihb
 |alt a b iha ihb=>exact zq_ a b iha ihb
end Go.Proofs.YtpngikmcjkjdaaaGreatDoor
