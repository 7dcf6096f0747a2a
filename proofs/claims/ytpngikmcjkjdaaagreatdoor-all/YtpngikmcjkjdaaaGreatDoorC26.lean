import Derived.Deep.RegionHeld3
import Derived.Deep.RegionWith
import Derived.Test.YtpngikmcjkjdaaaGreatDoorC16
set_option linter.unusedVariables false
set_option linter.unusedSimpArgs false
set_option maxRecDepth 20000
set_option maxHeartbeats 80000000
namespace Go.Proofs.YtpngikmcjkjdaaaGreatDoor
open Go.RowKit Tryz List Nat
variable {c:Nat} {S:Nat->Bool}
theorem yx_ (e:Ex):∀(g:Nat) (w:World),Τ w g e->Calls prog 151 #[.pointer (some ⟨g,0,none⟩)] w fun r w'=>r= .returned (.bool e.empty)/\w=w':=by
 induction e with
 |nil=>
  intro g w h;have c:=h.kind;simp only[Ex.kind,show((0:Nat):Int)=0 from rfl]at c;go_enter func151,ntmps151;go_wp2_with fail;go_ret;exact⟨rfl,rfl⟩
 |one S=>
  intro g w h;have c:=h.kind;simp only[Ex.kind,show((1:Nat):Int)=1 from rfl]at c;go_enter func151,ntmps151;go_wp2_with fail;go_ret;exact⟨rfl,rfl⟩
 |star a _=>
  intro g w h;have c:=h.kind;simp only[Ex.kind,show((4:Nat):Int)=4 from rfl]at c;go_enter func151,ntmps151;go_wp2_with fail;go_ret;exact⟨rfl,rfl⟩
 |thn a b iha ihb=>
  intro g w h;have c:=h.kind;simp only[Ex.kind,show((2:Nat):Int)=2 from rfl]at c;obtain⟨q,s,i,j,k⟩:=h;obtain⟨o,n⟩:=j4_ i;unfold ptr at o n;have d:=iha q w j;have f:=ihb s w k;simp only[Ex.empty];obtain⟨p,l⟩:=δ (a.empty);obtain⟨u,m⟩:=δ (b.empty);rw[l.out]at d ⊢;rw[m.out]at f ⊢;clear iha ihb i j k;go_enter func151,ntmps151;go_wp2_with fail;refine d.mono ?_;rintro e t ⟨rfl,rfl⟩;go_wp2_with fail;refine f.mono ?_;rintro e t ⟨rfl,rfl⟩;cases p<;>(go_wp2_with fail;go_ret;exact⟨rfl,rfl⟩)
 |alt a b iha ihb=>
  intro g w h;have c:=h.kind;simp only[Ex.kind,show((3:Nat):Int)=3 from rfl]at c;obtain⟨q,s,i,j,k⟩:=h;obtain⟨o,n⟩:=j4_ i;unfold ptr at o n;have d:=iha q w j;have f:=ihb s w k;simp only[Ex.empty];obtain⟨p,l⟩:=δ (a.empty);obtain⟨u,m⟩:=δ (b.empty);rw[l.out]at d ⊢;rw[m.out]at f ⊢;clear iha ihb i j k;go_enter func151,ntmps151;go_wp2_with fail;refine d.mono ?_;rintro e t ⟨rfl,rfl⟩;go_wp2_with fail;refine f.mono ?_;rintro e t ⟨rfl,rfl⟩;cases p<;>(go_wp2_with fail;go_ret;exact⟨rfl,rfl⟩)
def Ex.nb (e:Ex):ByteArray:=⟨e.nm.toArray⟩
theorem h0_ (e:Ex):ω e.nb=e.nm:=by simp[ω,Ex.nb]
theorem nt_ (e:Ex):e.nb.size=e.nm.length:=by rw[<-eq_,h0_]
theorem h1_ (a b:ByteArray):ω (a++b)=ω a++ω b:=by simp[ω]
theorem ajc_ (a:Ex):(Ex.star a).nb=(⟨#[40]⟩++a.nb)++⟨#[41,42]⟩:=by
 apply hv_;rw[h1_,h1_,h0_,h0_];rfl
theorem ajd_ (a b:Ex):(Ex.thn a b).nb=((⟨#[40]⟩++a.nb)++⟨#[44]⟩++b.nb)++⟨#[41]⟩:=by
 apply hv_;rw[h1_,h1_,h1_,h1_,h0_,h0_,h0_];simp[Ex.nm,ω]
theorem aje_ (a b:Ex):(Ex.alt a b).nb=((⟨#[40]⟩++a.nb)++⟨#[124]⟩++b.nb)++⟨#[41]⟩:=by
 apply hv_;rw[h1_,h1_,h1_,h1_,h0_,h0_,h0_];simp[Ex.nm,ω]
def NmC (e:Ex):Prop:=∀(g:Nat) (w:World),Τ w g e->e.nm.length<=2^60->Calls prog 150 #[.pointer (some ⟨g,0,none⟩)] w fun r w'=>r= .returned (.string e.nb)/\Bl w w'
theorem ajf_:NmC .nil:=by
 intro g w h b;have c:=h.kind;simp only[Ex.kind,show((0:Nat):Int)=0 from rfl]at c;have a:(Ex.nil).nb=⟨#[45]⟩:=rfl;rw[a];clear b;go_enter func150,ntmps150;go_wp2_with fail;go_ret;exact⟨rfl,μ⟩
theorem ajg_ (a:Ex)(iha:NmC a):NmC (.star a):=by
 intro g w h j;have o:=h.kind;simp only[Ex.kind,show((4:Nat):Int)=4 from rfl]at o;obtain⟨l,f,i⟩:=h;obtain⟨k,p⟩:=j4_ f;unfold ptr at k;rw[rt_]at j;have c:=iha l w i o_;have n:a.nb.size<=2^60:=by rw[nt_];omega
 rw[ajc_];obtain⟨b,d⟩:=δ (a.nb);rw[d.out]at c n ⊢;clear iha f i j d;go_enter func150,ntmps150;go_wp2_with fail;refine c.mono ?_;rintro e q ⟨rfl,m⟩;go_wp2_with fail;go_ret;exact⟨rfl,m⟩
theorem ajh_ (a b:Ex)(iha:NmC a)(ihb:NmC b):NmC (.thn a b):=by
 intro g w h z;have C:=h.kind;simp only[Ex.kind,show((2:Nat):Int)=2 from rfl]at C;obtain⟨c,d,m,u,v⟩:=h;obtain⟨l,k⟩:=j4_ m;have f:=κ m;unfold ptr at l k;rw[rr_]at z;have i:∀w',Bl w w'->Calls prog 150 #[.pointer (some ⟨c,0,none⟩)] w' fun r w''=>r= .returned (.string a.nb)/\Bl w w'':=fun w' hb=>(iha c w' (u.below hb) o_).mono (fun e w'' h=>⟨h.1,hb.trans (h.2.mono hb.size)⟩)
 have j:∀w',Bl w w'->Calls prog 150 #[.pointer (some ⟨d,0,none⟩)] w' fun r w''=>r= .returned (.string b.nb)/\Bl w w'':=fun w' hb=>(ihb d w' (v.below hb) o_).mono (fun e w'' h=>⟨h.1,hb.trans (h.2.mono hb.size)⟩)
 have A:a.nb.size<=2^60:=by rw[nt_];omega
 have B:b.nb.size<=2^60:=by rw[nt_];omega
 rw[ajd_];obtain⟨x,s⟩:=δ (a.nb);obtain⟨y,t⟩:=δ (b.nb);rw[s.out]at i A ⊢;rw[t.out]at j B ⊢;have F:¬9223372036854775807<1+x.size:=o_;have G:¬9223372036854775807<1+x.size+1:=o_;have H:¬9223372036854775807<1+x.size+1+y.size:=o_;have I:¬9223372036854775807<1+x.size+1+y.size+1:=o_;clear iha ihb m u v z s t;go_enter func150,ntmps150;go_wp2_with fail;go_region_held3 (fun w'=>w'.cell? ⟨g,9,none⟩=some (.pointer (some ⟨c,0,none⟩))/\w'.cell? ⟨g,10,none⟩=some (.pointer (some ⟨d,0,none⟩))) (go_keep)
  (first
   |(go_at_call_of 150 c;refine Calls.mono (i _ ((Below.refl w.heap.size w).drew)) ?_;rintro e J ⟨rfl,n⟩;have d9:=(n.cell (p:=⟨g,9,none⟩) f).trans l;have d10:=(n.cell (p:=⟨g,10,none⟩) f).trans k;have q:=j _ n;clear i j)
   |(go_at_call_of 150 d;refine Calls.mono q ?_;rintro e K ⟨rfl,o⟩;have E:=(o.cell (p:=⟨g,9,none⟩) f).trans l;have D:=(o.cell (p:=⟨g,10,none⟩) f).trans k;clear q))
 all_goals
  go_wp2_with fail;go_ret;exact⟨rfl,o⟩
theorem aji_ (a b:Ex)(iha:NmC a)(ihb:NmC b):NmC (.alt a b):=by
 intro g w h z;have C:=h.kind;simp only[Ex.kind,show((3:Nat):Int)=3 from rfl]at C;obtain⟨c,d,m,u,v⟩:=h;obtain⟨l,k⟩:=j4_ m;have f:=κ m;unfold ptr at l k;rw[rs_]at z;have i:∀w',Bl w w'->Calls prog 150 #[.pointer (some ⟨c,0,none⟩)] w' fun r w''=>r= .returned (.string a.nb)/\Bl w w'':=fun w' hb=>(iha c w' (u.below hb) o_).mono (fun e w'' h=>⟨h.1,hb.trans (h.2.mono hb.size)⟩)
 have j:∀w',Bl w w'->Calls prog 150 #[.pointer (some ⟨d,0,none⟩)] w' fun r w''=>r= .returned (.string b.nb)/\Bl w w'':=fun w' hb=>(ihb d w' (v.below hb) o_).mono (fun e w'' h=>⟨h.1,hb.trans (h.2.mono hb.size)⟩)
 have A:a.nb.size<=2^60:=by rw[nt_];omega
 have B:b.nb.size<=2^60:=by rw[nt_];omega
 rw[aje_];obtain⟨x,s⟩:=δ (a.nb);obtain⟨y,t⟩:=δ (b.nb);rw[s.out]at i A ⊢;rw[t.out]at j B ⊢;have F:¬9223372036854775807<1+x.size:=o_;have G:¬9223372036854775807<1+x.size+1:=o_;have H:¬9223372036854775807<1+x.size+1+y.size:=o_;have I:¬9223372036854775807<1+x.size+1+y.size+1:=o_;clear iha ihb m u v z s t;go_enter func150,ntmps150;go_wp2_with fail;go_region_held3 (fun w'=>w'.cell? ⟨g,9,none⟩=some (.pointer (some ⟨c,0,none⟩))/\w'.cell? ⟨g,10,none⟩=some (.pointer (some ⟨d,0,none⟩))) (go_keep)
  (first
   |(go_at_call_of 150 c;refine Calls.mono (i _ ((Below.refl w.heap.size w).drew)) ?_;rintro e J ⟨rfl,n⟩;have d9:=(n.cell (p:=⟨g,9,none⟩) f).trans l;have d10:=(n.cell (p:=⟨g,10,none⟩) f).trans k;have q:=j _ n;clear i j)
   |(go_at_call_of 150 d;refine Calls.mono q ?_;rintro e K ⟨rfl,o⟩;have E:=(o.cell (p:=⟨g,9,none⟩) f).trans l;have D:=(o.cell (p:=⟨g,10,none⟩) f).trans k;clear q))
 all_goals
  go_wp2_with fail;go_ret;exact⟨rfl,o⟩
theorem ajj_ (S:Nat->Bool):(Ex.one S).nb=⟨(91::eo_ S 8).toArray⟩++⟨#[93]⟩:=by
 apply hv_;rw[h1_,h0_];simp[Ex.nm,ω]
def gg_ (S:Nat->Bool)(c:Nat):ByteArray:=⟨(91::eo_ S c).toArray⟩
theorem yy_ (S:Nat->Bool)(c:Nat):(gg_ S c).size<=1+c:=by
 have:=wk_ S c;show(91::eo_ S c).toArray.size<=1+c
 simp;omega
theorem ajk_ (h:S c=false):gg_ S (c+1)=gg_ S c:=by simp[gg_,eo_,h]
theorem ajl_ (h:S c=true):gg_ S (c+1)=gg_ S c++⟨#[g2_ c]⟩:=by
 apply hv_;rw[h1_];simp[gg_,eo_,h,ω,g2_]
theorem ajm_ (S:Nat->Bool):NmC (.one S):=by
 intro g w h m;have n:=h.kind;simp only[Ex.kind,show((1:Nat):Int)=1 from rfl]at n;have l:=h.lt;have b:∀c,c<8->w.cell? ⟨g,1+c,none⟩=some (.bool (S c)):=fun c i=>(lp_ h i).1
 have o:gg_ S 0=⟨#[91]⟩:=rfl;have e:Hid ((Ex.one S).nb=gg_ S 8++⟨#[93]⟩):=ajj_ S;have k:(Ex.one S).nb=gg_ S 8++⟨#[93]⟩:=e.out;rw[k];have u:=yy_ S 8;clear h m e k;go_enter func150,ntmps150;go_wp2_with fail;go_loopw [3,4] (fun s' i' wr=>∃c:Nat,c<=8/\s'= .string (gg_ S c)/\i'= .int .i64 (c:Int)/\Bl w wr) (fun _ i' _=>8 - (intOf i').toNat)
 case atStart=>exact⟨0,o_,by rw[o],rfl,μ⟩
 case round=>
  obtain⟨c,i,rfl,rfl,a⟩:=hrel;by_cases j:c<8
  . have t:=yy_ S c;have f:=(a.cell (p:=⟨g,1+c,none⟩) l).trans (b c j);cases hs:S c
    . rw[hs]at f;have d:Hid (gg_ S (c+1)=gg_ S c):=ajk_ hs;clear hs b;go_wp2_with fail;go_roundw
      case rel=>exact⟨c+1,o_,by rw[d.out],by go_num,a⟩
      case measure=>exact c_
    . rw[hs]at f;have d:Hid (gg_ S (c+1)=gg_ S c++⟨#[g2_ c]⟩):=ajl_ hs;have s:Sem.run prog (convert 110 9 (.slice (some ⟨wr.heap.size,0,none⟩) 1 1)) (wr.alloc (.cells #[.int .u8 (97+(c:Int))] 5))= .ok (.string ⟨#[g2_ c]⟩) (wr.alloc (.cells #[.int .u8 (97+(c:Int))] 5)):=xk_ c j wr;have q:IntKind.u8.wrap (IntKind.i64.wrap (97+(c:Int)))=97+(c:Int):=by rw[IntKind.wrap_i64,IntKind.wrap_u8];omega
      have r:IntKind.u8.wrap (97+(c:Int))=97+(c:Int):=by rw[IntKind.wrap_u8];omega
      clear hs b;go_wp2_with fail;go_roundw
      case rel=>exact⟨c+1,o_,by rw[d.out],by go_num,a.alloc a.size _⟩
      case measure=>exact c_
  . obtain rfl:c=8:=o_;clear b;go_wp2_with fail;go_ret;exact⟨rfl,a⟩
theorem ajn_ (e:Ex):NmC e:=by
 induction e with
 |nil=>exact ajf_
 |one S=>exact ajm_ S
 |star a iha=>exact ajg_ a iha
 |thn a b iha ihb=>exact ajh_ a b iha ihb
 |alt a b iha ihb=>exact aji_ a b iha ihb
end Go.Proofs.YtpngikmcjkjdaaaGreatDoor
