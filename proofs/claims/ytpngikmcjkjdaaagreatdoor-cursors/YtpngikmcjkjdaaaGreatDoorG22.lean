import Derived.Test.YtpngikmcjkjdaaaGreatDoorG0
import Derived.Test.YtpngikmcjkjdaaaGreatDoorG11
import Derived.Test.YtpngikmcjkjdaaaGreatDoorG19
import Derived.Test.YtpngikmcjkjdaaaGreatDoorG21
set_option linter.unusedVariables false
set_option linter.unusedSimpArgs false
set_option maxRecDepth 20000
set_option maxHeartbeats 80000000
namespace Go.Proofs.YtpngikmcjkjdaaaGreatDoor
open Go.RowKit Tryz
theorem aeb_ {e:Ex}:∀d∈e.pds,d.letters<=e.letters*(e.dep+1):=by
 induction e with
 |nil=>intro d hd;simp[Ex.pds]at hd
 |one S=>intro d hd;simp[Ex.pds]at hd;subst hd;exact Nat.zero_le _
 |alt a b iha ihb=>
  intro d hd;simp only[Ex.pds,List.mem_append]at hd;simp only[Ex.dep,Ex.letters];rcases hd with hd|hd
  . exact Nat.le_trans (iha d hd) (Nat.mul_le_mul o_ o_)
  . exact Nat.le_trans (ihb d hd) (Nat.mul_le_mul o_ o_)
 |thn a b iha ihb=>
  intro d hd;simp only[Ex.pds,List.mem_append,List.mem_map]at hd;simp only[Ex.dep,Ex.letters];rcases hd with ⟨y,hy,rfl⟩|hd
  . have h1:=iha y hy;have h2:=f2_ y b;have h3:a.letters*(a.dep+1)<=a.letters*(max a.dep b.dep+1+1):=Nat.mul_le_mul_left _ o_;have h4:b.letters*1<=b.letters*(max a.dep b.dep+1+1):=Nat.mul_le_mul_left _ o_;rw[Nat.add_mul];omega
  . exact Nat.le_trans (ihb d hd) (Nat.mul_le_mul o_ o_)
 |star a iha=>
  intro d hd;simp only[Ex.pds,List.mem_map]at hd;obtain⟨y,hy,rfl⟩:=hd;have h1:=iha y hy;have h2:=f2_ y (.star a);simp only[Ex.dep,Ex.letters]at h2 ⊢;rw[Nat.mul_add a.letters];omega
theorem abo_ {U l:List Ex}(h:l∈fu_ U):l.length<=U.length:=by
 induction U generalizing l with
 |nil=>simp[fu_]at h;subst h;simp
 |cons u U ih=>
  simp only[fu_,List.mem_append,List.mem_map]at h;rcases h with h|⟨l',h,rfl⟩
  . have:=ih h;simp;omega
  . have:=ih h;simp;omega
structure Mild (E:Ex):Prop where
 can:E.can
 let_:E.letters<=10
 dp:E.dep<=1000
 wt:E.nm.length<=2^44
theorem Mild.uni {E d:Ex}(h:Mild E)(hd:d∈uniE E):d.can/\d.letters<=20000/\d.nm.length<=2^60:=by
 have hw:=h.wt;have hl:=h.let_;have hp:=h.dp;rcases ((gw_ h.can).2 d).1 hd with rfl|h1
 . exact⟨h.can,o_,o_⟩
 . refine⟨mt_ h.can d h1, ?_, ?_⟩
   . have h2:=aeb_ d h1;have h3:E.letters*(E.dep+1)<=10*1001:=Nat.mul_le_mul hl o_;omega
   . have h2:=aea_ d h1;have h3:E.nm.length*(E.dep+1)<=2^44*1001:=Nat.mul_le_mul hw o_;omega
theorem StE.len {E:Ex}{r:List Ex}(hE:Mild E)(h:StE E r):r.length<=16:=by
 have h1:=abo_ (r6_ (gw_ hE.can).1 h.srt h.uni);have h2:=r8_ E;have:=hE.let_;omega
theorem StE.asks {E:Ex}{r:List Ex}(hE:Mild E)(h:StE E r)(c:Nat):r.length<=16/\(∀x∈r,x.letters<=20000)/\∀x∈r,∀d∈x.behind c,d.can/\d.nm.length<=2^60:=by
 refine⟨h.len hE,fun x hx=>(hE.uni (h.uni x hx)).2.1,fun x hx d hd=> ?_⟩;have hs:=h.step hE.can c;have hm:d∈fd_ r c:=((ni_ c (h.can hE.can)).2 d).2 ⟨x,hx,hd⟩;have:=hE.uni (hs.uni d hm);exact⟨this.1,this.2.2⟩
theorem aec_ {E:Ex}{p:Pat}{k:Nat}{l:List Nat}(hc:E.can)(hlt:E.letters<=p.size)(hw:E.nm.length<=p.wt)(hd:E.dep<=p.dp)(hP:PatT (dl_ k) l p)(hl:l.length<=40)(hs:p.size<=10):Mild E:=by
 obtain⟨h1,h2⟩:=yv_ (vi_ k) hP;have h3:2^l.length<=2^40:=Nat.pow_le_pow_right o_ hl;refine⟨hc,o_,o_, ?_⟩;have e1:(2:Nat)^44=16*2^40:=d_;omega
theorem hg_ (n:Int)(w:World):
 Calls prog 62 #[.int .i64 n] w fun e w'=>e= .returned (.bool (decide (1<=n)&&decide (n<=40)))/\w'=w:=by
 by_cases h1:1<=n
 . by_cases h2:n<=40
   . have e:(decide (1<=n)&&decide (n<=40))=true:=by simp[h1,h2]
     rw[e];go_enter func62,ntmps62;go_wp2_with fail;go_ret;exact⟨bh_ i_,rfl⟩
   . have e:(decide (1<=n)&&decide (n<=40))=false:=by simp[h2]
     rw[e];go_enter func62,ntmps62;go_wp2_with fail;go_ret;exact⟨bh_ i_,rfl⟩
 . have e:(decide (1<=n)&&decide (n<=40))=false:=by simp[h1]
   rw[e];go_enter func62,ntmps62;go_wp2_with fail;go_ret;exact⟨bh_ i_,rfl⟩
end Go.Proofs.YtpngikmcjkjdaaaGreatDoor
