import Derived.Test.YtpngikmcjkjdaaaGreatDoorG0
import Derived.Test.YtpngikmcjkjdaaaGreatDoorG11
import Derived.Test.YtpngikmcjkjdaaaGreatDoorG13
import Derived.Test.YtpngikmcjkjdaaaGreatDoorG2
set_option linter.unusedVariables false
set_option linter.unusedSimpArgs false
set_option maxRecDepth 20000
set_option maxHeartbeats 80000000
namespace Go.Proofs.YtpngikmcjkjdaaaGreatDoor
open Go.RowKit Tryz
structure Sp where
 a:Nat
 bk:Bool
 sp:Nat
def Sp.go (t:Sp):Sp:=⟨t.a+1,t.bk,t.sp⟩
def Sp.tell (t:Sp)(pl:Nat):Sp:=⟨t.a,true,if t.bk then t.sp else pl⟩
inductive Res (α:Type) where
 |no (t:Sp):Res α
 |ok (x:α) (t:Sp):Res α
section
variable (s:ByteArray)
def dv_ (t:Sp):Res (Nat×Nat):=
 if bs_ s t.a then
  if hit s (t.a+1) 45 then
   if bs_ s (t.a+1+1)then .ok (ad_ s t.a - 97,ad_ s (t.a+1+1)- 97) t.go.go.go else .no t.go.go
  else .ok (ad_ s t.a - 97,ad_ s t.a - 97) t.go
 else .no t
def bk_ (pl f g:Nat)(t:Sp):Sp:=if g<f then t.tell pl else t
def dz_ (N:Nat->Bool)(f g:Nat):Nat->Bool:=fun c=>N c||(decide (f<=c)&&decide (c<=g))
def cx_:Nat->(Nat->Bool)->Sp->Res (Nat->Bool)
 |0,_,t=> .no t
 |n+1,N,t=>
  match dv_ s t with
  | .no t'=> .no t'
  | .ok (f,g) t'=>if hit s t'.a 93 then .ok (dz_ N f g) (bk_ t.a f g t').go else cx_ n (dz_ N f g) (bk_ t.a f g t')
def setF (t:Sp):Res (Nat->Bool):=
 if hit s t.a 94 then
  match cx_ s (s.size+1) (fun _=>false) t.go with
  | .no t'=> .no t'
  | .ok N t'=> .ok (fun c=> !N c) t'
 else cx_ s (s.size+1) (fun _=>false) t
def b9_ (t:Sp):Res (Nat×Nat×Bool):=
 if bv_ s t.a then
  if hit s (t.a+1) 125 then .ok (ad_ s t.a - 48,ad_ s t.a - 48,false) t.go.go
  else if hit s (t.a+1) 44 then
   if hit s (t.a+1+1) 125 then .ok (ad_ s t.a - 48,ad_ s t.a - 48+1,true) t.go.go.go
   else if bv_ s (t.a+1+1)then
    if hit s (t.a+1+1+1) 125 then .ok (ad_ s t.a - 48,ad_ s (t.a+1+1)- 48,false) (bk_ t.a (ad_ s t.a - 48) (ad_ s (t.a+1+1)- 48) t.go.go.go).go
    else .no (bk_ t.a (ad_ s t.a - 48) (ad_ s (t.a+1+1)- 48) t.go.go.go)
   else .no t.go.go
  else .no t.go
 else .no t
def c3_ (t:Sp):Res Pat:=
 if hit s t.a 91 then
  match setF s t.go with
  | .no t'=> .no t'
  | .ok N t'=> .ok (.one N) t'
 else if hit s t.a 46 then .ok (.one (fun _=>true)) t.go
 else if bs_ s t.a then .ok (.one (fun c=>decide (c=ad_ s t.a - 97))) t.go
 else .no t
def ep_ (atom:Sp->Res Pat)(t:Sp):Res Pat:=
 match atom t with
 | .no t'=> .no t'
 | .ok p t1=>
  if hit s t1.a 42 then .ok (.rep p 0 1 true) t1.go
  else if hit s t1.a 43 then .ok (.rep p 1 2 true) t1.go
  else if hit s t1.a 63 then .ok (.rep p 0 1 false) t1.go
  else if hit s t1.a 123 then
   match b9_ s t1.go with
   | .no t'=> .no t'
   | .ok (lo,co,en) t'=> .ok (.rep p lo co en) t'
  else .ok p t1
def seqF (atom:Sp->Res Pat):Nat->Pat->Sp->Res Pat
 |0,_,t=> .no t
 |n+1,p,t=>
  if cs_ s t.a then .ok p t
  else match ep_ s atom t with
   | .no t'=> .no t'
   | .ok q t'=>seqF atom n (.chain p q) t'
def d7_ (atom:Sp->Res Pat):Nat->Pat->Sp->Res Pat
 |0,_,t=> .no t
 |n+1,p,t=>
  if hit s t.a 124 then
   match seqF s atom (s.size+1) .none t.go with
   | .no t'=> .no t'
   | .ok q t'=>d7_ atom n (.alt p q) t'
  else .ok p t
def patF (atom:Sp->Res Pat)(t:Sp):Res Pat:=
 match seqF s atom (s.size+1) .none t with
 | .no t'=> .no t'
 | .ok p t'=>d7_ s atom (s.size+1) p t'
def by_:Nat->Sp->Res Pat
 |0=>c3_ s
 |k+1=>fun t=>
  if hit s t.a 40 then
   match patF s (by_ k) t.go with
   | .no t'=> .no t'
   | .ok p t'=>if hit s t'.a 41 then .ok p t'.go else .no t'
  else c3_ s t
end
section
variable {s:ByteArray}
theorem cv_ {a b:Nat}(h:hit s a b=true):a<s.size:=by
 unfold hit at h;simp at h;exact h.1
theorem fp_ {a:Nat}(h:bs_ s a=true):a<s.size:=by
 refine Classical.byContradiction fun hn=> ?_
 unfold bs_ at h;rw[g1_ hn]at h;simp at h
theorem kj_ {a:Nat}(h:bv_ s a=true):a<s.size:=by
 refine Classical.byContradiction fun hn=> ?_
 unfold bv_ at h;rw[g1_ hn]at h;simp at h
theorem fx_ {a:Nat}(h:bs_ s a=true):ad_ s a - 97<8/\97<=ad_ s a:=by
 unfold bs_ at h;simp at h;omega
theorem fy_ {a:Nat}(h:bv_ s a=true):ad_ s a - 48<10/\48<=ad_ s a:=by
 unfold bv_ at h;simp at h;omega
@[simp] theorem spanF_a (pl f g:Nat) (t:Sp):(bk_ pl f g t).a=t.a:=by unfold bk_ Sp.tell;split<;>rfl
@[simp] theorem go_a (t:Sp):t.go.a=t.a+1:=rfl
theorem ij_ {t t':Sp}{f g:Nat}(h:dv_ s t= .ok (f,g) t'):t.a<t'.a/\t'.a<=s.size/\f<8/\g<8:=by
 unfold dv_ at h;split at h
 . rename_i h1;have n1:=fx_ h1;have l1:=fp_ h1;split at h
   . rename_i h2;split at h
     . rename_i h3;have n3:=fx_ h3;have l3:=fp_ h3;simp only[Res.ok.injEq,Prod.mk.injEq]at h;obtain⟨⟨rfl,rfl⟩,rfl⟩:=h;simp only[go_a];omega
     . simp at h
   . simp only[Res.ok.injEq,Prod.mk.injEq]at h;obtain⟨⟨rfl,rfl⟩,rfl⟩:=h;simp only[go_a];omega
 . simp at h
theorem kk_ {n:Nat}{N N':Nat->Bool}{t t':Sp}(h:cx_ s n N t= .ok N' t'):t.a<t'.a/\t'.a<=s.size:=by
 induction n generalizing N t with
 |zero=>simp[cx_]at h
 |succ n ih=>
  simp only[cx_]at h;cases hp:dv_ s t with
  |no t1=>rw[hp]at h;simp at h
  |ok x t1=>
   obtain⟨f,g⟩:=x;rw[hp]at h;have h1:=ij_ hp;simp only at h;split at h
   . rename_i h2;have l2:=cv_ h2;simp only[Res.ok.injEq]at h;obtain⟨_,rfl⟩:=h;simp;omega
   . have:=ih h;simp at this;omega
theorem mp_ {N:Nat->Bool}{t t':Sp}(h:setF s t= .ok N t'):t.a<t'.a/\t'.a<=s.size:=by
 unfold setF at h;split at h
 . cases hp:cx_ s (s.size+1) (fun _=>false) t.go with
   |no t1=>rw[hp]at h;simp at h
   |ok x t1=>
    rw[hp]at h;have:=kk_ hp;simp only[Res.ok.injEq]at h;obtain⟨_,rfl⟩:=h;simp at this;omega
 . exact kk_ h
theorem lq_ {lo co:Nat}{en:Bool}{t t':Sp}(h:b9_ s t= .ok (lo,co,en) t'):t.a<t'.a/\t'.a<=s.size/\co<=10/\lo<=9:=by
 unfold b9_ at h;split at h
 . rename_i h1;have n1:=fy_ h1;split at h
   . rename_i h2;have l2:=cv_ h2;simp only[Res.ok.injEq,Prod.mk.injEq]at h;obtain⟨⟨rfl,rfl,rfl⟩,rfl⟩:=h;simp only[go_a];omega
   . split at h
     . split at h
       . rename_i h2;have l2:=cv_ h2;simp only[Res.ok.injEq,Prod.mk.injEq]at h;obtain⟨⟨rfl,rfl,rfl⟩,rfl⟩:=h;simp only[go_a];omega
       . split at h
         . rename_i h3;have n3:=fy_ h3;split at h
           . rename_i h4;have l4:=cv_ h4;simp only[Res.ok.injEq,Prod.mk.injEq]at h;obtain⟨⟨rfl,rfl,rfl⟩,rfl⟩:=h;simp only[go_a,spanF_a];omega
           . simp at h
         . simp at h
     . simp at h
 . simp at h
def Goes (s:ByteArray)(B:Nat)(atom:Sp->Res Pat):Prop:=∀t p t',atom t= .ok p t'->t.a<t'.a/\t'.a<=s.size/\p.size<=(t'.a - t.a)*B
theorem n7_:Goes s 1 (c3_ s):=by
 intro t p t' h;unfold c3_ at h;split at h
 . cases hp:setF s t.go with
   |no t1=>rw[hp]at h;simp at h
   |ok x t1=>
    rw[hp]at h;have:=mp_ hp;simp only[Res.ok.injEq]at h;obtain⟨rfl,rfl⟩:=h;simp at this;simp only[Pat.size];omega
 . split at h
   . rename_i h2;have:=cv_ h2;simp only[Res.ok.injEq]at h;obtain⟨rfl,rfl⟩:=h;simp only[Pat.size,go_a];omega
   . split at h
     . rename_i h2;have:=fp_ h2;simp only[Res.ok.injEq]at h;obtain⟨rfl,rfl⟩:=h;simp only[Pat.size,go_a];omega
     . simp at h
theorem ik_ {x l l' B c:Nat}(h:x<=l*B)(hc:c<=10)(hl:l<=l'):x*c<=l'*(B*10):=by
 have h1:x*c<=(l*B)*10:=Nat.mul_le_mul h hc;have h2:l*B*10<=l'*B*10:=Nat.mul_le_mul_right _ (Nat.mul_le_mul_right _ hl);rw[<-Nat.mul_assoc];omega
theorem h4_ {B:Nat}{atom:Sp->Res Pat}(ha:Goes s B atom):Goes s (B*10) (ep_ s atom):=by
 intro t p t' h;unfold ep_ at h;cases hp:atom t with
 |no t1=>rw[hp]at h;simp at h
 |ok q t1=>
  rw[hp]at h;obtain⟨h1,h2,h3⟩:=ha _ _ _ hp;simp only at h;split at h
  . rename_i h4;have:=cv_ h4;simp only[Res.ok.injEq]at h;obtain⟨rfl,rfl⟩:=h;refine⟨z_,z_,ik_ h3 o_ z_⟩
  . split at h
    . rename_i h4;have:=cv_ h4;simp only[Res.ok.injEq]at h;obtain⟨rfl,rfl⟩:=h;refine⟨z_,z_,ik_ h3 o_ z_⟩
    . split at h
      . rename_i h4;have:=cv_ h4;simp only[Res.ok.injEq]at h;obtain⟨rfl,rfl⟩:=h;refine⟨z_,z_,ik_ h3 o_ z_⟩
      . split at h
        . cases hc:b9_ s t1.go with
          |no t2=>rw[hc]at h;simp at h
          |ok x t2=>
           obtain⟨lo,co,en⟩:=x;rw[hc]at h;have h5:=lq_ hc;simp only[Res.ok.injEq]at h;obtain⟨rfl,rfl⟩:=h;simp only[go_a]at h5;exact⟨o_,o_,ik_ h3 h5.2.2.1 o_⟩
        . simp only[Res.ok.injEq]at h;obtain⟨rfl,rfl⟩:=h;have:=ik_ (c:=1) h3 o_ lr__;exact⟨h1,h2,o_⟩
theorem il_ {a b c:Nat}(h1:a<=b)(h2:b<=c)(B:Nat):(b - a)*B+(c - b)*B=(c - a)*B:=by
 rw[<-Nat.add_mul];congr 1;omega
theorem fz_ {B:Nat}{atom:Sp->Res Pat}(ha:Goes s B atom){n:Nat}{p q:Pat}{t t':Sp}(hz:t.a<=s.size)(h:seqF s atom n p t= .ok q t'):t.a<=t'.a/\t'.a<=s.size/\q.size<=p.size+(t'.a - t.a)*(B*10):=by
 induction n generalizing p t with
 |zero=>simp[seqF]at h
 |succ n ih=>
  simp only[seqF]at h;split at h
  . simp only[Res.ok.injEq]at h;obtain⟨rfl,rfl⟩:=h;omega
  . cases hp:ep_ s atom t with
    |no t1=>rw[hp]at h;simp at h
    |ok q1 t1=>
     rw[hp]at h;obtain⟨h1,h2,h3⟩:=h4_ ha _ _ _ hp;obtain⟨h4,h5,h6⟩:=ih h2 h;have:=il_ (Nat.le_of_lt h1) h4 (B*10);simp only[Pat.size]at h6;omega
theorem im_ {B:Nat}{atom:Sp->Res Pat}(ha:Goes s B atom){n:Nat}{p q:Pat}{t t':Sp}(hz:t.a<=s.size)(h:d7_ s atom n p t= .ok q t'):t.a<=t'.a/\t'.a<=s.size/\q.size<=p.size+(t'.a - t.a)*(B*10):=by
 induction n generalizing p t with
 |zero=>simp[d7_]at h
 |succ n ih=>
  simp only[d7_]at h;split at h
  . rename_i hh;have hl:=cv_ hh;cases hp:seqF s atom (s.size+1) .none t.go with
    |no t1=>rw[hp]at h;simp at h
    |ok q1 t1=>
     rw[hp]at h;obtain⟨h1,h2,h3⟩:=fz_ ha z_ hp;obtain⟨h4,h5,h6⟩:=ih h2 h;simp only[Pat.size,go_a]at h1 h3 h6;have:=il_ (a:=t.a) o_ h4 (B*10);have h7:(t1.a - (t.a+1))*(B*10)<=(t1.a - t.a)*(B*10):=Nat.mul_le_mul_right _ o_;omega
  . simp only[Res.ok.injEq]at h;obtain⟨rfl,rfl⟩:=h;omega
theorem lr_ {B:Nat}{atom:Sp->Res Pat}(ha:Goes s B atom){q:Pat}{t t':Sp}(hz:t.a<=s.size)(h:patF s atom t= .ok q t'):t.a<=t'.a/\t'.a<=s.size/\q.size<=(t'.a - t.a)*(B*10):=by
 unfold patF at h;cases hp:seqF s atom (s.size+1) .none t with
 |no t1=>rw[hp]at h;simp at h
 |ok q1 t1=>
  rw[hp]at h;obtain⟨h1,h2,h3⟩:=fz_ ha hz hp;obtain⟨h4,h5,h6⟩:=im_ ha h2 h;have:=il_ h1 h4 (B*10);simp only[Pat.size]at h3;omega
theorem do_ (k:Nat):Goes s (10^k) (by_ s k):=by
 induction k with
 |zero=>exact n7_
 |succ k ih=>
  intro t p t' h;simp only[by_]at h;split at h
  . rename_i hh;have hl:=cv_ hh;cases hp:patF s (by_ s k) t.go with
    |no t1=>rw[hp]at h;simp at h
    |ok q1 t1=>
     rw[hp]at h;obtain⟨h1,h2,h3⟩:=lr_ ih z_ hp;simp only at h;split at h
     . rename_i hh2;have hl2:=cv_ hh2;simp only[Res.ok.injEq]at h;obtain⟨rfl,rfl⟩:=h;simp only[go_a]at h1 h3 ⊢;refine⟨o_,o_, ?_⟩;rw[Nat.pow_succ];exact Nat.le_trans h3 (Nat.mul_le_mul_right _ o_)
     . simp at h
  . obtain⟨h1,h2,h3⟩:=n7_ _ _ _ h;refine⟨h1,h2,Nat.le_trans h3 (Nat.mul_le_mul_left _ ?_)⟩;exact Nat.pow_pos o_
end
def nagg (d:Nd):Array Value:= #[.int .i64 ((d.kind:Nat):Int),.int .i64 ((d.size:Nat):Int),.bool (d.S 0),.bool (d.S 1),.bool (d.S 2),.bool (d.S 3),.bool (d.S 4),.bool (d.S 5),.bool (d.S 6),.bool (d.S 7),.int .i64 ((d.least:Nat):Int),.int .i64 ((d.copies:Nat):Int),.bool d.en,.int .i64 ((d.one:Nat):Int),.int .i64 ((d.two:Nat):Int)]
def gc_ (L:List Nd):List Value:=L.flatMap fun d=>(nagg d).toList
theorem rp_ (L:List Nd)(d:Nd):gc_ L++(nagg d).toList=gc_ (L++ [d]):=by simp[gc_]
theorem v4_ (L:List Nd)(i j:Nat)(d:Nd)(h:L[i]? =some d)(hj:j<15):(gc_ L)[i*15+j]? =(nagg d)[j]? :=by
 induction L generalizing i with
 |nil=>simp at h
 |cons e L ih=>
  cases i with
  |zero=>
   simp at h;subst h;simp only[gc_,List.flatMap_cons,Nat.zero_mul,Nat.zero_add];rw[List.getElem?_append_left (by simp[nagg];omega)];simp
  |succ i=>
   have hl:(nagg e).toList.length=15:=rfl;simp only[gc_,List.flatMap_cons];rw[List.getElem?_append_right (by rw[hl];omega),hl,show(i+1)*15+j - 15=i*15+j by omega];exact ih i (by simpa using h)
structure ParM (w:World)(bp:Nat)(s:ByteArray)(t:Sp)(vn:Value)(L:List Nd):Prop where
 par:aq_ w bp s t.a vn t.bk (t.sp:Int)
 own:w.ownsRow (bp+1) 132 15 vn L.length (gc_ L)
theorem ParM.lt {w:World}{bp:Nat}{s:ByteArray}{t:Sp}{vn:Value}{L:List Nd}(h:ParM w bp s t vn L):bp<w.heap.size:=ac_ h.par
theorem ParM.below {w w2:World}{bp:Nat}{s:ByteArray}{t:Sp}{vn:Value}{L:List Nd}(h:ParM w bp s t vn L)(hb:Below w.heap.size w w2):ParM w2 bp s t vn L:=
 ⟨(hb.block _ h.lt).trans h.par,al_ h.own hb⟩
theorem aq_.nodes {w:World}{bp:Nat}{s:ByteArray}{a:Nat}{vn:Value}{bk:Bool}{sp:Int}(h:aq_ w bp s a vn bk sp)(u:Value):aq_ (w.setCell ⟨bp,2,none⟩ u) bp s a u bk sp:=by
 unfold aq_ at h ⊢;simp[World.setCell,Array.getElem?_modify,h]
theorem aq_.frozen2 {w:World}{bp:Nat}{s:ByteArray}{a:Nat}{vn:Value}{bk:Bool}{sp:Int}(h:aq_ w bp s a vn bk sp):w.frozen? ⟨bp,2,none⟩=false:=by
 unfold aq_ at h;simp[World.frozen?,h]
theorem aaq_:(prog.info? 132).map (fun i=>(i.zero,i.size,i.bytes))=some (some (.agg #[.int .i64 0,.int .i64 0,.bool false,.bool false,.bool false,.bool false,.bool false,.bool false,.bool false,.bool false,.int .i64 0,.int .i64 0,.bool false,.int .i64 0,.int .i64 0]),15,64):=k_
theorem kl_ (bp:Nat)(s:ByteArray)(t:Sp)(vn:Value)(L:List Nd)(d:Nd)(w:World)(h:ParM w bp s t vn L)(hl:L.length<=1000):
 Calls prog 182 #[.pointer (some ⟨bp,2,none⟩),.agg (nagg d)] w
  fun e w'=>e= .returned (.int .i64 ((L.length:Nat):Int))/\∃vn',ParM w' bp s t vn' (L++ [d])/\Below bp w w':=by
 obtain⟨i8,hi8,hz8,hz81,hz82⟩:=info_parts aaq_;have hbp:=h.lt;obtain⟨W,hW,-,-,-⟩:=nw__ w (nagg d) 132;have hWs:w.heap.size+1<=W.heap.size:=by rw[hW];simp
 have BW:=bw__ hW;have hW1:=h.below BW;have br:=hn__ hW;obtain⟨x0,x1,x2,x3,x4,_,_,_⟩:=hW1.par.cells;have x5:=hW1.par.frozen2;clear x0 x1 x3 x4;unfold nagg at hW;have HRET:Hid (nagg d= #[.int .i64 ((d.kind:Nat):Int),.int .i64 ((d.size:Nat):Int),.bool (d.S 0),.bool (d.S 1),.bool (d.S 2),.bool (d.S 3),.bool (d.S 4),.bool (d.S 5),.bool (d.S 6),.bool (d.S 7),.int .i64 ((d.least:Nat):Int),.int .i64 ((d.copies:Nat):Int),.bool d.en,.int .i64 ((d.one:Nat):Int),.int .i64 ((d.two:Nat):Int)]):=rfl;rw[HRET.out];go_enter func182,ntmps182;go_upto_region 1 with fail;rw[<-hW];clear hW;have c0:=cell_of_row W w.heap.size 0 (nagg d) 132 (0,0) br;have c1:=cell_of_row W w.heap.size 1 (nagg d) 132 (0,0) br;have c2:=cell_of_row W w.heap.size 2 (nagg d) 132 (0,0) br;have c3:=cell_of_row W w.heap.size 3 (nagg d) 132 (0,0) br;have c4:=cell_of_row W w.heap.size 4 (nagg d) 132 (0,0) br;have c5:=cell_of_row W w.heap.size 5 (nagg d) 132 (0,0) br;have c6:=cell_of_row W w.heap.size 6 (nagg d) 132 (0,0) br;have c7:=cell_of_row W w.heap.size 7 (nagg d) 132 (0,0) br;have c8:=cell_of_row W w.heap.size 8 (nagg d) 132 (0,0) br;have c9:=cell_of_row W w.heap.size 9 (nagg d) 132 (0,0) br;have c10:=cell_of_row W w.heap.size 10 (nagg d) 132 (0,0) br;have c11:=cell_of_row W w.heap.size 11 (nagg d) 132 (0,0) br;have c12:=cell_of_row W w.heap.size 12 (nagg d) 132 (0,0) br;have c13:=cell_of_row W w.heap.size 13 (nagg d) 132 (0,0) br;have c14:=cell_of_row W w.heap.size 14 (nagg d) 132 (0,0) br;simp[nagg]at c0 c1 c2 c3 c4 c5 c6 c7 c8 c9 c10 c11 c12 c13 c14;have HPa:Hid (ParM (W.alloc (.cells (nagg d) 132)) bp s t vn L):=hW1.below ba__;have hna:=HPa.out.own;have hbo:bp+1<=(W.alloc (.cells (nagg d) 132)).heap.size:=s_;have BWa:Below bp w (W.alloc (.cells (nagg d) 132)):=(BW.alloc o_ _).mono o_;have HG:Hid (∀g' cap' w6,w6.ownsRow (bp+1) 132 15 (.slice (some ⟨g',0,none⟩) (L.length+1) cap') (L.length+1) (gc_ L++(nagg d).toList)->(W.alloc (.cells (nagg d) 132)).grownBy w6 vn.ownBlock->
  w6.cell? ⟨bp,2,none⟩=some vn/\w6.frozen? ⟨bp,2,none⟩=false/\Hid (ParM (w6.setCell ⟨bp,2,none⟩ (.slice (some ⟨g',0,none⟩) (L.length+1) cap')) bp s t (.slice (some ⟨g',0,none⟩) (L.length+1) cap') (L++ [d])/\Below bp w (w6.setCell ⟨bp,2,none⟩ (.slice (some ⟨g',0,none⟩) (L.length+1) cap')))):=by
  intro g' cap' w6 ho hg;have hp:=HPa.out;have hlt:=fun x e=>hp.own.lt x e
  have hb6:w6.heap[bp]? =(W.alloc (.cells (nagg d) 132)).heap[bp]? :=hg.block bp hp.lt (fun e=>by have:=(hlt _ e.symm).1;omega);have hpar:aq_ w6 bp s t.a vn t.bk (t.sp:Int):=hb6.trans hp.par;obtain⟨_,_,z2,_,_,_,_,_⟩:=hpar.cells;rw[rp_]at ho;refine⟨z2,hpar.frozen2,⟨hpar.nodes _,by rw[List.length_append];exact ownsRow_setCell_below ho i_ _⟩, ?_⟩;exact(BWa.grown hg (by have:=hp.lt;omega) (fun x e=>by have:=(hlt x e).1;omega)).setCell (p:=⟨bp,2,none⟩) i_ _
 clear hW1 br HPa BW BWa;unfold nagg at hna hbo HG;have hss:bp<W.heap.size:=o_;have hss2:w.heap.size<W.heap.size:=o_;go_region_law
  ((refine step_append_lies _ (by rfl) _ _ _ (by rfl) (bp+1) 132 i8 (.agg #[.int .i64 0,.int .i64 0,.bool false,.bool false,.bool false,.bool false,.bool false,.bool false,.bool false,.bool false,.int .i64 0,.int .i64 0,.bool false,.int .i64 0,.int .i64 0]) 15 64 underlying121 hi8 hz8 hz81 hz82 rfl d_ vn L.length (gc_ L) (by rfl) hna ⟨W.heap.size,0,none⟩ 1 1 [.int .i64 ((d.kind:Nat):Int),.int .i64 ((d.size:Nat):Int),.bool (d.S 0),.bool (d.S 1),.bool (d.S 2),.bool (d.S 3),.bool (d.S 4),.bool (d.S 5),.bool (d.S 6),.bool (d.S 7),.int .i64 ((d.least:Nat):Int),.int .i64 ((d.copies:Nat):Int),.bool d.en,.int .i64 ((d.one:Nat):Int),.int .i64 ((d.two:Nat):Int)] (by rfl) (by rfl) (jp_ _ _ _) (by intro u hu;simp at hu;rcases hu with rfl|rfl|rfl|rfl|rfl|rfl|rfl|rfl|rfl|rfl|rfl|rfl|rfl|rfl|rfl<;>rfl) d_ u_ o_ s_ (W.heap.size+1) i_ ?_;intro g' cap' w6 hown' hgr' hfr' hlt2;obtain⟨f0,f1,F⟩:=HG.out g' cap' w6 hown' ⟨hgr'.os,hgr'.tape,hgr'.output,hgr'.size,hgr'.block⟩;clear hfr' hlt2 hown' hgr'))
 all_goals go_wp2_with fail
 all_goals
  go_ret;exact⟨i_,⟨_,F.out.1⟩,F.out.2⟩
theorem rq_ {beh:Nat->Nat}{L F n:Nat}(hF:F<2048)(hb:∀i,i<n->beh i<2048)(i:Nat)(hi:i<n):bw_ beh L F i<2048:=by
 unfold bw_;split
 . exact Nat.or_lt_two_pow (n:=11) (hb i hi) hF
 . exact hb i hi
theorem ak_ {w:World}{b:Nat}{x y z:Value}{t:TypeId}(h:w.heap[b]? =some (.cells #[x,y,z] t (0,0))):w.cell? ⟨b,0,none⟩=some x/\w.cell? ⟨b,1,none⟩=some y/\w.cell? ⟨b,2,none⟩=some z/\w.frozen? ⟨b,0,none⟩=false/\w.frozen? ⟨b,1,none⟩=false/\w.frozen? ⟨b,2,none⟩=false:=by
 simp[World.cell?,World.frozen?,h]
theorem i7_ {w w1:World}{bm gb n cap:Nat}{beh rdr:Nat->Nat}(hM:cg_ w1 bm (.slice (some ⟨gb,0,none⟩) n cap) n beh rdr)(hT:ab_ (fun b=>b=gb) w w1)(hbm:bm<w.heap.size)(hgb:gb<w.heap.size){b:Nat}{x y z:Value}{t:TypeId}(hb:w.heap.size<=b)
 (hblk:w1.heap[b]? =some (.cells #[x,y,z] t (0,0))) (u v s:Value) (o:Obj):
 ((((w1.setCell ⟨b,0,none⟩ u).setCell ⟨b,1,none⟩ v).setCell ⟨b,2,none⟩ s).alloc o).cell? ⟨b,0,none⟩=some u/\((((w1.setCell ⟨b,0,none⟩ u).setCell ⟨b,1,none⟩ v).setCell ⟨b,2,none⟩ s).alloc o).cell? ⟨b,1,none⟩=some v/\((((w1.setCell ⟨b,0,none⟩ u).setCell ⟨b,1,none⟩ v).setCell ⟨b,2,none⟩ s).alloc o).cell? ⟨b,2,none⟩=some s/\
 cg_ ((((w1.setCell ⟨b,0,none⟩ u).setCell ⟨b,1,none⟩ v).setCell ⟨b,2,none⟩ s).alloc o) bm (.slice (some ⟨gb,0,none⟩) n cap) n beh rdr/\ab_ (fun b=>b=gb) w ((((w1.setCell ⟨b,0,none⟩ u).setCell ⟨b,1,none⟩ v).setCell ⟨b,2,none⟩ s).alloc o):=by
 have h3:(((w1.setCell ⟨b,0,none⟩ u).setCell ⟨b,1,none⟩ v).setCell ⟨b,2,none⟩ s).heap[b]? =some (.cells #[u,v,s] t (0,0)):=by
  simp[World.setCell,Array.getElem?_modify,hblk]
 obtain⟨c0,c1,c2,_,_,_⟩:=ak_ (ah_ (o:=o) h3);have hown:=fun g (e:(Value.slice (some (⟨gb,0,none⟩:Addr)) n cap).ownBlock=some g)=>(show g≠b by simp only[Value.ownBlock,Option.some.injEq]at e;omega)
 refine⟨c0,c1,c2,⟨(((hM.blk.setOther s_ _).setOther s_ _).setOther s_ _).alloc o,(bb_ (bb_ (bb_ hM.own _ _ hown) _ _ hown) _ _ hown).alloc o,hM.lb,hM.lr⟩,(((hT.set _ _ (.inr hb)).set _ _ (.inr hb)).set _ _ (.inr hb)).alloc o⟩
theorem hp_ (bm gb n cap:Nat)(beh rdr:Nat->Nat)(e1 e2:Bool)(F1 L1 F2 L2:Nat)(w:World)(hn:n<=11)(h:cg_ w bm (.slice (some ⟨gb,0,none⟩) n cap) n beh rdr)(hF1:F1<2048)(hL1:L1<2048)(hF2:F2<2048)(hL2:L2<2048):
 Calls prog 144 #[.pointer (some ⟨bm,0,none⟩),.agg #[.bool e1,.int .i64 F1,.int .i64 L1],.agg #[.bool e2,.int .i64 F2,.int .i64 L2]] w
  fun e w'=>e= .returned (.agg #[.bool (e1&&e2),.int .i64 (((if e1 then F1|||F2 else F1):Nat):Int),.int .i64 (((if e2 then L2|||L1 else L2):Nat):Int)])/\cg_ w' bm (.slice (some ⟨gb,0,none⟩) n cap) n (bw_ beh L1 F2) rdr/\ab_ (fun b=>b=gb) w w':=by
 obtain⟨W,hW,BW,b0,b1,b2⟩:=n3__ w #[.bool e1,.int .i64 F1,.int .i64 L1] 187 #[.bool e2,.int .i64 F2,.int .i64 L2] 187 #[.bool false,.int .i64 0,.int .i64 0] 187;have hWs:w.heap.size+1+1<W.heap.size:=by rw[hW];simp
 have h1:=h.below BW;have x0:=h1.blk.cell (i:=0) o_;simp only[if_true]at x0;have hgb:=(h.own.lt gb rfl);have HC:=vb_ bm (bm+1) gb n cap beh L1 F2 W hn hL1 hF2 h.lb x0 o_ h1.own;obtain⟨y0,y1,y2,_,_,_⟩:=ak_ b0;obtain⟨z0,z1,z2,_,_,_⟩:=ak_ b1;clear x0;go_enter func144,ntmps144;go_upto_region 1 with fail;rw[<-hW];clear hW;go_wp2_with fail;refine HC.mono ?_;clear HC;rintro e w1 ⟨rfl,hT,hO⟩;have hs1:=hT.size;have HM:Hid (cg_ w1 bm (.slice (some ⟨gb,0,none⟩) n cap) n (bw_ beh L1 F2) rdr):=⟨h1.blk.of_block (hT.block _ h1.blk.lt (fun e=>by have:=hgb.1;omega)),hO,rq_ hF2 h.lb,h.lr⟩;have HT0:Hid (ab_ (fun b=>b=gb) w w1):=by
  refine⟨hT.os.trans BW.os,hT.tape.trans BW.tape,hT.output.trans BW.output,by have:=BW.size;omega,fun k hk hne=>(hT.block k o_ hne).trans (BW.block k hk)⟩
 have a0:=(hT.block _ o_ (fun e=>by have:=hgb.2;omega)).trans b0;have a1:=(hT.block _ o_ (fun e=>by have:=hgb.2;omega)).trans b1;have a2:=(hT.block _ o_ (fun e=>by have:=hgb.2;omega)).trans b2;obtain⟨y0',y1',y2',_,_,_⟩:=ak_ a0;obtain⟨z0',z1',z2',_,_,_⟩:=ak_ a1;obtain⟨q0,q1,q2,p0,p1,p2⟩:=ak_ a2;have ho1:=e4_ F1 F2 hF1 hF2;have ho2:=e4_ L2 L1 hL2 hL1;clear y0 y1 y2 z0 z1 z2 hT hO h1 b0 b1 b2;obtain⟨o1,HO1⟩:=hx__ (F1|||F2);obtain⟨o2,HO2⟩:=hx__ (L2|||L1);rw[HO1.out]at ho1;rw[HO2.out]at ho2;have na:¬w.heap.size=w1.heap.size:=o_;have nb:¬w.heap.size+1=w1.heap.size:=o_;have nc:¬w.heap.size+1+1=w1.heap.size:=o_;have ma:w.heap.size<w1.heap.size:=o_;have mb:w.heap.size+1<w1.heap.size:=o_;have mc:w.heap.size+1+1<w1.heap.size:=o_;have HA2:Hid _:=a2;clear a0 a1 a2;have hbm:bm<w.heap.size:=h.blk.lt;cases e1
 . cases e2
   . go_wp2_with fail;obtain⟨r0,r1,r2,hm,ht⟩:=i7_ HM.out HT0.out hbm hgb.2 (show w.heap.size<=w.heap.size+1+1 by omega) HA2.out (.bool false) (.int .i64 (F1:Int)) (.int .i64 (L2:Int)) (.cells #[.bool false,.int .i64 (F1:Int),.int .i64 (L2:Int)] 187);refine bodyPost_ret (v:= .agg #[.bool false,.int .i64 (F1:Int),.int .i64 (L2:Int)]) (by simp[results,results144,go_sem,r0,r1,r2]) rfl ?_;exact⟨i_,hm,ht⟩
   . go_wp2_with fail;obtain⟨r0,r1,r2,hm,ht⟩:=i7_ HM.out HT0.out hbm hgb.2 (show w.heap.size<=w.heap.size+1+1 by omega) HA2.out (.bool false) (.int .i64 (F1:Int)) (.int .i64 (o2:Int)) (.cells #[.bool false,.int .i64 (F1:Int),.int .i64 (o2:Int)] 187);refine bodyPost_ret (v:= .agg #[.bool false,.int .i64 (F1:Int),.int .i64 (o2:Int)]) (by simp[results,results144,go_sem,r0,r1,r2]) rfl ?_;exact⟨by simp[HO2.out],hm,ht⟩
 . cases e2
   . go_wp2_with fail;obtain⟨r0,r1,r2,hm,ht⟩:=i7_ HM.out HT0.out hbm hgb.2 (show w.heap.size<=w.heap.size+1+1 by omega) HA2.out (.bool false) (.int .i64 (o1:Int)) (.int .i64 (L2:Int)) (.cells #[.bool false,.int .i64 (o1:Int),.int .i64 (L2:Int)] 187);refine bodyPost_ret (v:= .agg #[.bool false,.int .i64 (o1:Int),.int .i64 (L2:Int)]) (by simp[results,results144,go_sem,r0,r1,r2]) rfl ?_;exact⟨by simp[HO1.out],hm,ht⟩
   . go_wp2_with fail;obtain⟨r0,r1,r2,hm,ht⟩:=i7_ HM.out HT0.out hbm hgb.2 (show w.heap.size<=w.heap.size+1+1 by omega) HA2.out (.bool true) (.int .i64 (o1:Int)) (.int .i64 (o2:Int)) (.cells #[.bool true,.int .i64 (o1:Int),.int .i64 (o2:Int)] 187);refine bodyPost_ret (v:= .agg #[.bool true,.int .i64 (o1:Int),.int .i64 (o2:Int)]) (by simp[results,results144,go_sem,r0,r1,r2]) rfl ?_;exact⟨by simp[HO1.out,HO2.out],hm,ht⟩
theorem ab_.join {S S':Nat->Prop}{w w1 w2:World}(h:ab_ S w w1)(h':ab_ S' w1 w2)(hs:∀k,k<w.heap.size->S' k->S k):ab_ S w w2:=
 ⟨h'.os.trans h.os,h'.tape.trans h.tape,h'.output.trans h.output,Nat.le_trans h.size h'.size,fun k hk hn=>(h'.block k (Nat.lt_of_lt_of_le hk h.size) (fun e=>hn (hs k hk e))).trans (h.block k hk hn)⟩
theorem jr_ {S:Nat->Prop}{w w1:World}(h:Below w.heap.size w w1):ab_ S w w1:=⟨h.os,h.tape,h.output,h.size,fun k hk _=>h.block k hk⟩
theorem xy_ {w:World}{base e s n t b:Nat}{v:Value}{x:List Value}{cs:Array Value}{fr:Nat×Nat}(h:w.ownsRow base e s v n x)(hb:w.heap[b]? =some (.cells cs t fr))(hne:e≠t):v.ownBlock≠some b:=by
 intro hg;rcases h.2 with ⟨rfl,_⟩|⟨a,cap,cur,rfl,_,h1,_⟩
 . simp[Value.ownBlock]at hg
 . simp only[Value.ownBlock,Option.some.injEq]at hg;subst hg;rw[h1]at hb;simp only[Option.some.injEq,Obj.cells.injEq]at hb;exact hne hb.2.1
structure Lays (bm:Nat)(vb:Value)(n:Nat)(beh rdr:Nat->Nat)(w:World)(vb':Value)(n':Nat)(beh' rdr':Nat->Nat)(w':World):Prop where
 mach:cg_ w' bm vb' n' beh' rdr'
 fresh:∀c p,n'<=p->(rdr' c).testBit p=false
 behs:∀p,p<n->beh' p=beh p
 rdrs:∀p c,p<n->(rdr' c).testBit p=(rdr c).testBit p
 touch:ab_ (fun b=>b=bm\/vb.ownBlock=some b) w w'
 own:∀g,vb'.ownBlock=some g->vb.ownBlock=some g\/w.heap.size<=g
section
variable {bm:Nat} {vb vb1 vb2:Value} {n n1 n2:Nat} {beh beh1 beh2 rdr rdr1 rdr2:Nat->Nat} {w w1 w2:World}
theorem Lays.refl (h:cg_ w bm vb n beh rdr)(hf:∀c p,n<=p->(rdr c).testBit p=false):Lays bm vb n beh rdr w vb n beh rdr w:=
 ⟨h,hf,fun _ _=>rfl,fun _ _ _=>rfl,ab_.refl _ _,fun g hg=> .inl hg⟩
theorem Lays.grow (h:Lays bm vb n beh rdr w vb1 n1 beh1 rdr1 w1)(hb:Below w1.heap.size w1 w2):Lays bm vb n beh rdr w vb1 n1 beh1 rdr1 w2:=
 ⟨h.mach.below hb,h.fresh,h.behs,h.rdrs,h.touch.join (jr_ (S:=fun _=>False) hb) (fun _ _ h=>False.elim h),h.own⟩
theorem Lays.pre (h:Lays bm vb n beh rdr w1 vb1 n1 beh1 rdr1 w2)(hb:Below w.heap.size w w1):Lays bm vb n beh rdr w vb1 n1 beh1 rdr1 w2:=
 ⟨h.mach,h.fresh,h.behs,h.rdrs,(jr_ (S:=fun b=>b=bm\/vb.ownBlock=some b) hb).join h.touch (fun _ _ h=>h),fun g hg=>(h.own g hg).imp id (fun h=>Nat.le_trans hb.size h)⟩
theorem Lays.trans (h:Lays bm vb n beh rdr w vb1 n1 beh1 rdr1 w1)(h':Lays bm vb1 n1 beh1 rdr1 w1 vb2 n2 beh2 rdr2 w2)(hn:n<=n1):Lays bm vb n beh rdr w vb2 n2 beh2 rdr2 w2:=
 ⟨h'.mach,h'.fresh,fun p hp=>(h'.behs p o_).trans (h.behs p hp),fun p c hp=>(h'.rdrs p c o_).trans (h.rdrs p c hp),
  h.touch.join h'.touch (fun k hk hs=>by
   rcases hs with hs|hs
   . exact .inl hs
   . rcases h.own k hs with h1|h1
     . exact .inr h1
     . omega),fun g hg=>by
   rcases h'.own g hg with h1|h1
   . exact h.own g h1
   . right;have:=h.touch.size;omega⟩
theorem pv_ {beh:Nat->Nat}{L F p:Nat}(h:L.testBit p=false):bw_ beh L F p=beh p:=by unfold bw_;rw[if_neg (by simp[h])]
theorem Lays.linked {gb cap L F:Nat}(h:Lays bm vb n beh rdr w (.slice (some ⟨gb,0,none⟩) n1 cap) n1 beh1 rdr1 w1)(hm:cg_ w2 bm (.slice (some ⟨gb,0,none⟩) n1 cap) n1 (bw_ beh1 L F) rdr1)(ht:ab_ (fun b=>b=gb) w1 w2)(hL:∀p,L.testBit p=true->n<=p):
 Lays bm vb n beh rdr w (.slice (some ⟨gb,0,none⟩) n1 cap) n1 (bw_ beh1 L F) rdr1 w2:=
 ⟨hm,h.fresh,fun p hp=>by
  rw[pv_ (by
   cases hb:L.testBit p
   . rfl
   . have:=hL p hb;omega)]
  exact h.behs p hp,h.rdrs,h.touch.join ht (fun k hk hs=>by
   have hs':k=gb:=hs;subst hs';rcases h.own k rfl with h1|h1
   . exact .inr h1
   . omega),h.own⟩
theorem a4_.F_lt {lo hi:Nat}{e:Bool}{F L:Nat}{l:List Nat->Prop}(h:a4_ rdr beh lo hi e F L l)(hh:hi<=11):F<2048:=
 Nat.lt_pow_two_of_testBit (n:=11) F (fun i hi=>by
  cases hb:F.testBit i
  . rfl
  . have:=(h.fi i hb).2;omega)
theorem a4_.L_lt {lo hi:Nat}{e:Bool}{F L:Nat}{l:List Nat->Prop}(h:a4_ rdr beh lo hi e F L l)(hh:hi<=11):L<2048:=
 Nat.lt_pow_two_of_testBit (n:=11) L (fun i hi=>by
  cases hb:L.testBit i
  . rfl
  . have:=(h.la i hb).2;omega)
theorem a4_.laid {lo:Nat}{e:Bool}{F L:Nat}{l:List Nat->Prop}(h:a4_ rdr1 beh1 lo n1 e F L l)(h':Lays bm vb1 n1 beh1 rdr1 w1 vb2 n2 beh2 rdr2 w2):a4_ rdr2 beh2 lo n1 e F L l:=
 h.later (fun p _ hp=>h'.behs p hp) (fun p c hp=>h'.rdrs p c hp)
end
theorem bi_ {w:World}{b t:Nat}{f:Nat->Bool}(h:w.rowIs b t 8 (fun i=> .bool (f i))):
 w.cell? ⟨b,0,none⟩=some (.bool (f 0))/\w.cell? ⟨b,1,none⟩=some (.bool (f 1))/\w.cell? ⟨b,2,none⟩=some (.bool (f 2))/\w.cell? ⟨b,3,none⟩=some (.bool (f 3))/\w.cell? ⟨b,4,none⟩=some (.bool (f 4))/\w.cell? ⟨b,5,none⟩=some (.bool (f 5))/\w.cell? ⟨b,6,none⟩=some (.bool (f 6))/\w.cell? ⟨b,7,none⟩=some (.bool (f 7)):=
 ⟨h.cell (i:=0) o_,h.cell (i:=1) o_,h.cell (i:=2) o_,h.cell (i:=3) o_,h.cell (i:=4) o_,h.cell (i:=5) o_,h.cell (i:=6) o_,h.cell (i:=7) o_⟩
theorem mq_ {w:World}{b t:Nat}{f:Nat->Value}(h:w.rowIs b t 8 f):
 w.frozen? ⟨b,0,none⟩=false/\w.frozen? ⟨b,1,none⟩=false/\w.frozen? ⟨b,2,none⟩=false/\w.frozen? ⟨b,3,none⟩=false/\w.frozen? ⟨b,4,none⟩=false/\w.frozen? ⟨b,5,none⟩=false/\w.frozen? ⟨b,6,none⟩=false/\w.frozen? ⟨b,7,none⟩=false:=
 ⟨h.frozen 0,h.frozen 1,h.frozen 2,h.frozen 3,h.frozen 4,h.frozen 5,h.frozen 6,h.frozen 7⟩
def eq_ (w:World)(b:Nat)(f:Nat->Bool):World:=((((((((w.setCell ⟨b,0,none⟩ (.bool (f 0))).setCell ⟨b,1,none⟩ (.bool (f 1))).setCell ⟨b,2,none⟩ (.bool (f 2))).setCell ⟨b,3,none⟩ (.bool (f 3))).setCell ⟨b,4,none⟩ (.bool (f 4))).setCell ⟨b,5,none⟩ (.bool (f 5))).setCell ⟨b,6,none⟩ (.bool (f 6))).setCell ⟨b,7,none⟩ (.bool (f 7)))
theorem i8_ {w:World}{b t:Nat}{g:Nat->Value}(f:Nat->Bool)(h:w.rowIs b t 8 g):(eq_ w b f).rowIs b t 8 (fun i=> .bool (f i)):=by
 unfold eq_;refine((((((((h.set 0 _).set 1 _).set 2 _).set 3 _).set 4 _).set 5 _).set 6 _).set 7 _).congr (fun i hi=> ?_);rcases (show i=0\/i=1\/i=2\/i=3\/i=4\/i=5\/i=6\/i=7 by omega)with rfl|rfl|rfl|rfl|rfl|rfl|rfl|rfl<;>simp
theorem t2_ {W w:World}{B b:Nat}(f:Nat->Bool)(h:Below B W w)(hb:B<=b):Below B W (eq_ w b f):=by
 unfold eq_;exact((((((((h.setCell hb _).setCell hb _).setCell hb _).setCell hb _).setCell hb _).setCell hb _).setCell hb _).setCell hb _)
theorem js_ {S:Nat->Prop}{W w:World}{b:Nat}(f:Nat->Bool)(h:ab_ S W w)(hb:S b\/W.heap.size<=b):ab_ S W (eq_ w b f):=by
 unfold eq_;exact((((((((h.set _ _ hb).set _ _ hb).set _ _ hb).set _ _ hb).set _ _ hb).set _ _ hb).set _ _ hb).set _ _ hb)
theorem ls_ (f:Nat->Bool)(w:World):
 Calls prog 193 #[.agg (ap_ f)] w fun e w'=>e= .returned (.agg (ap_ (fun c=> !f c)))/\Below w.heap.size w w':=by
 obtain⟨W,hW,BW,b0,b1,b2⟩:=n3__ w (ap_ f) 128 (ap_ (fun _=>false)) 128 (ap_ (fun _=>false)) 128;have hWs:W.heap.size=w.heap.size+1+1+1:=by rw[hW];simp
 have r0:=a8_ b0;have r1:=a8_ b1;have r2:=a8_ b2;simp only[show ap_ (fun _=>false)= #[.bool false,.bool false,.bool false,.bool false,.bool false,.bool false,.bool false,.bool false]from rfl]at hW;go_enter func193,ntmps193;go_wp2_with fail;rw[<-hW];clear hW;go_loopw [4] (fun i' wr=>∃i:Nat,i<=8/\i'= .int .i64 i/\Below (w.heap.size+1+1) W wr/\wr.rowIs (w.heap.size+1+1) 128 8 (fun j=> .bool (if j<i then !f j else false))) (fun i' _=>8 - (intOf i').toNat)
 case atStart=>exact⟨0,o_,rfl,br__,r2.congr (fun j _=>i_)⟩
 case round=>
  obtain⟨i,hi,rfl,hb,hr⟩:=hrel;clear r2;have r0':=r0.of_block (hb.block _ o_);have r1':=r1.of_block (hb.block _ o_);by_cases hlt:i<8
  . have c0:=hr.cell (i:=i) o_;have c1:=hr.frozen i;have c2:=r0'.cell (i:=i) o_;have HR:Hid (wr.rowIs (w.heap.size+1+1) 128 8 (fun j=> .bool (if j<i then !f j else false))):=hr;have HB:Hid _:=hb;clear hr hb r0' r1';obtain⟨fi,HFI⟩:=hx__ (f i);rw[HFI.out]at c2;go_wp2_with fail;go_roundw
    case rel=>
     refine⟨i+1,o_,by go_num,HB.out.setCell (p:=⟨w.heap.size+1+1,i,none⟩) lr__ _,(HR.out.set i _).congr (fun j _=> ?_)⟩;by_cases e:j=i
     . subst e;simp[HFI.out]
     . by_cases h':j<i
       . simp only[e,h',if_false,if_true];rw[if_pos o_]
       . simp only[e,h',if_false];rw[if_neg o_]
    case measure=>simp[intOf];omega
  . have he:i=8:=o_;subst he;have hr':wr.rowIs (w.heap.size+1+1) 128 8 (fun j=> .bool ((fun c=> !f c) j)):=hr.congr (fun j hj=>by rw[if_pos hj]);clear hr;obtain⟨g,hg⟩:∃g:Nat->Bool,g=(fun c=> !f c):=⟨_,rfl⟩;rw[<-hg]at hr';obtain⟨c0,c1,c2,c3,c4,c5,c6,c7⟩:=bi_ hr';obtain⟨d0,d1,d2,d3,d4,d5,d6,d7⟩:=bi_ r1';obtain⟨e0,e1,e2,e3,e4,e5,e6,e7⟩:=mq_ r1';have HR1:Hid (wr.rowIs (w.heap.size+1) 128 8 (fun i=> .bool ((fun _=>false) i))):=r1';have HB:Hid _:=hb;have HGG:Hid (g=(fun c=> !f c)):=hg;clear r0' r1' hr' hb hg r0 r1;go_wp2_with fail;obtain⟨W9,hW9⟩:=ew__ (eq_ wr (w.heap.size+1) g);have hr9:=i8_ g HR1.out;have hb9:Below w.heap.size w (eq_ wr (w.heap.size+1) g):=t2_ g (BW.trans (HB.out.mono o_)) o_;rw[<-hW9]at hr9 hb9;unfold eq_ at hW9;rw[<-hW9];clear hW9 c0 c1 c2 c3 c4 c5 c6 c7;obtain⟨c0,c1,c2,c3,c4,c5,c6,c7⟩:=bi_ hr9;refine bodyPost_ret (v:= .agg (ap_ g)) (by simp[results,results193,go_sem,ap_,c0,c1,c2,c3,c4,c5,c6,c7]) rfl ?_;exact⟨by rw[HGG.out],hb9⟩
def g7_ (bp:Nat)(s:ByteArray)(t:Sp)(L:List Nd)(d:Nd)(w:World)(e:Ending)(w':World):Prop:=
 e= .returned (.int .i64 ((L.length:Nat):Int))/\∃vn',ParM w' bp s t vn' (L++ [d])/\Below bp w w'
theorem bj_ (bp:Nat)(s:ByteArray)(t:Sp)(vn:Value)(L:List Nd)(f:Nat->Bool)(w:World)(h:ParM w bp s t vn L)(hl:L.length<=1000):
 Calls prog 192 #[.pointer (some ⟨bp,2,none⟩),.agg (ap_ f)] w (g7_ bp s t L ⟨1,1,f,0,0,false,0,0⟩ w):=by
 have hbp:=h.lt;obtain⟨W,hW,BW,-,b0⟩:=nw__ w (ap_ f) 128;obtain⟨c0,c1,c2,c3,c4,c5,c6,c7⟩:=bi_ (a8_ b0);have HC:=kl_ bp s t vn L ⟨1,1,f,0,0,false,0,0⟩ W (h.below BW) hl;unfold nagg at HC;simp only[show((0:Nat):Int)=0 from rfl,show((1:Nat):Int)=1 from rfl]at HC;clear b0;go_enter func192,ntmps192;go_upto_region 1 with fail;rw[<-hW];clear hW;go_wp2_with fail;refine HC.mono ?_;rintro e w1 ⟨rfl,vn',hp,hb⟩;go_wp2_with fail;go_ret;exact⟨rfl,vn',hp,(BW.mono o_).trans hb⟩
theorem ParM.nd {w:World}{bp:Nat}{s:ByteArray}{t:Sp}{vn:Value}{L:List Nd}(h:ParM w bp s t vn L){i:Nat}{d:Nd}(hi:L[i]? =some d):
 ∃g cap,vn= .slice (some ⟨g,0,none⟩) L.length cap/\∀j,j<15->w.cell? ⟨g,i*15+j,none⟩=(nagg d)[j]? :=by
 have hlt:i<L.length:=(List.getElem?_eq_some_iff.1 hi).1;obtain⟨ao,cap,rfl,hao⟩:=af_ h.own;obtain⟨g,rfl,hcp⟩:=hao o_;exact⟨g,cap,rfl,fun j hj=>(hcp (i*15+j) o_).trans (v4_ L i j d hi hj)⟩
theorem pw_ (bp:Nat)(s:ByteArray)(t:Sp)(vn:Value)(L:List Nd)(kind one two:Nat)(d1 d2:Nd)(w:World)(h:ParM w bp s t vn L)(hl:L.length<=1000)(h1:L[one]? =some d1)(h2:L[two]? =some d2)(hs1:d1.size<=1000000000)(hs2:d2.size<=1000000000):
 Calls prog 170 #[.pointer (some ⟨bp,2,none⟩),.int .i64 (kind:Int),.int .i64 (one:Int),.int .i64 (two:Int)] w (g7_ bp s t L ⟨kind,d1.size+d2.size,fun _=>false,0,0,false,one,two⟩ w):=by
 have hbp:=h.lt;obtain⟨g,cap,rfl,hc1⟩:=h.nd h1;obtain⟨g',cap',he,hc2⟩:=h.nd h2;simp only[Value.slice.injEq,Option.some.injEq,Addr.mk.injEq]at he;obtain⟨⟨rfl,_⟩,_,rfl⟩:=he;have x1:=hc1 1 o_;have x2:=hc2 1 o_;obtain⟨z1,Z1⟩:=hx__ (d1.size);obtain⟨z2,Z2⟩:=hx__ (d2.size);simp[nagg]at x1 x2;rw[Z1.out]at x1 hs1 ⊢;rw[Z2.out]at x2 hs2 ⊢;have hl1:one<L.length:=(List.getElem?_eq_some_iff.1 h1).1;have hl2:two<L.length:=(List.getElem?_eq_some_iff.1 h2).1;obtain⟨_,_,x3,_,_,_,_,_⟩:=h.par.cells;have HC:=fun w=>kl_ bp s t (.slice (some ⟨g,0,none⟩) L.length cap) L ⟨kind,z1+z2,fun _=>false,0,0,false,one,two⟩ w
 unfold nagg at HC;simp only[show((0:Nat):Int)=0 from rfl,show((4:Nat):Int)=4 from rfl]at HC;have HP:Hid (ParM w bp s t (.slice (some ⟨g,0,none⟩) L.length cap) L):=h;clear hc1 hc2 h h1 h2;have hcast:((z1+z2:Nat):Int)=(z1:Int)+(z2:Int):=i_;rw[hcast]at HC;clear hcast;go_enter func170,ntmps170;go_wp2_with fail;go_quiet (fail);have HC2:=HC (w.drewN nq) (HP.out.below (below_drewN (Below.refl w.heap.size w) nq)) hl;clear HC;go_wp2_with fail;refine HC2.mono ?_;rintro e w1 ⟨rfl,vn',hp,hb⟩;go_wp2_with fail;go_ret;exact⟨rfl,vn',hp,((below_drewN (Below.refl w.heap.size w) nq).mono o_).trans hb⟩
theorem pc_ {a b:Int}(ha:0<=a)(hb:0<=b)(ha2:a<=1000000000)(hb2:b<=10):wrap64 (a*b)=a*b:=by
 have h1:a*b<=1000000000*10:=Int.mul_le_mul ha2 hb2 hb o_;have h2:0<=a*b:=Int.mul_nonneg ha hb;unfold wrap64;omega
theorem g2_ (bp:Nat)(s:ByteArray)(t:Sp)(vn:Value)(L:List Nd)(one lo co:Nat)(en:Bool)(d1:Nd)(w:World)(h:ParM w bp s t vn L)(hl:L.length<=1000)(h1:L[one]? =some d1)(hs1:d1.size<=1000000000)(hco:co<=10):
 Calls prog 189 #[.pointer (some ⟨bp,2,none⟩),.int .i64 (one:Int),.agg #[.int .i64 (lo:Int),.int .i64 (co:Int),.bool en]] w (g7_ bp s t L ⟨4,d1.size*co,fun _=>false,lo,co,en,one,0⟩ w):=by
 have hbp:=h.lt;obtain⟨W,hW,BW,-,b0⟩:=nw__ w #[.int .i64 (lo:Int),.int .i64 (co:Int),.bool en] 130;obtain⟨c0,c1,c2,_,_,_⟩:=ak_ b0;have h':=h.below BW;obtain⟨g,cap,rfl,hc1⟩:=h'.nd h1;have x1:=hc1 1 o_;obtain⟨z1,Z1⟩:=hx__ (d1.size);simp[nagg]at x1;rw[Z1.out]at x1 hs1 ⊢;have hl1:one<L.length:=(List.getElem?_eq_some_iff.1 h1).1;obtain⟨_,_,x3,_,_,_,_,_⟩:=h'.par.cells;have HC:=fun w=>kl_ bp s t (.slice (some ⟨g,0,none⟩) L.length cap) L ⟨4,z1*co,fun _=>false,lo,co,en,one,0⟩ w
 unfold nagg at HC;simp only[show((0:Nat):Int)=0 from rfl,show((4:Nat):Int)=4 from rfl]at HC;have HP:Hid (ParM W bp s t (.slice (some ⟨g,0,none⟩) L.length cap) L):=h';have hcast:((z1*co:Nat):Int)=(z1:Int)*(co:Int):=i_;have hwr:=pc_ (a:=(z1:Int)) (b:=(co:Int)) o_ o_ o_ o_;rw[hcast]at HC;clear hcast hc1 h h' h1 b0;have hWs:=BW.size;go_enter func189,ntmps189;go_upto_region 1 with fail;rw[<-hW];clear hW;go_wp2_with fail;go_quiet (fail);have HC2:=HC (W.drewN nq) (HP.out.below (below_drewN (Below.refl W.heap.size W) nq)) hl;clear HC;go_wp2_with fail;refine HC2.mono ?_;rintro e w1 ⟨rfl,vn',hp,hb⟩;go_wp2_with fail;go_ret;exact⟨rfl,vn',hp,(BW.mono o_).trans (((below_drewN (Below.refl W.heap.size W) nq).mono o_).trans hb)⟩
end Go.Proofs.YtpngikmcjkjdaaaGreatDoor
