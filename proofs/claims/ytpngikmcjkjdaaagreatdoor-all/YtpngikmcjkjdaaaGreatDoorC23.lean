import Derived.Test.YtpngikmcjkjdaaaGreatDoorC10
import Derived.Test.YtpngikmcjkjdaaaGreatDoorC16
import Derived.Test.YtpngikmcjkjdaaaGreatDoorC20
set_option linter.unusedVariables false
set_option linter.unusedSimpArgs false
set_option maxRecDepth 20000
set_option maxHeartbeats 80000000
namespace Go.Proofs.YtpngikmcjkjdaaaGreatDoor
open Go.RowKit Tryz List Nat
variable {ps:List Nat} {x x':List Value} {a b base base' cap e e' g k n n' q s s':Nat} {A':Nat->Bool} {X':Nat->Nat->Nat} {v v':Value}
def cv (n q:Nat):Nat:=q/40*n+q%40
theorem sc_ (h:q%40<n):cv n q/n=q/40:=by
 unfold cv;rw[Nat.add_comm,add_mul_div_right _ _ o_,div_eq_of_lt h,Nat.zero_add]
theorem sd_ (h:q%40<n):cv n q%n=q%40:=by
 unfold cv;rw[Nat.add_comm,add_mul_mod_self_right,mod_eq_of_lt h]
theorem yg_ (ha:a%40<n)(hb:b%40<n)(h:cv n a=cv n b):a=b:=by
 have c:=sc_ ha;have e:=sc_ hb;have d:=sd_ ha;have f:=sd_ hb;rw[h]at c d;omega
theorem ah0_ {M N:γ}(h:fw_ M N q):cv N.n q<M.n*N.n:=by
 have a:(q/40+1)*N.n<=M.n*N.n:=mul_le_mul_right _ h.1;have b:=h.2;unfold cv;rw[Nat.add_mul]at a;omega
def atv (n:Nat)(ps:List Nat)(r:Nat):Nat:=if r∈ps.map (cv n)then(ps.map (cv n)).idxOf r+1 else 0
theorem ah1_ (h:∀q∈ps,q%40<n)(hq:q%40<n):(ps.map (cv n)).idxOf (cv n q)=ps.idxOf q:=by
 induction ps with
 |nil=>rfl
 |cons a l ih=>
  have d:=h a i_;have f:=ih (fun x hx=>h x (by simp[hx]));simp only[map_cons,idxOf_cons];by_cases e:a=q
  . subst e;simp
  . have:cv n a≠cv n q:=fun e'=>e (yg_ d hq e')
    have b:(cv n a==cv n q)=false:=by simpa using this
    have c:(a==q)=false:=by simpa using e
    rw[b,c,f]
theorem se_ (h:∀q∈ps,q%40<n)(hq:q%40<n):cv n q∈ps.map (cv n)↔q∈ps:=by
 rw[mem_map];constructor
 . rintro⟨a,b,e⟩;rw[<-yg_ (h a b) hq e];exact b
 . intro c;exact⟨q,c,rfl⟩
theorem sf_ (h:∀q∈ps,q%40<n)(hq:q∈ps):atv n ps (cv n q)=ps.idxOf q+1:=by
 have a:=h q hq;unfold atv;rw[if_pos ((se_ h a).2 hq),ah1_ h a]
theorem sg_ (h:∀q∈ps,q%40<n)(hn:q%40<n)(hq:q∉ps):atv n ps (cv n q)=0:=by
 unfold atv;rw[if_neg (fun hm=>hq ((se_ h hn).1 hm))]
theorem ah2_ (n:Nat)(ps:List Nat)(q r:Nat)(hq:cv n q∉ps.map (cv n)):atv n (ps++ [q]) r=if r=cv n q then ps.length+1 else atv n ps r:=by
 unfold atv;by_cases e:r=cv n q
 . subst e;simp[map_append,idxOf_append,hq]
 . by_cases h:r∈ps.map (cv n)
   . simp only[map_append,map_cons,map_nil,mp_,h,true_or,if_true,idxOf_append,if_neg e]
   . simp only[map_append,map_cons,map_nil,mp_,h,mem_singleton,e,or_self,if_false]
def yh_:Prop:=∀(V U:ρ) (M N:γ) (how:Int) (w:World),M.Ok->N.Ok->π w V M->π w U N->0<=how->how<=3->
 Calls prog 82 #[.agg #[.slice (some ⟨V.ba,V.oa,none⟩) M.n V.ca,.slice (some ⟨V.bn,V.on,none⟩) M.n V.cn],.agg #[.slice (some ⟨U.ba,U.oa,none⟩) N.n U.ca,.slice (some ⟨U.bn,U.on,none⟩) N.n U.cn],.int .i64 how] w
  fun e w'=>Bl w w'/\∃(ps:List Nat) (Z:ρ),Κ (fw_ M N) (Ν M N) ps (8*ps.length)/\e= .returned (.agg #[.slice (some ⟨Z.ba,Z.oa,none⟩) ps.length Z.ca,.slice (some ⟨Z.bn,Z.on,none⟩) ps.length Z.cn])/\π w' Z (be_ M N how ps)
theorem sh_ (aa an:Option Addr)(na ca nn cn:Nat)(budget:Int)(w:World)(h:budget<(nn:Int)):
 Calls prog 66 #[.agg #[.slice aa na ca,.slice an nn cn],.int .i64 budget] w
  fun e w'=>e= .returned (.tuple #[.agg #[.slice none 0 0,.slice none 0 0],.int .i64 5])/\Bl w w':=by
 obtain⟨W,c,d,g,a⟩:=bl_ w #[.slice aa na ca,.slice an nn cn] 41 #[.slice none 0 0,.slice none 0 0] 41;obtain⟨o,p,_,_⟩:=β g;obtain⟨m,n,k,l⟩:=β a;have f:Hid _:=av_ d (b:=w.heap.size+1) o_ (.slice none 0 0) (.slice none 0 0);go_enter func66,ntmps66;go_upto_region 1 with fail;rw[<-c];clear c;go_wp2_with fail;obtain⟨_,j,i⟩:=Φ (u:= .slice none 0 0) (v:= .slice none 0 0) a;refine bodyPost_ret (v:= .tuple #[.agg #[.slice none 0 0,.slice none 0 0],.int .i64 5]) (by simp[results,results66,go_sem,i,j]) rfl ?_;exact⟨rfl,f.out⟩
theorem si_ (aa an:Option Addr)(na ca nn cn:Nat)(budget:Int)(w:World)(h:(nn:Int)<=budget):
 Calls prog 66 #[.agg #[.slice aa na ca,.slice an nn cn],.int .i64 budget] w
  fun e w'=>e= .returned (.tuple #[.agg #[.slice aa na ca,.slice an nn cn],.int .i64 0])/\Bl w w':=by
 obtain⟨W,c,d,g,a⟩:=bl_ w #[.slice aa na ca,.slice an nn cn] 41 #[.slice none 0 0,.slice none 0 0] 41;obtain⟨p,q,_,_⟩:=β g;obtain⟨n,o,l,m⟩:=β a;have k:¬budget<(nn:Int):=o_;have f:Hid _:=av_ d (b:=w.heap.size+1) o_ (.slice aa na ca) (.slice an nn cn);go_enter func66,ntmps66;go_upto_region 1 with fail;rw[<-c];clear c;go_wp2_with fail;obtain⟨_,j,i⟩:=Φ (u:= .slice aa na ca) (v:= .slice an nn cn) a;refine bodyPost_ret (v:= .tuple #[.agg #[.slice aa na ca,.slice an nn cn],.int .i64 0]) (by simp[results,results66,go_sem,i,j]) rfl ?_;exact⟨rfl,f.out⟩
theorem ah3_ (t u:aj_)(A C:Nat->Bool)(X Y:Nat->Nat->Int)(how budget:Int)(w:World)(hT:az_ w t A X)(hU:az_ w u C Y)(hne:cg_ t u X Y how budget≠0):
 Calls prog 41 #[.agg #[.slice t.aa t.na t.ca,.slice t.an t.nn t.cn],.agg #[.slice u.aa u.na u.ca,.slice u.an u.nn u.cn],.int .i64 how,.int .i64 budget] w
  fun e w'=>e= .returned (.tuple #[.agg #[.slice none 0 0,.slice none 0 0],.int .i64 (cg_ t u X Y how budget)])/\Bl w w':=by
 obtain⟨W,y,n,I,J,K⟩:=fe_ w #[.slice t.aa t.na t.ca,.slice t.an t.nn t.cn] 41 #[.slice u.aa u.na u.ca,.slice u.an u.nn u.cn] 41 #[.slice none 0 0,.slice none 0 0] 41;have V:w.heap.size+1+1<W.heap.size:=by rw[y];simp
 have d:=lk_ t A X W (hT.below n);have N:=hU.below n;obtain⟨i,G⟩:=δ (Ο t X);obtain⟨m,H⟩:=δ (Ο u Y);rw[G.out]at d;obtain⟨j,p⟩:=δ (cg_ t u X Y how budget);rw[p.out]at hne ⊢;have O:Hid ((i=false/\j=6)\/(i=true/\m=false/\j=6)\/(i=true/\m=true/\how<0/\j=8)\/(i=true/\m=true/\¬how<0/\3<how/\j=8)\/(i=true/\m=true/\¬how<0/\¬3<how/\(decide (1<=budget)&&decide (budget<=40))=false/\j=8)):=by
  have h:=p.out;unfold cg_ at h;rw[G.out,H.out]at h;unfold Hid;cases i
  . left;simp at h;exact⟨rfl,h.symm⟩
  . cases m
    . right;left;simp at h;exact⟨rfl,rfl,h.symm⟩
    . right;right;simp only[Bool.true_eq_false,if_false]at h;by_cases f:how<0
      . left;rw[if_pos (.inl f)]at h;exact⟨rfl,rfl,f,h.symm⟩
      . right;by_cases k:3<how
        . left;rw[if_pos (.inr k)]at h;exact⟨rfl,rfl,f,k,h.symm⟩
        . right;rw[if_neg o_]at h;by_cases l:budget<1\/40<budget
          . rw[if_pos l]at h;exact⟨rfl,rfl,f,k,s_,h.symm⟩
          . rw[if_neg l]at h;exact absurd h.symm hne
 obtain⟨z,B,_,_⟩:=β I;clear hT hU hne p;go_enter func41,ntmps41;go_wp2_with fail;rw[<-y];clear y;refine d.mono ?_;clear d;rintro e S ⟨rfl,g⟩;have Z:=g.size;have d:=lk_ u C Y S (N.below g);rw[H.out]at d;have L:=(g.block _ o_).trans J;have M:=(g.block _ o_).trans K;have D:=η n g;clear z B I J K g N n;obtain⟨z,B,_,_⟩:=β L;go_wp2_with fail;refine d.mono ?_;clear d;rintro e P ⟨rfl,x⟩;have d2:=(x.block _ o_).trans M;have E:=η D x;have q:Hid _:=av_ E (b:=w.heap.size+1+1) o_ (.slice none 0 0) (.slice none 0 0);obtain⟨q0,q1,p0,p1⟩:=β d2;clear z B L M x D E;obtain⟨_,c,a⟩:=Φ (u:= .slice none 0 0) (v:= .slice none 0 0) d2;have r:Hid _:=a;have s:Hid _:=c;clear a c;have Q:=O.out;clear O;rcases Q with ⟨rfl,rfl⟩|⟨rfl,rfl,rfl⟩|⟨rfl,rfl,f,rfl⟩|⟨rfl,rfl,f,k,rfl⟩|⟨rfl,rfl,f,k,l,rfl⟩
 . go_wp2_with fail;have a:=r.out;have c:=s.out;refine bodyPost_ret (v:= .tuple #[.agg #[.slice none 0 0,.slice none 0 0],.int .i64 6]) (by simp[results,results41,go_sem,a,c]) rfl ?_;exact⟨rfl,q.out⟩
 . go_wp2_with fail;have a:=r.out;have c:=s.out;refine bodyPost_ret (v:= .tuple #[.agg #[.slice none 0 0,.slice none 0 0],.int .i64 6]) (by simp[results,results41,go_sem,a,c]) rfl ?_;exact⟨rfl,q.out⟩
 all_goals
  have o:=lu_ budget P;try rw[l]at o
  obtain⟨U,F⟩:=δ (decide (1<=budget)&&decide (budget<=40));try rw[F.out]at o
  clear F;try clear l
  go_wp2_with fail;refine o.mono ?_;rintro e T ⟨rfl,R⟩;obtain rfl:P=T:=R.symm;clear o;go_wp2_with fail;have a:=r.out;have c:=s.out;refine bodyPost_ret (v:= .tuple #[.agg #[.slice none 0 0,.slice none 0 0],.int .i64 8]) (by simp[results,results41,go_sem,a,c]) rfl ?_;exact⟨rfl,q.out⟩
def yi_ (L:List Nat->Bool)(budget:Nat)(w:World)(e:Ending)(w':World):Prop:=
 Bl w w'/\((∃(U:ρ) (R:γ),ch_ R L/\R.n<=budget/\e= .returned (.tuple #[.agg #[.slice (some ⟨U.ba,U.oa,none⟩) R.n U.ca,.slice (some ⟨U.bn,U.on,none⟩) R.n U.cn],.int .i64 0])/\π w' U R)\/
  (e= .returned (.tuple #[.agg #[.slice none 0 0,.slice none 0 0],.int .i64 5])/\∃R,ch_ R L/\budget<R.n))
theorem ch_.dj {R:γ}{L L':List Nat->Bool}(h:ch_ R L)(he:∀x,Γ x->L x=L' x):ch_ R L':=⟨h.num,h.apart,fun x hx=>(h.lang x hx).trans (he x hx)⟩
theorem yj_ (hboth:yh_)(V U:ρ)(M N:γ)(how budget:Int)(w:World)(hM:M.Ok)(hN:N.Ok)(hV:π w V M)(hU:π w U N)(hh0:0<=how)(hh1:how<=3)(hb0:1<=budget)(hb1:budget<=40):
 Calls prog 41 #[.agg #[.slice (some ⟨V.ba,V.oa,none⟩) M.n V.ca,.slice (some ⟨V.bn,V.on,none⟩) M.n V.cn],.agg #[.slice (some ⟨U.ba,U.oa,none⟩) N.n U.ca,.slice (some ⟨U.bn,U.on,none⟩) N.n U.cn],.int .i64 how,.int .i64 budget] w
  (yi_ (fun x=>fa_ how (M.b6 x) (N.b6 x)) budget.toNat w):=by
 obtain⟨W,A,p,J,K,L⟩:=fe_ w #[.slice (some ⟨V.ba,V.oa,none⟩) M.n V.ca,.slice (some ⟨V.bn,V.on,none⟩) M.n V.cn] 41 #[.slice (some ⟨U.ba,U.oa,none⟩) N.n U.ca,.slice (some ⟨U.bn,U.on,none⟩) N.n U.cn] 41 #[.slice none 0 0,.slice none 0 0] 41;have ai:w.heap.size+1+1<W.heap.size:=by rw[A];simp
 have Y:=hV.below p;have X:=hU.below p;obtain⟨j,k,_,_⟩:=β J;go_enter func41,ntmps41;go_wp2_with fail;rw[<-A];clear A;refine(kn_ V M W hM Y).mono ?_;rintro e w1 ⟨rfl,l⟩;have al:=l.size;obtain⟨F,G,_,_⟩:=β ((l.block _ o_).trans K);have a:=kn_ U N w1 hN (X.below l);clear j k;go_wp2_with fail;refine a.mono ?_;clear a;rintro e E ⟨rfl,t⟩;have am:=t.size;have h:=η l t;have a:=lu_ budget E;rw[show(decide (1<=budget)&&decide (budget<=40))=true by simp;omega]at a;clear F G l t;go_wp2_with fail;refine a.mono ?_;clear a;rintro e w3 ⟨rfl,ah⟩;obtain rfl:E=w3:=ah.symm;obtain⟨j,k,_,_⟩:=β ((h.block _ o_).trans J);obtain⟨F,G,_,_⟩:=β ((h.block _ o_).trans K);have a:=hboth V U M N how E hM hN (Y.below h) (X.below h) hh0 hh1;go_wp2_with fail;refine a.mono ?_;clear a;rintro e w4 ⟨y,m,Z,f,rfl,hZ⟩;have an:=y.size;have H:=η h y;have ak:=f.bound hN;have aj:M.n*N.n<=1600:=by have:=Nat.mul_le_mul hM.hi hN.hi;omega
 have af:=f.len;have ab:=s2_ (how:=how) f;have a:=nq_ Z (be_ M N how m) w4 af (by show m.length<=100000000;omega) (fun i c hi hc=>ab.nx i c hi hc) hZ;have P:Hid (∀x,Γ x->(be_ M N how m).b6 x=fa_ how (M.b6 x) (N.b6 x)):=fun x hx=>zq_ hM hN f x hx
 rw[show(be_ M N how m).n=m.length from rfl]at a;clear j k F G y h f hZ ab;go_wp2_with fail;refine a.mono ?_;clear a;rintro e w5 ⟨z,Q,R,f,rfl,T,O⟩;have ao:=z.size;have S:Hid (ch_ R (fun x=>fa_ how (M.b6 x) (N.b6 x))):=f.dj P.out;have I:=η H z;clear f P z H;go_upto_region 9 with fail;obtain⟨r,aa,s,s6,B⟩:=ν w5 #[.slice (some ⟨Q.ba,Q.oa,none⟩) R.n Q.ca,.slice (some ⟨Q.bn,Q.on,none⟩) R.n Q.cn] 41;rw[<-aa];clear aa;have o:=η I s;have HT:Hid (π r Q R):=T.below s;have ac:=α O;obtain⟨j,k,_,_⟩:=β B;clear T O s I;by_cases ae:R.n<=budget.toNat
 . have a:=si_ (some ⟨Q.ba,Q.oa,none⟩) (some ⟨Q.bn,Q.on,none⟩) R.n Q.ca R.n Q.cn budget r o_;go_wp2_with fail;refine a.mono ?_;clear a;rintro e w7 ⟨rfl,d⟩;have ag:=d.size;have g:=η o d;have d2:=(g.block _ o_).trans L;have q:=η p g;have ad:Hid _:=HT.out.below d;obtain⟨q0,q1,p0,p1⟩:=β d2;clear d g o j k B;go_wp2_with fail;obtain⟨_,D,C⟩:=Φ (u:= .slice (some ⟨Q.ba,Q.oa,none⟩) R.n Q.ca) (v:= .slice (some ⟨Q.bn,Q.on,none⟩) R.n Q.cn) d2;refine bodyPost_ret (v:= .tuple #[.agg #[.slice (some ⟨Q.ba,Q.oa,none⟩) R.n Q.ca,.slice (some ⟨Q.bn,Q.on,none⟩) R.n Q.cn],.int .i64 0]) (by simp[results,results41,go_sem,C,D]) rfl ?_;exact⟨av_ q (b:=w.heap.size+1+1) o_ _ _,.inl ⟨Q,R,S.out,ae,rfl,ad.out.res ac.out (b:=w.heap.size+1+1) o_ _ _⟩⟩
 . have a:=sh_ (some ⟨Q.ba,Q.oa,none⟩) (some ⟨Q.bn,Q.on,none⟩) R.n Q.ca R.n Q.cn budget r o_;go_wp2_with fail;refine a.mono ?_;clear a;rintro e w7 ⟨rfl,d⟩;have ag:=d.size;have g:=η o d;have d2:=(g.block _ o_).trans L;have q:=η p g;obtain⟨q0,q1,p0,p1⟩:=β d2;clear d g o j k B;go_wp2_with fail;obtain⟨_,D,C⟩:=Φ (u:= .slice none 0 0) (v:= .slice none 0 0) d2;refine bodyPost_ret (v:= .tuple #[.agg #[.slice none 0 0,.slice none 0 0],.int .i64 5]) (by simp[results,results41,go_sem,C,D]) rfl ?_;exact⟨av_ q (b:=w.heap.size+1+1) o_ _ _,.inr ⟨rfl,R,S.out,o_⟩⟩
section
variable {w w2:World}
theorem ah4_ (h:w.ownsRow base e s v n x)(h':w.ownsRow base' e' s' v' n' x')(hne:e≠e')(g:Nat)(hg:v.ownBlock=some g)(hg':v'.ownBlock=some g):False:=by
 rcases h.2 with ⟨rfl,_⟩|⟨a,f,j,rfl,_,c,_⟩
 . simp[Value.ownBlock]at hg
 . rcases h'.2 with ⟨rfl,_⟩|⟨d,i,k,rfl,_,b,_⟩
   . simp[Value.ownBlock]at hg'
   . simp only[Value.ownBlock,Δ]at hg hg';subst hg;subst hg';rw[c]at b;simp only[Δ,Obj.cells.injEq]at b;exact hne b.2.1
theorem ka_ {t:Nat}{cs:Array Value}{k:Nat×Nat}(h:w.ownsRow base e s v n x)(hb:w.heap[b]? =some (.cells cs t k))(hne:e≠t)(g:Nat)(hg:v.ownBlock=some g):g≠b:=by
 rcases h.2 with ⟨rfl,_⟩|⟨a,d,f,rfl,_,c,_⟩
 . simp[Value.ownBlock]at hg
 . simp only[Value.ownBlock,Δ]at hg;subst hg;rintro rfl;rw[c]at hb;simp only[Δ,Obj.cells.injEq]at hb;exact hne hb.2.1
theorem gf_ (h:w.ownsRow base e s v n x)(h':w.ownsRow base' e' s' v' n' x')(hne:e≠e')(hg:w.grownBy w2 v'.ownBlock):w2.ownsRow base e s v n x:=by
 refine h.kept hg ?_;cases hv:v.ownBlock with
 |none=>exact .inl rfl
 |some k=>exact .inr (fun e=>ah4_ h h' hne k hv e.symm)
theorem sj_ (h:w.ownsRow base e s v n x)(hd:∀g,v.ownBlock=some g->v'.ownBlock=some g->False)(hg:w.grownBy w2 v'.ownBlock):w2.ownsRow base e s v n x:=by
 refine h.kept hg ?_;cases hv:v.ownBlock with
 |none=>exact .inl rfl
 |some k=>exact .inr (fun e=>hd k hv e.symm)
end
section
variable {W W':World} {b:Nat} {w w1 w2:World} {va vn vr vp:Value} {ka kn:Nat} {A:Nat->Bool} {R C:Nat->Nat} {X:Nat->Nat->Nat} {c:Nat} {x:List Value}
theorem ak_.dh (h:ak_ W b w va vn ka kn A R C X):ak_ w b w va vn ka kn A R C X:=
 ⟨⟨μ,h.two.cg,h.two.cB,h.two.cA,h.two.cX⟩,h.rows⟩
theorem ah5_ {A:Nat->Bool}(h:∀i,i<k->A i=A' i):aa_ A k=aa_ A' k:=by
 induction k with
 |zero=>rfl
 |succ k ih=>simp only[aa_];rw[ih (fun i hi=>h i o_),h k o_]
theorem l8_ {X Y:Nat->Nat}(h:∀i,i<k->X i=Y i):Λ X k=Λ Y k:=by
 simp only[Λ];apply map_congr_left;intro i a;rw[h i (by simpa using a)]
theorem ak_.congr (h:ak_ W b w va vn ka kn A R C X)(ha:∀i,i<ka->A i=A' i)(hx:∀i c,i<kn->c<8->X i c=X' i c):ak_ W b w va vn ka kn A' R C X':=
 ⟨by have:=h.two;rw[ah5_ ha]at this;exact this,fun i hi=>by have:=h.rows i hi;rw[l8_ (fun c hc=>hx i c hi hc)]at this;exact this⟩
theorem ak_.set (h:ak_ w b w va vn ka kn A R C X)(a:Addr)(v:Value)(ha:a.block<b):ak_ (w.setCell a v) b (w.setCell a v) va vn ka kn A R C X:=by
 refine⟨⟨μ,a3_ h.two.cg o_,bg_ h.two.cB _ _ (fun g hg=>by have:=(h.two.cB.lt g hg).1;omega),bg_ h.two.cA _ _ (fun g hg=>by have:=(h.two.cA.lt g hg).1;omega),h.two.cX⟩,fun i hi=> ?_⟩;exact bg_ (h.rows i hi) _ _ (fun g hg=>by have:=((h.rows i hi).lt g hg).1;omega)
theorem ak_.eW (h:ak_ w b w va vn ka kn A R C X){m:Nat}(hr:w.ownsRow base 3 s vp m x)(hd:∀i,i<kn->vp.ownBlock≠some (R i))(hg:w.grownBy w2 vp.ownBlock):ak_ w2 b w2 va vn ka kn A R C X:=by
 have a:=κ h.two.cg;refine⟨⟨μ, ?_,gf_ h.two.cB hr d_ hg,gf_ h.two.cA hr d_ hg,h.two.cX⟩,fun i hi=>(h.rows i hi).kept hg (.inr (fun e=>hd i hi e.symm))⟩;rw[hg.block b a (fun e=>ka_ hr h.two.cg d_ b e.symm rfl)];exact h.two.cg
end
structure e4_ (W:World)(B b:Nat)(w:World)(n mn:Nat)(ps:List Nat)(vp va vn:Value)(ka kn:Nat)(A:Nat->Bool)(R C:Nat->Nat)(X:Nat->Nat->Nat):Prop where
 cz:Below B W w
 tab:w.rowIs B 3 mn (fun r=> .int .i64 (atv n ps r:Nat))
 own:w.ownsRow (B+1) 3 1 vp ps.length (du_ (ps.map (cv n)))
 bm:ak_ w b w va vn ka kn A R C X
 dp:∀i,i<kn->vp.ownBlock≠some (R i)
 hb:B+1<=b
structure er_ (W:World)(B b:Nat)(w:World)(n mn:Nat)(ps:List Nat)(vp va vn vr:Value)(ka kn c:Nat)(A:Nat->Bool)(R C:Nat->Nat)(X:Nat->Nat->Nat):Prop where
 mem:e4_ W B b w n mn ps vp va vn ka kn A R C X
 row:w.ownsRow (b+1) 3 1 vr c (Λ (X kn) c)
 dr:∀i,i<kn->vr.ownBlock≠some (R i)
 eU:∀g,vp.ownBlock=some g->vr.ownBlock=some g->False
section
variable {W:World} {B b:Nat} {w w1 w2:World} {n mn:Nat} {ps:List Nat} {vp va vn vr:Value} {ka kn c:Nat} {A:Nat->Bool} {R C:Nat->Nat} {X:Nat->Nat->Nat}
theorem e4_.cQ (h:e4_ W B b w n mn ps vp va vn ka kn A R C X):B<w.heap.size/\b<w.heap.size:=⟨h.tab.lt,κ h.bm.two.cg⟩
theorem e4_.below (h:e4_ W B b w n mn ps vp va vn ka kn A R C X)(hb:Bl w w1):e4_ W B b w1 n mn ps vp va vn ka kn A R C X:=
 ⟨h.cz.trans (hb.mono (by have:=h.cQ;omega)),h.tab.of_block (hb.block _ h.tab.lt),ao_ h.own hb,(h.bm.below hb).dh,h.dp,h.hb⟩
theorem er_.below (h:er_ W B b w n mn ps vp va vn vr ka kn c A R C X)(hb:Bl w w1):er_ W B b w1 n mn ps vp va vn vr ka kn c A R C X:=
 ⟨h.mem.below hb,ao_ h.row hb,h.dr,h.eU⟩
theorem e4_.congr (h:e4_ W B b w n mn ps vp va vn ka kn A R C X)(ha:∀i,i<ka->A i=A' i)(hx:∀i c,i<kn->c<8->X i c=X' i c):e4_ W B b w n mn ps vp va vn ka kn A' R C X':=
 ⟨h.cz,h.tab,h.own,h.bm.congr ha hx,h.dp,h.hb⟩
theorem er_.congr (h:er_ W B b w n mn ps vp va vn vr ka kn c A R C X)(ha:∀i,i<ka->A i=A' i)(hx:∀i c,i<kn->c<8->X i c=X' i c)(hr:∀d,d<c->X kn d=X' kn d):er_ W B b w n mn ps vp va vn vr ka kn c A' R C X':=
 ⟨h.mem.congr ha hx,by have:=h.row;rw[l8_ hr]at this;exact this,h.dr,h.eU⟩
theorem e4_.acc (h:e4_ W B b w n mn ps vp va vn ka kn A R C X)(hown:w2.ownsRow (b+1) 4 1 (.slice (some ⟨g,0,none⟩) (ka+1) cap) (ka+1) (aa_ A ka++ [.bool (A ka)]))(hg:w.grownBy w2 va.ownBlock)(hf:va.ownBlock=some g\/g=w.heap.size):
 e4_ W B b (w2.setCell ⟨b,0,none⟩ (.slice (some ⟨g,0,none⟩) (ka+1) cap)) n mn ps vp (.slice (some ⟨g,0,none⟩) (ka+1) cap) vn (ka+1) kn A R C X:=by
 have f:=h.cQ;have d:=h.hb;have a:=h.bm.two.cB;have c:=gf_ h.own a d_ hg;refine⟨(h.cz.grown hg o_ (fun k e=>by have:=(a.lt k e).1;omega)).setCell s_ _,(hq_ h.tab hg (fun e=>by have:=(a.lt _ e).1;omega)).setOther s_ _,bg_ c _ _ (fun g' hg'=> ?_),(h.bm.acc hown hg hf).dh,h.dp,h.hb⟩;exact ka_ c (h.bm.two.cM hg) d_ g' hg'
theorem e4_.dW (h:e4_ W B b w n mn ps vp va vn ka kn A R C X):er_ W B b w n mn ps vp va vn (.slice none 0 0) ka kn 0 A R C X:=
 ⟨h,a8_,by intro i _ e;simp[Value.ownBlock]at e,by intro g _ e;simp[Value.ownBlock]at e⟩
theorem er_.put (h:er_ W B b w n mn ps vp va vn vr ka kn c A R C X)(hown:w2.ownsRow (b+1) 3 1 (.slice (some ⟨g,0,none⟩) (c+1) cap) (c+1) (Λ (X kn) c++ [.int .i64 ((X kn c:Nat):Int)]))(hg:w.grownBy w2 vr.ownBlock)(hf:vr.ownBlock=some g\/g=w.heap.size):
 er_ W B b w2 n mn ps vp va vn (.slice (some ⟨g,0,none⟩) (c+1) cap) ka kn (c+1) A R C X:=by
 have a:=h.mem;have o:=a.cQ;have m:=a.hb;rw[<-kp_]at hown;refine⟨⟨a.cz.grown hg o_ (fun k e=>by have:=(h.row.lt k e).1;omega),hq_ a.tab hg (fun e=>by have:=(h.row.lt _ e).1;omega),sj_ a.own h.eU hg,(a.bm.grown h.row h.dr hg).dh,a.dp,a.hb⟩,hown, ?_, ?_⟩
 . intro i j e;simp only[Value.ownBlock,Δ]at e;rcases hf with hf|hf
   . exact h.dr i j (by rw[hf,e])
   . have:=((a.bm.rows i j).lt (R i) rfl).2;omega
 . intro l d f;simp only[Value.ownBlock,Δ]at f;subst f;rcases hf with hf|hf
   . exact h.eU _ d hf
   . have:=(a.own.lt _ d).2;omega
theorem er_.pair (h:er_ W B b w n mn ps vp va vn vr ka kn c A R C X)(hq:cv n q∉ps.map (cv n))(hown:w2.ownsRow (B+1) 3 1 (.slice (some ⟨g,0,none⟩) (ps.length+1) cap) (ps.length+1) (du_ (ps.map (cv n))++ [.int .i64 ((cv n q:Nat):Int)]))(hg:w.grownBy w2 vp.ownBlock)(hf:vp.ownBlock=some g\/g=w.heap.size):
 er_ W B b (w2.setCell ⟨B,cv n q,none⟩ (.int .i64 ((ps.length+1:Nat):Int))) n mn (ps++ [q]) (.slice (some ⟨g,0,none⟩) (ps.length+1) cap) va vn vr ka kn c A R C X:=by
 have a:=h.mem;have s:=a.cQ;have p:=a.hb;rw[md_]at hown;have o:=hq_ a.tab hg (fun e=>by have:=(a.own.lt _ e).1;omega);have m:=sj_ h.row (fun d f j=>h.eU d j f) hg;refine⟨⟨(a.cz.grown hg o_ (fun k e=>by have:=(a.own.lt k e).1;omega)).setCell i_ _,(o.set (cv n q) _).congr (fun r _=> ?_), ?_,(a.bm.eW a.own a.dp hg).set _ _ s_, ?_,a.hb⟩,bg_ m _ _ (fun d hg'=>by have:=(m.lt d hg').1;simp;omega),h.dr, ?_⟩
 . rw[ah2_ n ps q r hq];by_cases e:r=cv n q
   . simp[e]
   . simp[e]
 . have:=bg_ hown ⟨B,cv n q,none⟩ (.int .i64 ((ps.length+1:Nat):Int)) (fun d hg'=>by have:=(hown.lt d hg').1;simp;omega);simpa using this
 . intro i l e;simp only[Value.ownBlock,Δ]at e;rcases hf with hf|hf
   . exact a.dp i l (by rw[hf,e])
   . have:=((a.bm.rows i l).lt (R i) rfl).2;omega
 . intro d f j;simp only[Value.ownBlock,Δ]at f;subst f;rcases hf with hf|hf
   . exact h.eU _ hf j
   . have:=(h.row.lt _ j).2;omega
theorem er_.done {gr cr:Nat}(h:er_ W B b w n mn ps vp va vn (.slice (some ⟨gr,0,none⟩) 8 cr) ka kn 8 A R C X)
 (hown:w2.ownsRow (b+1) 24 1 (.slice (some ⟨g,0,none⟩) (kn+1) cap) (kn+1) (h8_ R C kn++ [.slice (some ⟨gr,0,none⟩) 8 cr])) (hg:w.grownBy w2 vn.ownBlock) (hf:vn.ownBlock=some g\/g=w.heap.size):
 e4_ W B b (w2.setCell ⟨b,1,none⟩ (.slice (some ⟨g,0,none⟩) (kn+1) cap)) n mn ps vp va (.slice (some ⟨g,0,none⟩) (kn+1) cap) ka (kn+1) A (fun i=>if i=kn then gr else R i) (fun i=>if i=kn then cr else C i) X:=by
 have a:=h.mem;have m:=a.cQ;have j:=a.hb;have c:=a.bm.two.cA;have f:=gf_ a.own c d_ hg;refine⟨(a.cz.grown hg o_ (fun k e=>by have:=(c.lt k e).1;omega)).setCell s_ _,(hq_ a.tab hg (fun e=>by have:=(c.lt _ e).1;omega)).setOther s_ _,bg_ f _ _ (fun g' hg'=> ?_),(a.bm.b7 h.row hown hg hf).dh, ?_,a.hb⟩
 . exact ka_ f (a.bm.two.cN hg) d_ g' hg'
 . intro i l e;by_cases d:i=kn
   . simp only[d,if_true]at e;exact h.eU gr e rfl
   . simp only[if_neg d]at e;exact a.dp i o_ e
end
theorem ah6_ (hb:b<40):cv n (a*40+b)=a*n+b:=by
 unfold cv;rw[show(a*40+b)/40=a by omega,show(a*40+b)%40=b by omega]
theorem e4_.start {W:World}{B mn:Nat}{A:Nat->Bool}{R C:Nat->Nat}{X:Nat->Nat->Nat}(hWs:W.heap.size=B):
 e4_ W B (B+1+1) (((W.alloc (.cells ((madeCells #[.int .i64 0] mn).setIfInBounds 0 (.int .i64 1)) 3)).alloc (.cells #[.int .i64 0] 3)).alloc (.cells #[.slice none 0 0,.slice none 0 0] 41)) n mn [0] (.slice (some ⟨B+1,0,none⟩) 1 1) (.slice none 0 0) (.slice none 0 0) 0 0 A R C X:=by
 subst hWs;refine⟨(ξ.alloc i_ _).alloc s_ _,⟨_,φ (φ (ο rfl)),by simp[size_madeCells],fun i hi=> ?_⟩, ?_,ak_.start μ (ο i_),fun i hi=>absurd hi o_,o_⟩
 . by_cases e:i=0
   . subst e;rw[Array.getElem?_setIfInBounds_self_of_lt (by simpa [size_madeCells] using hi)];simp[atv,cv]
   . rw[Array.getElem?_setIfInBounds_ne o_];simp[atv,cv,madeCells,hi,mod_one,e]
 . have h:=World.ownsRow_lit (base:=W.heap.size+1) (e:=3) (size:=1) (W.alloc (.cells ((madeCells #[.int .i64 0] mn).setIfInBounds 0 (.int .i64 1)) 3)) #[.int .i64 0] 1 i_ d_ rfl;have a:=h.alloc (.cells #[.slice none 0 0,.slice none 0 0] 41);simpa [du_,cv] using a
theorem yk_:yh_:=by
 intro V U M N B w hM I hV hU a9 bb;have l1:=hM.lo;have l2:=hM.hi;have l3:=I.lo;have l4:=I.hi;obtain⟨i3,aB,aG,aH,aI⟩:=info_parts e9_;obtain⟨i4,bc,bo,bp,bq⟩:=info_parts hc_;obtain⟨iR,bd,br,bs,bt⟩:=info_parts mn_;have bg:M.n*N.n<=1600:=by have:=Nat.mul_le_mul l2 l4;omega
 have bh:1<=M.n*N.n:=Nat.mul_pos l1 l3;obtain⟨mn,ak⟩:=δ (M.n*N.n);rw[ak.out]at bg bh;have bz:(M.n:Int)*(N.n:Int)=(mn:Int):=by rw[<-ak.out];simp
 have bv:=run_make_row' (P:=prog) 24 3 (.int .i64 0) 8 underlying24 e9_ rfl .i64 .i64 mn o_ o_;have bf:(madeCells #[.int .i64 0] mn)[0]? =some (.int .i64 0):=by
  have h:=h5_ (w:=w.alloc (.cells (madeCells #[.int .i64 0] mn) 3)) (ο rfl);have:=h.cell (i:=0) o_;simpa using this
 obtain⟨W,hW,BW,b0,b1,b2⟩:=fe_ w #[.slice (some ⟨V.ba,V.oa,none⟩) M.n V.ca,.slice (some ⟨V.bn,V.on,none⟩) M.n V.cn] 41 #[.slice (some ⟨U.ba,U.oa,none⟩) N.n U.ca,.slice (some ⟨U.bn,U.on,none⟩) N.n U.cn] 41 #[.slice none 0 0,.slice none 0 0] 41;have a7:W.heap.size=w.heap.size+1+1+1:=by rw[hW];simp
 go_enter func82,ntmps82;have P0:=e4_.start (W:=W) (n:=N.n) (mn:=mn) (A:=(be_ M N B [0]).acc) (R:=fun _=>0) (C:=fun _=>0) (X:=pn (Ν M N) [0]) a7;have a8:fw_ M N 0:=⟨o_,o_⟩;go_wp2_with fail;rw[<-hW];clear hW bv bf;go_loopw [9,11,12,13,14,15,16,17] (fun vp k' _ _ _ _ _ _ wr=>∃(k:Nat) (f:List Nat) (va Q:Value) (R C:Nat->Nat),k<=f.length/\k'= .int .i64 k/\e4_ W (w.heap.size+1+1+1) (w.heap.size+1+1+1+1+1) wr N.n mn f vp va Q k k (be_ M N B f).acc R C (pn (Ν M N) f)/\Κ (fw_ M N) (Ν M N) f (8*k))
  (fun _ k' _ _ _ _ _ _ _=>1600 - (intOf k').toNat)
 case atStart=>exact⟨0,[0],_,_,_,_,i_,rfl,P0,Κ.start a8⟩
 case round=>
  obtain⟨k,f,va,Q,R,C,hk,rfl,m,s⟩:=hrel;clear P0;have ao:=s.bound I;rw[ak.out]at ao;have aU:=s.len;have E:=η BW m.cz;obtain⟨x0,x1,_,_⟩:=β ((m.cz.block _ o_).trans b0);obtain⟨x2,x3,_,_⟩:=β ((m.cz.block _ o_).trans b1);obtain⟨y0,y1,z0,z1⟩:=β m.bm.two.cg;obtain⟨ap,cp,rfl,ad⟩:=Β m.own;obtain⟨gp,rfl,ai⟩:=ad o_;have aX:=m.cQ;by_cases O:k<f.length
  . have aj:=s.inr _ (fj_ f k O);have c0:=(ld_ i_ ai) k O;simp only at c0;rw[show(f.map (cv N.n)).getD k 0=cv N.n (f.getD k 0)by simp[gd_,O]]at c0;obtain⟨q,K⟩:=δ (f.getD k 0);simp only[K.out]at c0;rw[K.out]at aj;have aD:=sc_ (n:=N.n) (q:=q) aj.2;have aE:=sd_ (n:=N.n) (q:=q) aj.2;obtain⟨cq,a2⟩:=δ (cv N.n q);rw[a2.out]at c0 aD aE;obtain⟨i,Hi⟩:=δ (q/40);obtain⟨j,Hj⟩:=δ (q%40);rw[Hi.out]at aD;rw[Hj.out]at aE;have aq:i<M.n:=by rw[<-Hi.out];exact aj.1
    have au:j<N.n:=by rw[<-Hj.out];exact aj.2
    have d1:Int.tdiv (cq:Int) (N.n:Int)=(i:Int):=by rw[<-aD];exact(Int.ofNat_tdiv _ _).symm
    have d2:Int.tmod (cq:Int) (N.n:Int)=(j:Int):=by rw[<-aE];exact(Int.ofNat_tmod _ _).symm
    have a0:=(hV.below E).acc i aq;have a1:=(hU.below E).acc j au;have HP:Hid _:=m;have t:Hid _:=s;clear m s ad ai;go_wp2_with fail;go_quiet ((go_at_call 125;exact Calls.quiet_of_same (afi_ _ _ _ _ a9 bb)));obtain⟨W3,az⟩:=af_ (wr.drewN nq);rw[<-az];have bj:Bl wr W3:=by rw[az];exact below_drewN μ nq
    have an:=HP.out.below bj;clear az x0 x1 x2 x3 y0 y1 z0 z1 c0 d1 d2 a0 a1 HP E;obtain⟨jb,aJ⟩:=δ (fa_ B (M.acc i) (N.acc j));rw[aJ.out];have aZ:Hid ((be_ M N B f).acc k=jb):=by
     unfold Hid be_;simp only;rw[K.out,Hi.out,Hj.out];exact aJ.out
    obtain⟨y0,y1,z0,z1⟩:=β an.bm.two.cg;have am:Hid (e4_ W (w.heap.size+1+1+1) (w.heap.size+1+1+1+1+1) (W3.alloc (.cells #[.bool jb] 4)) N.n mn f (.slice (some ⟨gp,0,none⟩) f.length cp) va Q k k (be_ M N B f).acc R C (pn (Ν M N) f)):=an.below ξ;have H:=am.out.bm.two.cB;have bl:=an.cQ;clear an;go_wp2_with (at_builtin;refine Υ underlying38 bc bo bp bq H ?_;intro g2 ah D z p y;obtain⟨aM,aN,aO,aP⟩:=β (am.out.bm.two.cM p);have HO:Hid _:=z;have T:Hid _:=p;have S:Hid _:=y;clear z p y);have hA:=am.out.acc (by rw[aZ.out];exact HO.out) T.out S.out;have R0:=hA.dW;clear hA am HO T S H aM aN aO aP y0 y1 z0 z1 bl;generalize (Value.slice (some ⟨g2,0,none⟩) (k+1) ah)=va' at R0 ⊢;generalize D.setCell ⟨(w.heap.size+1+1+1+1+1),0,none⟩ va'=W4 at R0 ⊢;clear aj;go_loopw [9,15,16,17] (fun vp vr c' _ wr=>∃(c:Nat) (b:List Nat),c<=8/\c'= .int .i64 c/\k<b.length/\Hid (b.getD k 0=q)/\Κ (fw_ M N) (Ν M N) b (8*k+c)/\er_ W (w.heap.size+1+1+1) (w.heap.size+1+1+1+1+1) wr N.n mn b vp va' Q vr (k+1) k c (be_ M N B b).acc R C (pn (Ν M N) b))
     (fun _ _ c' _ _=>8 - (intOf c').toNat)
    case atStart=>exact⟨0,f,o_,rfl,O,K,t.out,R0⟩
    case round=>
     clear R0 t K O ao aU aX;obtain⟨c,b,hc,rfl,O,K,s,m⟩:=hrel;have ao:=s.bound I;rw[ak.out]at ao;have aU:=s.len;have al:=m.mem.cz;have E:=η BW al;obtain⟨x0,x1,_,_⟩:=β ((al.block _ o_).trans b0);obtain⟨x2,x3,_,_⟩:=β ((al.block _ o_).trans b1);obtain⟨ap,cp,rfl,ad⟩:=Β m.mem.own;obtain⟨gq,rfl,ai⟩:=ad o_;have aX:=m.mem.cQ;by_cases av:c<8
     . have y0:=(hV.below E).row i aq;have y1:=(hV.below E).cT i c aq av;have y2:=(hU.below E).row j au;have y3:=(hU.below E).cT j c au av;have n1:=hM.nx i c aq av;have n2:=I.nx j c au av;obtain⟨l,H1⟩:=δ (M.b7 i c);obtain⟨o,H2⟩:=δ (N.b7 j c);rw[H1.out]at y1 n1;rw[H2.out]at y3 n2;have o2:o<40:=o_;have aA:fw_ M N (l*40+o):=⟨o_,o_⟩;have a4:=α aA;have ag:Hid (Ν M N (b.getD ((8*k+c)/8) 0) ((8*k+c)%8)=l*40+o):=by
        unfold Hid Ν;rw[show(8*k+c)/8=k by omega,show(8*k+c)%8=c by omega,K.out,Hi.out,Hj.out,H1.out,H2.out]
       have af:=ah0_ aA;rw[ak.out]at af;have aC:=ah6_ (n:=N.n) (a:=l) o2;have bx:l*N.n<=1600:=by have:=Nat.mul_le_mul (show l<=40 by omega) l4;omega
       obtain⟨r,J⟩:=δ (cv N.n (l*40+o));rw[J.out]at af aC;have e1:(l:Int)*(N.n:Int)=((l*N.n:Nat):Int):=i_;have e2:((l*N.n:Nat):Int)+(o:Int)=(r:Int):=by rw[aC];simp
       generalize l*N.n=on at*;clear aC;have t0:=m.mem.tab.cell (i:=r) af;have ab:∀q∈b,q%40<N.n:=fun q F=>(s.inr q F).2
       have HP:=α m;have t:=α s;clear m s ad ai al E aA;by_cases aa:l*40+o∈b
       . have ae:=sf_ ab aa;have be:=ix_ aa;rw[J.out]at ae;rw[ae]at t0;obtain⟨ix,HX⟩:=δ (b.idxOf (l*40+o));rw[HX.out]at t0 be;have bi:Hid (pn (Ν M N) b k c=ix):=by
          have:=ag.out;rw[show(8*k+c)/8=k by omega,show(8*k+c)%8=c by omega]at this;unfold Hid pn;rw[this];exact HX.out
         have Y:=α aa;clear aa ae ab;go_wp2_with fail;go_quiet (fail);obtain⟨W5,ac⟩:=af_ (wr.drewN nq);rw[<-ac];have aF:Bl wr W5:=by rw[ac];exact below_drewN μ nq
         have L:=HP.out.below aF;clear ac x0 x1 x2 x3 y0 y1 y2 y3 t0 HP;have t0:=L.mem.tab.cell (i:=r) af;have ab:∀q∈b,q%40<N.n:=fun q F=>(t.out.inr q F).2
         rw[show atv N.n b r=ix+1 by rw[<-J.out,sf_ ab Y.out,HX.out]]at t0;have G:Hid (er_ W (w.heap.size+1+1+1) (w.heap.size+1+1+1+1+1) (W5.alloc (.cells #[.int .i64 (ix:Int)] 3)) N.n mn b (.slice (some ⟨gq,0,none⟩) b.length cp) va' Q u15 (k+1) k c (be_ M N B b).acc R C (pn (Ν M N) b)):=L.below ξ;have H:=G.out.row;have bk:=L.mem.cQ;have bu:((ix+1:Nat):Int)- 1=(ix:Int):=o_;clear L ab;go_wp2_with (at_builtin;refine Υ underlying24 aB aG aH aI H ?_;intro g2 ah D z p y;have HO:Hid _:=z;have T:Hid _:=p;have S:Hid _:=y;clear z p y);go_roundw
         case rel=>
          have ho:=HO.out;rw[<-bi.out]at ho;exact⟨c+1,b,o_,by go_num,O,K,t.out.old o_ (by rw[ag.out];exact Y.out),G.out.put ho T.out S.out⟩
         case measure=>exact c_
       . have ae:=sg_ ab (by omega:(l*40+o)%40<N.n) aa;rw[J.out]at ae;rw[ae]at t0;have aK:Hid (cv N.n (l*40+o)∉b.map (cv N.n)):=fun h'=>aa ((se_ ab o_).1 h')
         have Y:=α aa;clear aa ae ab;go_wp2_with fail;go_quiet (fail);obtain⟨W5,ac⟩:=af_ (wr.drewN nq);rw[<-ac];have aF:Bl wr W5:=by rw[ac];exact below_drewN μ nq
         have L:=HP.out.below aF;have aY:=L.mem.tab.cell (i:=r) af;rw[show atv N.n b r=0 by rw[<-J.out,sg_ (fun q F=>(t.out.inr q F).2) o_ Y.out]]at aY;have bk:=L.mem.cQ;clear ac x0 x1 x2 x3 y0 y1 y2 y3 t0 HP;have G:Hid (er_ W (w.heap.size+1+1+1) (w.heap.size+1+1+1+1+1) (W5.alloc (.cells #[.int .i64 (r:Int)] 3)) N.n mn b (.slice (some ⟨gq,0,none⟩) b.length cp) va' Q u15 (k+1) k c (be_ M N B b).acc R C (pn (Ν M N) b)):=L.below ξ;have H:=G.out.mem.own;have aT:Hid (∀g ay D,D.ownsRow ((w.heap.size+1+1+1)+1) 3 1 (.slice (some ⟨g,0,none⟩) (b.length+1) ay) (b.length+1) (du_ (b.map (cv N.n))++ [.int .i64 (r:Int)])->
          (W5.alloc (.cells #[.int .i64 (r:Int)] 3)).grownBy D (Value.slice (some ⟨gq,0,none⟩) b.length cp).ownBlock->((Value.slice (some ⟨gq,0,none⟩) b.length cp).ownBlock=some g\/g=(W5.alloc (.cells #[.int .i64 (r:Int)] 3)).heap.size)->
          D.cell? ⟨(w.heap.size+1+1+1),r,none⟩=some (.int .i64 0)/\D.frozen? ⟨(w.heap.size+1+1+1),r,none⟩=false/\
          Hid (er_ W (w.heap.size+1+1+1) (w.heap.size+1+1+1+1+1) (D.setCell ⟨(w.heap.size+1+1+1),r,none⟩ (.int .i64 ((b.length:Int)+1))) N.n mn (b++ [l*40+o]) (.slice (some ⟨g,0,none⟩) (b.length+1) ay) va' Q u15 (k+1) k c (be_ M N B b).acc R C (pn (Ν M N) b))):=by
          intro g ay D ho hg hf;have ht:=hq_ G.out.mem.tab hg (fun e=>by have:=(G.out.mem.own.lt _ e).1;omega);have aW:=ho;rw[<-J.out]at aW;have hp:=G.out.pair aK.out aW hg hf;rw[J.out]at hp;refine⟨?_,ht.frozen _, ?_⟩
          . rw[ht.cell af,<-J.out,sg_ (fun q F=>(t.out.inr q F).2) o_ Y.out];rfl
          . rw[show((b.length+1:Nat):Int)=(b.length:Int)+1 by simp]at hp;exact hp
         clear L;go_upto_region 21 with (at_builtin;refine Υ underlying24 aB aG aH aI H ?_;intro g2 ah D z p y;obtain⟨f0,f1,HN⟩:=aT.out g2 ah D z p y;clear z p y);clear aT G H aY f0 f1 aK;obtain⟨W6,aR⟩:=af_ (D.setCell ⟨(w.heap.size+1+1+1),r,none⟩ (.int .i64 ((b.length:Int)+1)));rw[<-aR]at HN ⊢;clear aR;have aV:Ν M N (b.getD ((8*k+c)/8) 0) ((8*k+c)%8)∉b:=by rw[ag.out];exact Y.out
         have aw:=t.out.new o_ aV (by rw[ag.out];exact a4.out);rw[ag.out]at aw;have a5:Hid (pn (Ν M N) (b++ [l*40+o]) k c=b.length):=by
          have:=ag.out;rw[show(8*k+c)/8=k by omega,show(8*k+c)%8=c by omega]at this;unfold Hid;simp only[pn];rw[b8_ _ _ _ O,this,idxOf_append,if_neg Y.out];simp
         have I:=HN.out.congr (A':=(be_ M N B (b++ [l*40+o])).acc) (X':=pn (Ν M N) (b++ [l*40+o])) (fun x hx=>by
          simp only[be_];rw[b8_ _ _ _ o_]) (fun x d hx hd=>(h7_ t.out x d hd o_).symm) (fun d hd=>(h7_ t.out k d o_ o_).symm)
         have a6:Hid _:=aw;have t0:=I.mem.tab.cell (i:=r) af;rw[show atv N.n (b++ [l*40+o]) r=b.length+1 by
          rw[<-J.out,sf_ (fun q F=>(aw.inr q F).2) i_,idxOf_append,if_neg Y.out];simp]at t0
         have bA:=I.mem.cQ;have G:Hid (er_ W (w.heap.size+1+1+1) (w.heap.size+1+1+1+1+1) (W6.alloc (.cells #[.int .i64 (b.length:Int)] 3)) N.n mn (b++ [l*40+o]) (.slice (some ⟨g2,0,none⟩) (b.length+1) ah) va' Q u15 (k+1) k c (be_ M N B (b++ [l*40+o])).acc R C (pn (Ν M N) (b++ [l*40+o]))):=I.below ξ;have H:=G.out.row;have bu:((b.length+1:Nat):Int)- 1=(b.length:Int):=o_;clear I HN aw aV;go_wp2_with (at_builtin;refine Υ underlying24 aB aG aH aI H ?_;intro g3 bw w3 z p y;have HO:Hid _:=z;have T:Hid _:=p;have S:Hid _:=y;clear z p y);go_roundw
         case rel=>
          have ho:=HO.out;rw[<-a5.out]at ho;refine⟨c+1,(b++ [l*40+o]),o_,by go_num,s_,by unfold Hid;rw[b8_ _ _ _ O];exact K.out,a6.out, ?_⟩;simpa using G.out.put ho T.out S.out
         case measure=>exact c_
     . have he:c=8:=o_;subst he;obtain⟨ar,aL,rfl,aS⟩:=Β m.row;obtain⟨gr,rfl,_⟩:=aS o_;obtain⟨y0,y1,_,_⟩:=β m.mem.bm.two.cg;have ax:Hid (er_ W (w.heap.size+1+1+1) (w.heap.size+1+1+1+1+1) (wr.alloc (.cells #[.slice (some ⟨gr,0,none⟩) 8 aL] 24)) N.n mn b (.slice (some ⟨gq,0,none⟩) b.length cp) va' Q (.slice (some ⟨gr,0,none⟩) 8 aL) (k+1) k 8 (be_ M N B b).acc R C (pn (Ν M N) b)):=m.below ξ;have H:=ax.out.mem.bm.two.cA;have t:=α s;clear m s ad ai aS E al x0 x1 x2 x3;go_wp2_with (at_builtin;refine Υ underlying39 bd br bs bt H ?_;intro g2 ah D z p y;obtain⟨aM,aN,aO,aP⟩:=β (ax.out.mem.bm.two.cN p);have HO:Hid _:=z;have T:Hid _:=p;have S:Hid _:=y;clear z p y);go_roundw
       case rel=>
        exact⟨k+1,b,_,_,_,_,o_,by go_num,ax.out.done HO.out T.out S.out,by rw[show 8*(k+1)=8*k+8 by omega];exact t.out⟩
       case measure=>exact c_
  . have he:k=f.length:=o_;subst he;obtain⟨Z,rfl,rfl,hT,aQ⟩:=m.bm.done (N:=be_ M N B f) o_ rfl (fun i hi=>rfl) (fun i c hi hc=>rfl);have F:wr.heap[w.heap.size+1+1]? =some (.cells #[.slice none 0 0,.slice none 0 0] 41 (0,0)):=(m.cz.block _ o_).trans b2;obtain⟨q0,q1,p0,p1⟩:=β F;have HT:=α hT;have HB:Hid _:=E;have t:Hid _:=s;have a3:=α aQ;clear m hT s ad ai aQ E x0 x1 x2 x3;go_wp2_with fail;obtain⟨r1,r2,r3⟩:=Φ (u:= .slice (some ⟨Z.ba,Z.oa,none⟩) f.length Z.ca) (v:= .slice (some ⟨Z.bn,Z.on,none⟩) f.length Z.cn) F;refine bodyPost_ret (v:= .agg #[.slice (some ⟨Z.ba,Z.oa,none⟩) f.length Z.ca,.slice (some ⟨Z.bn,Z.on,none⟩) f.length Z.cn]) (by simp[results,results82,go_sem,r2,r3]) rfl ?_;exact⟨av_ HB.out o_ _ _,f,Z,t.out,rfl,HT.out.res a3.out o_ _ _⟩
end Go.Proofs.YtpngikmcjkjdaaaGreatDoor
