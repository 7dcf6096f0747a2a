import Derived.Test.YtpngikmcjkjdaaaGreatDoorA19
set_option linter.unusedVariables false
set_option linter.unusedSimpArgs false
set_option maxRecDepth 20000
set_option maxHeartbeats 80000000
namespace Go.Proofs.YtpngikmcjkjdaaaGreatDoor
open Go.RowKit Tryz List Nat
variable {s y:ByteArray} {l:List Nat} {B base c cap g i j k n:Nat} {S S':Nat->Bool} {ao:Option Addr} {w:World}
def id_ (l:List (ByteArray×ByteArray)):List Value:=l.flatMap fun x=> [.string x.1,.string x.2]
theorem adu_ (l:List (ByteArray×ByteArray))(x y:ByteArray):id_ l++ [.string x,.string y]=id_ (l++ [(x,y)]):=by simp[id_]
theorem adv_ (l:List (ByteArray×ByteArray))(k:Nat)(x:ByteArray×ByteArray)(h:l[k]? =some x):(id_ l)[k*2]? =some (.string x.1)/\(id_ l)[k*2+1]? =some (.string x.2):=by
 induction l generalizing k with
 |nil=>simp at h
 |cons q ps ih=>
  cases k with
  |zero=>simp at h;subst h;simp[id_]
  |succ k=>
   have:=ih k (by simpa using h);rw[show(k+1)*2=k*2+1+1 by omega];simpa [id_] using this
theorem adw_:(prog.info? 143).map (fun i=>(i.zero,i.size,i.bytes))=some (some (.agg #[.string ByteArray.empty,.string ByteArray.empty]),2,32):=k_
theorem o3_ {pre post:List Nat}(h:txt s=pre++l++post):sub s pre.length (pre.length+l.length)=l/\pre.length+l.length<=s.size:=by
 have a:s.size=pre.length+l.length+post.length:=by rw[<-bm_,h];simp only[Μ]
 refine⟨?_,o_⟩;unfold sub;rw[h,take_append_of_le_length i_,tk_ i_,drop_append_of_le_length o_,drop_of_length_le ι,nil_append]
def adx_ (its:List Η)(w:World)(e:Ending)(w':World):Prop:=
 ∃(v:Value) (Ps:List (ByteArray×ByteArray)),e= .returned v/\Ps.map (fun x=>(txt x.1,txt x.2))=its.map (fun i=>(i.la,i.m.text))/\w'.ownsRow w.heap.size 143 2 v Ps.length (id_ Ps)/\Bl w w'
theorem rf_ {its:List Η}(hits:∀i∈its,dq_ k i.la i.q/\i.m.ok)(ht:txt s=its.flatMap Η.text)(hj:j<its.length):
 ∃it,its[j]? =some it/\dq_ k it.la it.q/\it.m.ok/\sub s ((its.take j).flatMap Η.text).length (((its.take j).flatMap Η.text).length+it.la.length)=it.la/\sub s (((its.take j).flatMap Η.text).length+it.la.length) (((its.take j).flatMap Η.text).length+it.la.length+it.m.text.length)=it.m.text/\
  ((its.take j).flatMap Η.text).length+it.la.length+it.m.text.length<=s.size/\((its.take (j+1)).flatMap Η.text).length=((its.take j).flatMap Η.text).length+it.la.length+it.m.text.length/\1<=it.la.length/\
  (it.m= .none->((its.take j).flatMap Η.text).length+it.la.length<s.size->θ s (((its.take j).flatMap Η.text).length+it.la.length)≠42/\θ s (((its.take j).flatMap Η.text).length+it.la.length)≠43/\θ s (((its.take j).flatMap Η.text).length+it.la.length)≠63/\θ s (((its.take j).flatMap Η.text).length+it.la.length)≠123):=by
 have v:its[j]∈its:=getElem_mem hj;obtain⟨h,w⟩:=hits _ v;have x:its=its.take j++its[j]::its.drop (j+1):=by rw[getElem_cons_drop,take_append_drop]
 have b:txt s=(its.take j).flatMap Η.text++its[j].la++(its[j].m.text++(its.drop (j+1)).flatMap Η.text):=by
  rw[ht];conv=>lhs;rw[x]
  rw[flatMap_append,flatMap_cons];simp[Η.text]
 obtain⟨o,E⟩:=o3_ b;obtain⟨f,g⟩:=o3_ (s:=s) (pre:=(its.take j).flatMap Η.text++its[j].la) (l:=its[j].m.text) (post:=(its.drop (j+1)).flatMap Η.text) (by rw[b];simp);rw[Μ]at f g;obtain⟨c,F,t,_⟩:=h.head;refine⟨its[j],by rw[ge_ hj],h,w,o,f,g, ?_,by rw[t];simp,fun hno hlt=> ?_⟩
 . rw[take_succ_eq_append_getElem hj,flatMap_append,Μ];simp only[flatMap_cons,flatMap_nil,append_nil,Η.text,Μ];omega
 . rw[hno]at b;simp only[Mk.text,nil_append]at b;have d:s.size=(txt s).length:=(bm_ s).symm;rw[b]at d;simp only[Μ]at d;cases hd:its.drop (j+1)with
   |nil=>rw[hd]at d;simp only[flatMap_nil,length_nil]at d;omega
   |cons y ys=>
    have z:y∈its:=mem_of_mem_drop (by rw[hd];simp);obtain⟨p,_⟩:=hits y z;obtain⟨n,G,u,A,B,C,D⟩:=p.head;rw[hd,flatMap_cons]at b;have r:θ s (((its.take j).flatMap Η.text).length+its[j].la.length)=n:=by
     have e:=m3_ (s:=s) (a:=((its.take j).flatMap Η.text).length+its[j].la.length) hlt;rw[b,getElem?_append_right (by rw[Μ];omega),Μ,Nat.sub_self,Η.text,u]at e;simp only[cons_append,getElem?_cons_zero,Δ]at e;exact e.symm
    rw[r];exact⟨A,B,C,D⟩
theorem vy_ (k:Nat)(s:ByteArray)(its:List Η)(w:World)(hs:s.size<=40)(hits:∀i∈its,dq_ k i.la i.q/\i.m.ok)(ht:txt s=its.flatMap Η.text):
 Calls prog 112 #[.string s] w (adx_ its w):=by
 obtain⟨i0,W,ab,ac,ad⟩:=info_parts adw_;have P:=fun j (H:j<its.length)=>rf_ hits ht H
 have O:Hid ((its.flatMap Η.text).length=s.size):=by unfold Hid;rw[<-ht,bm_]
 clear hits ht;go_enter func112,ntmps112;go_wp2_with fail;go_loopw [3,4,5,6] (fun l' i' _ _ wr=>∃(j i:Nat) (b:List (ByteArray×ByteArray)),j<=its.length/\i'= .int .i64 (i:Int)/\Hid (((its.take j).flatMap Η.text).length=i)/\Hid (b.map (fun x=>(txt x.1,txt x.2))=(its.take j).map (fun i=>(i.la,i.m.text)))/\j<=i/\b.length=j/\wr.ownsRow w.heap.size 143 2 l' b.length (id_ b)/\Bl w wr) (fun _ i' _ _ _=>100 - (intOf i').toNat)
 case atStart=>exact⟨0,0,[],o_,rfl,by simp[Hid],by simp[Hid],o_,rfl,a8_,μ⟩
 case round=>
  obtain⟨j,i,b,H,rfl,p,r,al,K,o,n⟩:=hrel;by_cases Y:j<its.length
  . obtain⟨g,ς,G,I,h,d,t,l,h5,B⟩:=P j Y;rw[p.out]at h d t l B;have ak:(i:Int)<(s.size:Int):=o_;have F:=adr_ s i k g.la g.q wr hs G h o_;have y:=adt_ s (i+g.la.length) g.m wr hs I d t B;obtain⟨a,z⟩:=δ (i+g.la.length);rw[z.out]at F y h d t l;obtain⟨c,A⟩:=δ (a+g.m.text.length);rw[A.out]at y d t l;have am:i<a:=by rw[<-z.out];omega
    have an:a<=c:=by rw[<-A.out];omega
    have D:=lp_ s i a;have E:=lp_ s a c;rw[h]at D;rw[d]at E;have Q:Hid ((b++ [(s.extract i a,s.extract a c)]).map (fun x=>(txt x.1,txt x.2))=(its.take (j+1)).map (fun i=>(i.la,i.m.text))):=by
     unfold Hid;rw[map_append,r.out,take_add_one,map_append,ς];simp[D,E]
    have M:=α l;have ao:a<=s.size:=o_;have ah:(i:Int)<=(a:Int):=o_;have ai:(a:Int)<=(c:Int):=o_;have aj:(c:Int)<=(s.size:Int):=o_;have ap:=n.size;clear ς G I h d l B D E r p z A;obtain⟨e1,ae⟩:=δ (s.extract i a);obtain⟨e2,af⟩:=δ (s.extract a c);have aa:=o.alloc (.cells #[.string (s.extract i a),.string (s.extract a c)] 143);have v:=α n;have T:Hid (∀x,(u3:Value).ownBlock=some x->w.heap.size<=x):=fun x e=>(o.lt x e).1
    clear o n;go_wp2_with (first|(go_at_call 147;refine F.mono ?_;rintro e w' ⟨rfl,rfl⟩)|(go_at_call 148;refine y.mono ?_;rintro e w' ⟨rfl,rfl⟩));go_region_law
     ((refine step_append_lies _ (by rfl) _ _ _ (by rfl) w.heap.size 143 i0 (.agg #[.string ByteArray.empty,.string ByteArray.empty]) 2 32 underlying139 W ab ac ad rfl d_ u3 b.length (id_ b) (by rfl) aa ⟨wr.heap.size,0,none⟩ 1 1 [.string (s.extract i a),.string (s.extract a c)] (by rfl) (by rfl) (qe_ _ _ _) (by intro u L;simp at L;rcases L with rfl|rfl<;>rfl) d_ u_ o_ s_ (wr.heap.size+1) i_ ?_;intro g' ag w6 J f V Z;have S:=α J;have N:Hid (Bl w w6):=(v.out.alloc o_ _).grown ⟨f.os,f.tape,f.output,f.size,f.block⟩ s_ (fun x e=>T.out x e);clear V Z J f))
    all_goals
     go_wp2_with fail;go_roundw
     case rel=>
      have C:=S.out;rw[adu_]at C;exact⟨j+1,c,b++ [(s.extract i a,s.extract a c)],o_,rfl,M,Q,o_,s_,by rw[Μ];rw[K]at C ⊢;exact C,N.out⟩
     case measure=>exact c_
  . obtain rfl:j=its.length:=o_;have X:s.size=i:=by rw[<-O.out,<-p.out,tk_ ι]
    subst X;have hn:¬(s.size:Int)<(s.size:Int):=o_;have U:Hid (b.map (fun x=>(txt x.1,txt x.2))=its.map (fun i=>(i.la,i.m.text))):=by
     have:=r.out;rw[tk_ ι]at this;exact this
    have R:=α o;have v:=α n;clear r p o n K;go_wp2_with fail;go_ret;exact⟨_,b,rfl,U.out,R.out,v.out⟩
theorem ady_ (m:Mk)(hm:m.ok)(q:ζ):(m.app q).size<=q.size*10:=by
 cases m with
 |none=>show q.size<=_;omega
 |star=>show q.size*1<=_;omega
 |plus=>show q.size*2<=_;omega
 |opt=>show q.size*1<=_;omega
 |just n=>exact mul_le_mul_left _ (by have:n<=9:=hm;omega)
 |more n=>exact mul_le_mul_left _ (by have:n<=9:=hm;omega)
 |span n m=>exact mul_le_mul_left _ (by have:n<=m/\m<=9:=hm;omega)
def o4_ (A:List Nat->ζ->Prop)(B:Nat):Prop:=∀l p,A l p->p.size<=l.length*B
theorem adz_ {A:List Nat->ζ->Prop}(hA:o4_ A B){its:List Η}(h:∀i∈its,A i.la i.q/\i.m.ok):(its.map fun i=>i.pat.size).sum<=(its.flatMap Η.text).length*(B*10):=by
 induction its with
 |nil=>simp
 |cons i its ih=>
  have d:=ih (fun y hy=>h y (by simp[hy]));obtain⟨a,b⟩:=h i i_;have c:=hA _ _ a;have e:=ady_ i.m b i.q;simp only[map_cons,sum_cons,flatMap_cons,Μ,Nat.add_mul];have f:i.q.size*10<=i.la.length*(B*10):=by rw[<-Nat.mul_assoc];exact mul_le_mul_right _ c
  have g:i.la.length*(B*10)<=i.text.length*(B*10):=mul_le_mul_right _ (by simp[Η.text]);have j:i.pat.size=(i.m.app i.q).size:=rfl;omega
theorem hh_.size_le {A:List Nat->ζ->Prop}(hA:o4_ A B){p:ζ}(h:hh_ A l p):p.size<=l.length*(B*10):=by
 obtain⟨b,a,rfl,rfl⟩:=h;rw[q6_];simpa [ζ.size] using adz_ hA a
theorem gy_.size_le {A:List Nat->ζ->Prop}(hA:o4_ A B){p:ζ}(h:gy_ A l p):p.size<=l.length*(B*10):=by
 obtain⟨x,a,b,c,rfl,rfl⟩:=h;have d:=b.size_le hA;rw[va_,Μ,Nat.add_mul];have f:(a.map fun y=>y.2.size).sum<=(ee_ a).length*(B*10):=by
  clear b d;induction a with
  |nil=>simp
  |cons y a ih=>
   have g:=ih (fun z hz=>c z (by simp[hz]));have i:=(c y i_).size_le hA;have e:(ee_ (y::a)).length=1+y.1.length+(ee_ a).length:=by simp[ee_];omega
   rw[e,map_cons,sum_cons,Nat.add_mul,Nat.add_mul];omega
 omega
theorem vz_ (k:Nat):o4_ (dq_ k) (10^k):=by
 have a:∀l p,f9_ l p->p.size=1/\1<=l.length:=by
  intro l p h;rcases h with ⟨c,d,rfl,rfl⟩|⟨rfl,rfl⟩|⟨f,_,b,⟨rfl,rfl⟩|⟨rfl,rfl⟩⟩
  . exact⟨rfl,i_⟩
  . exact⟨rfl,i_⟩
  . exact⟨rfl,i_⟩
  . exact⟨rfl,i_⟩
 induction k with
 |zero=>intro l p h;have:=a l p h;rw[this.1];simp;omega
 |succ k ih=>
  intro l p h;rcases h with h|⟨e,rfl,h⟩
  . have:=a l p h;rw[this.1];have:1<=10^(k+1):=Nat.pow_pos o_;exact Nat.le_trans o_ (Nat.mul_le_mul (show 1<=l.length by omega) this)
  . have:=h.size_le ih;rw[Nat.pow_succ];exact Nat.le_trans this (mul_le_mul_right _ s_)
theorem v0_ {p:ζ}(h:f9_ l p):p.size=1:=by
 rcases h with ⟨c,b,rfl,rfl⟩|⟨rfl,rfl⟩|⟨d,_,a,⟨rfl,rfl⟩|⟨rfl,rfl⟩⟩<;>rfl
theorem v1_ (hk:k<=6)(hn:n<=40):n*10^k<=40000000:=by
 have a:10^k<=10^6:=Nat.pow_le_pow_right o_ hk;have b:n*10^k<=40*10^6:=Nat.mul_le_mul hn a;omega
def rg_ (k:Nat):Prop:=∀(s:ByteArray) (p:ζ) (w:World),s.size<=40->gy_ (dq_ k) (txt s) p->Calls prog 71 #[.string s] w fun e w'=>e= .returned (.int .i64 (p.size:Int))/\Bl w w'
def rh_ (k:Nat):Prop:=∀(x y:ByteArray) (i:Η) (w:World),x.size<=40->dq_ k i.la i.q->i.m.ok->txt x=i.la->txt y=i.m.text->Calls prog 113 #[.agg #[.string x,.string y]] w fun e w'=>e= .returned (.int .i64 (i.pat.size:Int))/\Bl w w'
theorem o5_ {a b:Int}(ha:0<=a)(hb:0<=b)(ha2:a<=10)(hb2:b<=1000000000):wrap64 (a*b)=a*b:=by
 have c:a*b<=10*1000000000:=Int.mul_le_mul ha2 hb2 hb o_;have d:0<=a*b:=Int.mul_nonneg ha hb;unfold wrap64;omega
theorem v2_ (m:Mk)(hm:m.ok)(q:ζ):(∃h:Nat,m.hi=(h:Int)/\h<=9/\(m.app q).size=h*q.size)\/(m= .star/\(m.app q).size=q.size)\/(m.hi= -1/\m≠ .star/\m.lo<=9/\(m.app q).size=(m.lo+1)*q.size):=by
 cases m with
 |none=>exact .inl ⟨1,rfl,o_,by show q.size=_;omega⟩
 |star=>exact .inr (.inl ⟨rfl,by show q.size*1=_;omega⟩)
 |plus=>exact .inr (.inr ⟨rfl,i_,by show 1<=9;omega,by show q.size*2=(1+1)*q.size;omega⟩)
 |opt=>exact .inl ⟨1,rfl,o_,by show q.size*1=_;omega⟩
 |just n=>exact .inl ⟨n,rfl,hm,by show q.size*n=_;exact Nat.mul_comm _ _⟩
 |more n=>exact .inr (.inr ⟨rfl,i_,hm,by show q.size*(n+1)=(n+1)*q.size;exact Nat.mul_comm _ _⟩)
 |span n m=>exact .inl ⟨m,rfl,hm.2,by show q.size*m=_;exact Nat.mul_comm _ _⟩
def Mk.isStar:Mk->Bool
 | .star=>true
 |_=>false
theorem v3_ {m:Mk}(h:m≠ .star):m.isStar=false:=by cases m<;>first|rfl|exact absurd rfl h
theorem ad0_ {m:Mk}(h:txt y=m.text):(y.toList==[42])=m.isStar:=by
 have a:=re_ h;cases m<;>simp only[Mk.text,List.map]at a<;>rw[a]<;>rfl
structure ri_ (x:ByteArray)(n:Nat):Prop where
 pos:1<=x.size
 sz:n<=40000000
 way:(θ x 0≠40/\n=1)\/(θ x 0=40/\2<=x.size/\∀w,Calls prog 71 #[.string (x.extract 1 (x.size - 1))] w fun e w'=>e= .returned (.int .i64 (n:Int))/\Bl w w')
theorem rj_ (x y:ByteArray)(m:Mk)(n r:Nat)(w:World)(hx:x.size<=40)(hm:m.ok)(hy:txt y=m.text)(hn:ri_ x n)(hr:(∃h:Nat,m.hi=(h:Int)/\h<=9/\r=h*n)\/(m= .star/\r=n)\/(m.hi= -1/\m≠ .star/\m.lo<=9/\r=(m.lo+1)*n)):
 Calls prog 113 #[.agg #[.string x,.string y]] w fun e w'=>e= .returned (.int .i64 (r:Int))/\Bl w w':=by
 have o:=ad0_ hy;obtain⟨W,j,B,N,z⟩:=ν w #[.string x,.string y] 143;obtain⟨f,g,_,_⟩:=β z;have P:=hn.pos;have O:=hn.sz;have F:=cp_ (s:=x) (a:=0) o_;obtain⟨hi,t⟩:=δ (m.hi);obtain⟨lo,u⟩:=δ (m.lo);rw[t.out,u.out]at hr;rcases hn.way with ⟨E,rfl⟩|⟨E,Q,p⟩
 . have t40:((x[0].toNat:Int)==40)=false:=by rw[<-F];simp only[bq_,ne_eq];omega
   clear F E hn;rcases hr with ⟨h,rfl,J,rfl⟩|⟨rfl,rfl⟩|⟨rfl,C,K,rfl⟩
   . go_enter func113,ntmps113;go_upto_region 1 with fail;rw[<-j];clear j;have c:=k0_ _ y W hm hy;have i:Bl w W:=B;have d0:=z;rw[t.out,u.out]at c;clear o hm hy;go_wp2_with fail;refine c.mono ?_;clear c;rintro e l ⟨rfl,d⟩;have k:Bl w l:=i.trans (d.mono (by have:=i.size;have:=κ d0;omega));have f0:=(d.block _ (κ d0)).trans d0;clear f g;obtain⟨f,g,_,_⟩:=β f0;clear d;have A:=o5_ (a:=(h:Int)) (b:=(1:Int)) o_ o_ o_ o_;have I:(0:Int)<=(h:Int):=o_;go_wp2_with fail;go_ret;exact⟨hu_ (by first|(rw[A];simp)|simp),k⟩
   . go_enter func113,ntmps113;go_upto_region 1 with fail;rw[<-j];clear j;have c:=k0_ _ y W hm hy;have i:Bl w W:=B;have d0:=z;have v:=α o;simp only[show Mk.star.lo=0 from rfl,show Mk.star.hi= -1 from rfl,show((0:Nat):Int)=0 from rfl]at c;clear o hm hy t u;go_wp2_with fail;refine c.mono ?_;clear c;rintro e l ⟨rfl,d⟩;have k:Bl w l:=i.trans (d.mono (by have:=i.size;have:=κ d0;omega));have f0:=(d.block _ (κ d0)).trans d0;clear f g;obtain⟨f,g,_,_⟩:=β f0;clear d;have G:(y.toList==[42])=true:=v.out;go_wp2_with fail;go_ret;exact⟨rfl,k⟩
   . go_enter func113,ntmps113;go_upto_region 1 with fail;rw[<-j];clear j;have c:=k0_ _ y W hm hy;have i:Bl w W:=B;have d0:=z;have v:Hid ((y.toList==[42])=false):=by unfold Hid;rw[o];exact v3_ C
     rw[t.out,u.out]at c;clear o hm hy C;go_wp2_with fail;refine c.mono ?_;clear c;rintro e l ⟨rfl,d⟩;have k:Bl w l:=i.trans (d.mono (by have:=i.size;have:=κ d0;omega));have f0:=(d.block _ (κ d0)).trans d0;clear f g;obtain⟨f,g,_,_⟩:=β f0;clear d;have G:(y.toList==[42])=false:=v.out;have A:=o5_ (a:=(lo:Int)+1) (b:=(1:Int)) o_ o_ o_ o_;go_wp2_with fail;go_ret;exact⟨hu_ (by first|(rw[A];simp)|simp),k⟩
 . have t40:((x[0].toNat:Int)==40)=true:=by rw[<-F,E];rfl
   have p:=p W;have L:((x.size:Int)- 1)=((x.size - 1:Nat):Int):=o_;obtain⟨M,H⟩:=δ (x.size - 1);rw[H.out]at p L
   have R:M<=x.size:=by rw[<-H.out];omega
   clear F E hn;rcases hr with ⟨h,rfl,J,rfl⟩|⟨rfl,rfl⟩|⟨rfl,C,K,rfl⟩
   . go_enter func113,ntmps113;go_upto_region 1 with fail;rw[<-j];clear j;go_wp2_with fail;refine p.mono ?_;clear p;rintro e D ⟨rfl,q⟩;have i:=η B q;have d0:=(q.block _ o_).trans z;clear f g;obtain⟨f,g,_,_⟩:=β d0;have c:=k0_ _ y D hm hy;rw[t.out,u.out]at c;clear o hm hy;go_wp2_with fail;refine c.mono ?_;clear c;rintro e l ⟨rfl,d⟩;have k:Bl w l:=i.trans (d.mono (by have:=i.size;have:=κ d0;omega));have f0:=(d.block _ (κ d0)).trans d0;clear f g;obtain⟨f,g,_,_⟩:=β f0;clear d;have A:=o5_ (a:=(h:Int)) (b:=(n:Int)) o_ o_ o_ o_;have I:(0:Int)<=(h:Int):=o_;go_wp2_with fail;go_ret;exact⟨hu_ (by first|(rw[A];simp)|simp),k⟩
   . go_enter func113,ntmps113;go_upto_region 1 with fail;rw[<-j];clear j;go_wp2_with fail;refine p.mono ?_;clear p;rintro e D ⟨rfl,q⟩;have i:=η B q;have d0:=(q.block _ o_).trans z;clear f g;obtain⟨f,g,_,_⟩:=β d0;have c:=k0_ _ y D hm hy;have v:=α o;simp only[show Mk.star.lo=0 from rfl,show Mk.star.hi= -1 from rfl,show((0:Nat):Int)=0 from rfl]at c;clear o hm hy t u;go_wp2_with fail;refine c.mono ?_;clear c;rintro e l ⟨rfl,d⟩;have k:Bl w l:=i.trans (d.mono (by have:=i.size;have:=κ d0;omega));have f0:=(d.block _ (κ d0)).trans d0;clear f g;obtain⟨f,g,_,_⟩:=β f0;clear d;have G:(y.toList==[42])=true:=v.out;go_wp2_with fail;go_ret;exact⟨rfl,k⟩
   . go_enter func113,ntmps113;go_upto_region 1 with fail;rw[<-j];clear j;go_wp2_with fail;refine p.mono ?_;clear p;rintro e D ⟨rfl,q⟩;have i:=η B q;have d0:=(q.block _ o_).trans z;clear f g;obtain⟨f,g,_,_⟩:=β d0;have c:=k0_ _ y D hm hy;have v:Hid ((y.toList==[42])=false):=by unfold Hid;rw[o];exact v3_ C
     rw[t.out,u.out]at c;clear o hm hy C;go_wp2_with fail;refine c.mono ?_;clear c;rintro e l ⟨rfl,d⟩;have k:Bl w l:=i.trans (d.mono (by have:=i.size;have:=κ d0;omega));have f0:=(d.block _ (κ d0)).trans d0;clear f g;obtain⟨f,g,_,_⟩:=β f0;clear d;have G:(y.toList==[42])=false:=v.out;have A:=o5_ (a:=(lo:Int)+1) (b:=(n:Int)) o_ o_ o_ o_;go_wp2_with fail;go_ret;exact⟨hu_ (by first|(rw[A];simp)|simp),k⟩
theorem v4_ {p:ζ}(h:f9_ l p){x:ByteArray}(hx:txt x=l):ri_ x 1:=by
 have e:x.size=l.length:=by rw[<-bm_,hx]
 have b:∀c d,l=c::d->c≠40->ri_ x 1:=by
  intro c d a f;refine⟨by rw[e,a];simp,o_,.inl ⟨?_,rfl⟩⟩;have:=(g0_ hx (j:=0) (by rw[a];simp)).2;rw[this,a];exact f
 rcases h with ⟨c,a,rfl,_⟩|⟨rfl,_⟩|⟨i,_,g,⟨rfl,_⟩|⟨rfl,_⟩⟩
 . exact b _ _ rfl o_
 . exact b _ _ rfl o_
 . exact b _ _ rfl o_
 . exact b _ _ rfl o_
theorem ad1_:rh_ 0:=by
 intro x y i w f a b c d;have e:i.q.size=1:=v0_ a;refine rj_ x y i.m 1 i.pat.size w f b d (v4_ a c) ?_;have:=v2_ i.m b i.q;rw[e]at this;exact this
theorem ad2_ (k:Nat)(hk:k<6)(HS:rg_ k):rh_ (k+1):=by
 intro x y i w g b e a h;have f:=v2_ i.m e i.q;have p:=b;rcases b with b|⟨c,d,r⟩
 . have t:i.q.size=1:=v0_ b;rw[t]at f;exact rj_ x y i.m 1 i.pat.size w g e h (v4_ b a) f
 . have u:x.size=c.length+2:=by rw[<-bm_,a,d];simp
   have n:txt (x.extract 1 (x.size - 1))=c:=by
    rw[lp_];have:=(o3_ (s:=x) (pre:=[40]) (l:=c) (post:=[41]) (by rw[a,d];simp)).1;rw[u];simp only[ls_]at this;rw[show c.length+2 - 1=1+c.length by omega];exact this
   refine rj_ x y i.m i.q.size i.pat.size w g e h ⟨o_, ?_,.inr ⟨?_,o_,fun w=> ?_⟩⟩ f
   . have:=vz_ (k+1) _ _ p;have o:i.la.length<=40:=by rw[<-a,bm_];exact g
     have v:=v1_ (k:=k+1) o_ o;omega
   . have:=(g0_ a (j:=0) (by rw[d];simp)).2;rw[this,d];rfl
   . refine HS _ _ w ?_ (by rw[n];exact r);rw[<-bm_,n];omega
theorem v5_ (l:List Nat)(i:Nat)(h:i<l.length):(l.take (i+1)).sum=(l.take i).sum+l.getD i 0:=by
 rw[take_succ_eq_append_getElem h,sum_append,gd_,ge_ h];simp
theorem v6_ (l:List Nat)(i:Nat):(l.take i).sum<=l.sum:=by
 conv=>rhs;rw[<-take_append_drop i l]
 rw[sum_append];omega
structure rk_ (k:Nat)(s:ByteArray)(p:ζ)(x:List Nat×ζ)(xs:List (List Nat×ζ)):Prop where
 split:b5_ (txt s) 0 []=(x::xs).map (·.1)
 seq:∀y∈x::xs,hh_ (dq_ k) y.1 y.2
 len:∀y∈x::xs,y.1.length<=s.size
 pat:p=ht_ x.2 xs
theorem gy_.parts {p:ζ}(h:gy_ (dq_ k) (txt s) p):∃x xs,rk_ k s p x xs:=by
 obtain⟨x,xs,a,b,c,d⟩:=h;refine⟨x,xs,by rw[c];exact acv_ (u7_ k) a b,fun y hy=> ?_,fun y hy=> ?_,d⟩
 . rcases mc_.1 hy with rfl|hy
   . exact a
   . exact b y hy
 . rw[<-bm_,c,Μ];rcases mc_.1 hy with rfl|hy
   . omega
   . have:y.1.length<=(ee_ xs).length:=by
      clear a b c d;rename_i hy0;clear hy0;induction xs with
      |nil=>simp at hy
      |cons z xs ih=>
       have e:(ee_ (z::xs)).length=1+z.1.length+(ee_ xs).length:=by simp[ee_];omega
       rcases mc_.1 hy with rfl|hy
       . omega
       . have:=ih hy;omega
     omega
theorem rk_.one {p:ζ}{x:List Nat×ζ}{xs:List (List Nat×ζ)}(h:rk_ k s p x xs){Ls:List ByteArray}(hL:Ls.map txt=(x::xs).map (·.1))(hi:i<(x::xs).length):
 ∃(y:ByteArray) (its:List Η),Ls[i]? =some y/\y.size<=s.size/\txt y=its.flatMap Η.text/\(∀j∈its,dq_ k j.la j.q/\j.m.ok)/\((x::xs).getD i ([],.none)).2=bv_ .none its:=by
 have c:i<Ls.length:=by have:=congrArg List.length hL;simp only[length_map]at this;omega
 have a:(Ls.map txt)[i]? =((x::xs).map (·.1))[i]? :=by rw[hL]
 rw[getElem?_map,getElem?_map,ge_ c,ge_ hi]at a;simp only[Option.map_some,Δ]at a;have b:(x::xs)[i]∈x::xs:=getElem_mem hi;obtain⟨its,d,e,f⟩:=h.seq _ b;refine⟨Ls[i],its,by rw[ge_ c], ?_,by rw[a,e],d, ?_⟩
 . rw[<-bm_ Ls[i],a];exact h.len _ b
 . rw[gd_,ge_ hi];exact f
theorem rl_ {Ls:List ByteArray}(hown:w.ownsRow base 9 1 (.slice ao n cap) Ls.length (Ζ Ls))(hy:Ls[i]? =some y):∃g,ao=some ⟨g,0,none⟩/\n=Ls.length/\base<=g/\g<w.heap.size/\w.cell? ⟨g,i,none⟩=some (.string y):=by
 have f:i<Ls.length:=(gs_.1 hy).1;obtain⟨d,e,a,b⟩:=Β hown;simp only[Value.slice.injEq]at a;obtain⟨rfl,rfl,rfl⟩:=a;obtain⟨g,rfl,c⟩:=b o_;refine⟨g,rfl,rfl,(hown.lt g rfl).1,(hown.lt g rfl).2,(c i o_).trans ?_⟩;simp[Ζ,hy]
theorem v7_ {Ps:List (ByteArray×ByteArray)}(hown:w.ownsRow base 143 2 (.slice ao n cap) Ps.length (id_ Ps)){y:ByteArray×ByteArray}(hy:Ps[i]? =some y):∃g,ao=some ⟨g,0,none⟩/\n=Ps.length/\base<=g/\g<w.heap.size/\w.cell? ⟨g,i*2,none⟩=some (.string y.1)/\w.cell? ⟨g,i*2+1,none⟩=some (.string y.2):=by
 have j:i<Ps.length:=(gs_.1 hy).1;obtain⟨f,h,b,e⟩:=Β hown;simp only[Value.slice.injEq]at b;obtain⟨rfl,rfl,rfl⟩:=b;obtain⟨g,rfl,a⟩:=e o_;obtain⟨c,d⟩:=adv_ Ps i y hy;exact⟨g,rfl,rfl,(hown.lt g rfl).1,(hown.lt g rfl).2,(a (i*2) o_).trans c,(a (i*2+1) o_).trans d⟩
theorem v8_ {its:List Η}(h:∀j∈its,dq_ k j.la j.q/\j.m.ok):its.length<=(its.flatMap Η.text).length:=by
 induction its with
 |nil=>simp
 |cons i its ih=>
  have b:=ih (fun y hy=>h y (by simp[hy]));obtain⟨c,d,a,_⟩:=(h i i_).1.head;rw[flatMap_cons,Μ,length_cons];have:1<=i.text.length:=by unfold Η.text;rw[a];simp
  omega
theorem v9_ {its:List Η}{Ps:List (ByteArray×ByteArray)}(hP:Ps.map (fun x=>(txt x.1,txt x.2))=its.map (fun i=>(i.la,i.m.text)))(hj:j<its.length):∃(y:ByteArray×ByteArray) (it:Η),Ps[j]? =some y/\its[j]? =some it/\txt y.1=it.la/\txt y.2=it.m.text:=by
 have b:j<Ps.length:=by have:=congrArg List.length hP;simp only[length_map]at this;omega
 have a:(Ps.map (fun x=>(txt x.1,txt x.2)))[j]? =(its.map (fun i=>(i.la,i.m.text)))[j]? :=by rw[hP]
 rw[getElem?_map,getElem?_map,ge_ b,ge_ hj]at a;simp only[Option.map_some,Δ,Prod.mk.injEq]at a;exact⟨Ps[j],its[j],by rw[ge_ b],by rw[ge_ hj],a.1,a.2⟩
theorem wa_ (k:Nat)(hk:k<=6)(HO:rh_ k):rg_ k:=by
 intro s p w hs f;have aH:p.size<=400000000:=by
  have Q:=f.size_le (vz_ k);rw[bm_]at Q;have h2:s.size*(10^k*10)<=400000000:=by
   have:=v1_ hk hs;rw[<-Nat.mul_assoc];omega
  omega
 obtain⟨x,C,G⟩:=f.parts;obtain⟨zs,E⟩:∃zs:List Nat,Hid ((x::C).map (fun y=>y.2.size)=zs):=⟨_,rfl⟩;have ap:p.size=zs.sum:=by
  rw[G.pat,va_,<-E.out,map_cons,sum_cons]
 rw[ap]at aH ⊢;have aI:zs.length=(x::C).length:=by rw[<-E.out,length_map]
 have aC:Hid (∀i,i<(x::C).length->zs.getD i 0=((x::C).getD i ([],.none)).2.size):=by
  intro i hi;rw[<-E.out,gd_,gd_,getElem?_map,ge_ hi];rfl
 have c:=vt_ s w hs;unfold o2_ at c;rw[G.split]at c;have ay:=α G;obtain⟨B,D⟩:=δ ((x::C).length);rw[D.out]at aI;clear G f ap E;go_enter func71,ntmps71;go_wp2_with fail;refine c.mono ?_;clear c;rintro e w1 ⟨v,F,rfl,R,I,ad,aF⟩;obtain⟨ao,aD,rfl,_⟩:=Β I;have r:F.length=B:=by have:=congrArg List.length R;simp only[length_map]at this;rw[this];exact D.out
 rw[r]at I;have HL:=α R;have ax:Hid (w1.ownsRow w.heap.size 9 1 (.slice ao F.length aD) F.length (Ζ F)):=by unfold Hid;rw[r];exact I
 have aJ:=α r;have aS:B<=41:=o_;have aU:=ad.size;rw[r];clear R I r aF;go_wp2_with fail;go_loopw [3,5,6,7] (fun n' i' _ _ wr=>∃i:Nat,i<=B/\i'= .int .i64 (i:Int)/\n'= .int .i64 (((zs.take i).sum:Nat):Int)/\Bl w1 wr) (fun _ i' _ _ _=>100 - (intOf i').toNat)
 case atStart=>exact⟨0,o_,rfl,rfl,μ⟩
 case round=>
  obtain⟨i,hi,rfl,rfl,n⟩:=hrel;have aX:=n.size;by_cases ak:i<B
  . obtain⟨y,A,hy,aZ,J,t,an⟩:=ay.out.one HL.out (i:=i) (by rw[D.out];exact ak);obtain⟨g,rfl,_,aO,aG,hc⟩:=rl_ ax.out hy;have K:=aC.out i (by rw[D.out];exact ak);rw[an,q6_]at K;have d:=v5_ zs i o_;have W:=v6_ zs (i+1);obtain⟨S,N⟩:=δ ((zs.take i).sum);rw[N.out]at d;rw[N.out];have c0:wr.cell? ⟨g,i,none⟩=some (.string y):=(n.cell (p:=⟨g,i,none⟩) aG).trans hc;have c:=vy_ k y A wr o_ t J;obtain⟨b,P⟩:∃l:List Nat,Hid (A.map (fun i=>i.pat.size)=l):=⟨_,rfl⟩;rw[P.out]at K;have Y:b.length=A.length:=by rw[<-P.out,length_map]
    have ag:(zs.take (i+1)).sum=S+b.sum:=by rw[d,K];simp[ζ.size]
    have az:=α ag;have aY:S+b.sum<=400000000:=o_;have av:Hid (∀j (a:Η),A[j]? =some a->dq_ k a.la a.q/\a.m.ok/\b.getD j 0=a.pat.size/\a.la.length<=y.size):=by
     intro j a u;have hm:=mem_of_getElem? u;obtain⟨Q,h2⟩:=t a hm;refine⟨Q,h2,by rw[<-P.out,gd_,getElem?_map,u];rfl, ?_⟩;have:=rf_ t J (j:=j) (gs_.1 u).1;obtain⟨a0,U,_,_,_,_,h3,_⟩:=this;rw[u]at U;simp only[Δ]at U;subst U;omega
    have aQ:A.length<=y.size:=by have:=v8_ t;rw[<-J,bm_]at this;exact this
    clear hy J t an K d W ag N hc;go_wp2_with fail;refine c.mono ?_;clear c;rintro e w2 ⟨v2,Ps,rfl,f,V,ae⟩;obtain⟨aL,aM,rfl,_⟩:=Β V;have H:Ps.length=b.length:=by have:=congrArg List.length f;simp only[length_map]at this;omega
    have aw:=α V;have HP:=α f;obtain⟨L,M⟩:=δ (b.length);rw[M.out]at H Y;rw[H];have aE:=η n ae;have aV:=ae.size;have aT:L<=40:=o_;have aK:=α H;have aB:=α Y;clear f V c0 H Y;go_wp2_with fail;go_loopw [3,7] (fun n' j' wr=>∃j:Nat,j<=L/\j'= .int .i64 (j:Int)/\n'= .int .i64 ((S+(b.take j).sum:Nat):Int)/\Bl w2 wr) (fun _ j' _=>100 - (intOf j').toNat)
    case atStart=>exact⟨0,o_,rfl,i_,μ⟩
    case round=>
     obtain⟨j,u,rfl,rfl,h⟩:=hrel;have aW:=h.size;by_cases al:j<L
     . obtain⟨y2,a,au,ς,X,ar⟩:=v9_ HP.out (j:=j) (by rw[<-aB.out];exact al);obtain⟨g2,rfl,_,aP,aj,ah,ai⟩:=v7_ aw.out au;obtain⟨hA,am,aq,aR⟩:=av.out j a ς;have d:=v5_ b j (by rw[M.out];exact al);have W:=v6_ b (j+1);rw[aq]at d;have e1:=(h.cell (p:=⟨g2,j*2,none⟩) aj).trans ah;have e2:=(h.cell (p:=⟨g2,j*2+1,none⟩) aj).trans ai;have c:=HO y2.1 y2.2 a wr (by rw[<-bm_,X];omega) hA am X ar;obtain⟨iz,Z⟩:=δ (a.pat.size);rw[Z.out]at c d;obtain⟨T,O⟩:=δ ((b.take j).sum);rw[O.out]at d;rw[O.out];have aA:=α d;have aN:S+T+iz<=400000000:=o_;clear au ς hA am aq X ar d W ah ai O Z;go_wp2_with fail;refine c.mono ?_;clear c;rintro e w4 ⟨rfl,af⟩;have o:=η h af;clear e1 e2 af;go_wp2_with fail;go_roundw
       case rel=>exact⟨j+1,o_,by go_num,by rw[aA.out];go_num,o⟩
       case measure=>exact c_
     . obtain rfl:j=L:=o_;have aa:Hid ((b.take j).sum=b.sum):=by unfold Hid;rw[tk_ (by rw[M.out];omega)]
       rw[aa.out,<-az.out];have o:=η aE h;clear aa h;obtain⟨z,ac⟩:=δ ((zs.take (i+1)).sum);rw[ac.out];go_wp2_with fail;go_roundw
       case rel=>exact⟨i+1,o_,by go_num,by rw[ac.out],o⟩
       case measure=>exact c_
  . obtain rfl:i=B:=o_;have ab:Hid ((zs.take i).sum=zs.sum):=by unfold Hid;rw[tk_ o_]
    rw[ab.out];have o:=η ad n;clear n ab;go_wp2_with fail;go_ret;exact⟨rfl,o⟩
theorem o6_:∀k,k<=6->rg_ k
 |0,_=>wa_ 0 o_ ad1_
 |k+1,hk=>wa_ (k+1) hk (ad2_ k o_ (o6_ k o_))
theorem o7_ {t:Nat}{a b:Value}(h:w.heap[g]? =some (.cells (exC k S a b) t (0,0)))(hc:c<8)(v:Bool):(w.setCell ⟨g,1+c,none⟩ (.bool v)).heap[g]? =some (.cells (exC k (fun x=>if x=c then v else S x) a b) t (0,0)):=by
 rcases (show c=0\/c=1\/c=2\/c=3\/c=4\/c=5\/c=6\/c=7 by omega)with rfl|rfl|rfl|rfl|rfl|rfl|rfl|rfl<;>simp[World.setCell,Array.getElem?_modify,h,exC]
theorem ad3_ (a b:Value)(h:∀c,c<8->S c=S' c):exC k S a b=exC k S' a b:=by
 unfold exC;rw[h 0 o_,h 1 o_,h 2 o_,h 3 o_,h 4 o_,h 5 o_,h 6 o_,h 7 o_]
def e2_ (w:World)(g:Nat)(S:Nat->Bool):Prop:=w.heap[g]? =some (.cells (exC 1 S (.pointer none) (.pointer none)) 199 (0,0))
theorem e2_.congr (h:e2_ w g S)(e:∀c,c<8->S c=S' c):e2_ w g S':=by
 unfold e2_;rw[<-ad3_ _ _ e];exact h
theorem wb_ (a:ByteArray)(b:Nat)(w:World)(ha:txt a=[b])(hb:b=46\/(97<=b/\b<=104)):
 Calls prog 154 #[.string a] w (j5_ (.one (fun c=>decide (c<8)&&(b==46||b==97+c))) w):=by
 have y:=re_ ha;obtain⟨E,u⟩:=g0_ ha (j:=0) i_;have I:a.size=1:=by rw[<-bm_,ha];rfl
 have g:=cp_ E;rw[u]at g;simp only[getD_cons_zero]at g;have C:(a.toList==[46])=(b==46):=by
  rw[y];rcases hb with rfl|hb
  . rfl
  . have:(b==46)=false:=s_;rw[this];simp only[List.map];have D:UInt8.ofNat b≠46:=by
     intro e;have:=congrArg UInt8.toNat e;rw[UInt8.toNat_ofNat']at this;have F:(46:UInt8).toNat=46:=rfl;omega
    simp[D]
 obtain⟨W,f,A,-,-⟩:=ν w (exC 1 noS (.pointer none) (.pointer none)) 199;have t:e2_ W w.heap.size noS:=by rw[f];exact ο rfl
 unfold exC noS at f;simp only[show((1:Nat):Int)=1 from rfl]at f;have G:b<=104:=o_;clear y u ha;obtain⟨o,s⟩:=δ (b==46);rw[s.out]at C;go_enter func154,ntmps154;go_upto_region 2 with fail;rw[<-f];clear f;go_wp2_with fail;go_loopw [4] (fun c' wr=>∃c:Nat,c<=8/\c'= .int .i64 (c:Int)/\e2_ wr w.heap.size (fun x=>decide (x<c)&&(b==46||b==97+x))/\Bl w wr) (fun c' _=>8 - (intOf c').toNat)
 case atStart=>exact⟨0,o_,rfl,t.congr (fun c _=>by simp[noS]),A⟩
 case round=>
  obtain⟨c,H,rfl,d,h⟩:=hrel;clear t;by_cases z:c<8
  . obtain⟨L,M⟩:=lo_ d z;obtain⟨r,m⟩:=δ (97+c);have J:IntKind.i64.wrap (97+(c:Int))=(r:Int):=by rw[<-m.out,IntKind.wrap_i64];omega
    have K:IntKind.i64.wrap (a[0].toNat:Int)=(a[0].toNat:Int):=by rw[<-g,IntKind.wrap_i64];omega
    obtain⟨q,l⟩:=δ (b==r);have t1:((a[0].toNat:Int)==(r:Int))=q:=by
     rw[<-l.out,<-g,Bool.eq_iff_iff];simp;omega
    have n:=α d;have k:=α h;clear d h;have B:Hid (∀i:World,i=wr->∀v,v=(o||q)->e2_ (i.setCell ⟨w.heap.size,1+c,none⟩ (.bool v)) w.heap.size (fun x=>decide (x<c+1)&&(b==46||b==97+x))/\Bl w (i.setCell ⟨w.heap.size,1+c,none⟩ (.bool v))):=by
     intro i e v hv;subst e hv;refine⟨?_,k.out.setCell (p:=⟨w.heap.size,1+c,none⟩) ι _⟩;refine e2_.congr (o7_ n.out z (o||q)) (fun x _=> ?_);by_cases e:x=c
     . subst e;simp[s.out,<-l.out,<-m.out]
     . simp only[e,if_false];have:decide (x<c+1)=decide (x<c):=by rw[decide_eq_decide];omega
       rw[this]
    clear m l g;cases o
    all_goals
     go_wp2_with fail;go_region
     all_goals
      go_wp2_with fail;go_roundw
      case rel=>
       obtain⟨f1,f2⟩:=B.out wr rfl _ rfl;exact⟨c+1,o_,by go_num,f1,f2.drew⟩
      case measure=>exact c_
  . obtain rfl:c=8:=o_;have n:=α d;have k:=α h;clear d h;go_wp2_with fail;go_ret;exact⟨_,rfl,n.out,k.out⟩
def nb_ (c:Nat)(l:List Nat):Nat:=match l with
 |45::d::_=>d
 |_=>c
def ep_:List Nat->Nat->Bool
 | [],_=>false
 |c::l,x=>(σ c&&decide (c<=97+x)&&decide (97+x<=nb_ c l))||ep_ l x
def okL:List Nat->Prop
 | []=>True
 |c::l=>(σ c=true->(∃d r,l=45::d::r/\σ d=true)\/(∃e r,l=e::r/\e≠45))/\okL l
theorem rm_ {e:Nat}{r:List Nat}(h:e≠45):nb_ c (e::r)=c:=by
 unfold nb_;split
 . rename_i heq;simp at heq;exact absurd heq.1 h
 . rfl
theorem wc_ {ps:List Prt}(h:∀x∈ps,x.ok):∃e r,ps.flatMap Prt.text++ [93]=e::r/\e≠45:=by
 cases ps with
 |nil=>exact⟨93,[],rfl,o_⟩
 |cons q ps=>
  rw[flatMap_cons];unfold Prt.text;cases q.dash
  . exact⟨97+q.f,_,rfl,o_⟩
  . exact⟨97+q.f,_,rfl,o_⟩
theorem o8_ {f:Nat}(h:f<8):σ (97+f)=true:=ja_.2 o_
theorem wd_ {ps:List Prt}(h:∀x∈ps,x.ok)(x:Nat)(hx:x<8):ep_ (ps.flatMap Prt.text++ [93]) x=ps.any (fun q=>decide (q.f<=x)&&decide (x<=q.g)):=by
 induction ps with
 |nil=>simp[ep_,σ]
 |cons q ps ih=>
  obtain⟨c,l,m,o⟩:=h q i_;have b:∀y∈ps,y.ok:=fun y hy=>h y (by simp[hy])
  have n:=ih b;obtain⟨e,r,d,i⟩:=wc_ b;rw[any_cons,<-n,flatMap_cons];cases hd:q.dash
  . have a:Prt.text q=[97+q.f]:=by unfold Prt.text;rw[hd];rfl
    rw[a];simp only[cons_append,nil_append,ep_];rw[d,rm_ i,o8_ c,m hd,Bool.true_and];congr 2
    . rw[decide_eq_decide];omega
    . rw[decide_eq_decide];omega
  . have a:Prt.text q=[97+q.f,45,97+q.g]:=by unfold Prt.text;rw[hd];rfl
    rw[a];simp only[cons_append,nil_append,ep_];rw[d,rm_ i,o8_ c,o8_ l,Bool.true_and,Bool.true_and];have j:nb_ (97+q.f) (45::(97+q.g)::e::r)=97+q.g:=rfl;have k:σ 45=false:=rfl;rw[j,k,Bool.false_and,Bool.false_and,Bool.false_or];rw[Bool.eq_iff_iff];simp only[Bool.or_eq_true,Bool.and_eq_true,decide_eq_true_eq];constructor
    . rintro(h|h|h)
      . exact .inl o_
      . exact .inl o_
      . exact .inr h
    . rintro(h|h)
      . exact .inl o_
      . exact .inr (.inr h)
theorem we_ {ps:List Prt}(h:∀x∈ps,x.ok):okL (ps.flatMap Prt.text++ [93]):=by
 induction ps with
 |nil=>exact⟨fun h=>by simp[σ]at h,trivial⟩
 |cons q ps ih=>
  obtain⟨k,j,l,m⟩:=h q i_;have b:∀y∈ps,y.ok:=fun y hy=>h y (by simp[hy])
  have i:=ih b;obtain⟨e,r,c,d⟩:=wc_ b;rw[flatMap_cons];cases hd:q.dash
  . have a:Prt.text q=[97+q.f]:=by unfold Prt.text;rw[hd];rfl
    rw[a];exact⟨fun _=> .inr ⟨e,r,by simpa using c,d⟩,by simpa using i⟩
  . have a:Prt.text q=[97+q.f,45,97+q.g]:=by unfold Prt.text;rw[hd];rfl
    rw[a];refine⟨fun _=> .inl ⟨97+q.g,_,rfl,o8_ j⟩,fun h=>by simp[σ]at h,fun _=> .inr ⟨e,r,by simpa using c,d⟩,by simpa using i⟩
theorem wf_ (N:Nat->Bool)(ps:List Prt)(x:Nat):m4_ N ps x=(N x||ps.any (fun q=>decide (q.f<=x)&&decide (x<=q.g))):=by
 induction ps generalizing N with
 |nil=>simp[m4_]
 |cons q ps ih=>
  show m4_ (f7_ N q.f q.g) ps x=_
  rw[ih,any_cons];unfold f7_;rw[Bool.or_assoc]
theorem ad4_ (h:okL l)(i:Nat):okL (l.drop i):=by
 induction i generalizing l with
 |zero=>exact h
 |succ i ih=>
  cases l with
  |nil=>trivial
  |cons c l=>exact ih h.2
theorem wg_ (a:ByteArray)(l:List Nat)(ng:Bool)(w:World)(hs:a.size<=40)(ha:txt a=91::l)(h2:2<=a.size)(hng:(θ a 1==94)=ng)(hok:okL l):
 Calls prog 154 #[.string a] w (j5_ (.one (fun c=>decide (c<8)&&(if ep_ l c then !ng else ng))) w):=by
 have T:(txt a).drop 1=l:=by rw[ha];rfl
 have aa:=cp_ (s:=a) (a:=1) o_;have t94:((a[1].toNat:Int)==94)=ng:=by
  rw[<-hng,aa,Bool.eq_iff_iff];simp;omega
 have au:¬((a.size:Int)=1):=o_;have av:((a.size:Int)==1)=false:=s_;obtain⟨W,I,BW,-,-⟩:=ν w (exC 1 noS (.pointer none) (.pointer none)) 199;have Y:e2_ W w.heap.size noS:=by rw[I];exact ο rfl
 unfold exC noS at I;simp only[show((1:Nat):Int)=1 from rfl]at I;have am:Hid (∀i,okL ((txt a).drop (1+i))):=fun i=>by
  rw[<-drop_drop,T];exact ad4_ hok i
 have al:=α T;clear aa hng ha hok T;go_enter func154,ntmps154;go_upto_region 2 with fail;rw[<-I];clear I;go_wp2_with fail;go_loopw [6] (fun c' wr=>∃c:Nat,c<=8/\c'= .int .i64 (c:Int)/\e2_ wr w.heap.size (fun x=>if x<c then ng else false)/\Bl w wr) (fun c' _=>8 - (intOf c').toNat)
 case atStart=>exact⟨0,o_,rfl,Y.congr (fun c _=>by simp[noS]),BW⟩
 case round=>
  obtain⟨c,hc,rfl,f,g⟩:=hrel;clear Y t94 au av;by_cases ah:c<8
  . obtain⟨x1,x2⟩:=lo_ f ah;have t:=α f;have n:=α g;clear f g;go_wp2_with fail;go_roundw
    case rel=>
     refine⟨c+1,o_,by go_num,e2_.congr (o7_ t.out ah ng) (fun x _=> ?_),n.out.setCell (p:=⟨w.heap.size,1+c,none⟩) ι _⟩;by_cases e:x=c
     . subst e;simp
     . simp only[e,if_false];by_cases X:x<c
       . rw[if_pos X,if_pos o_]
       . rw[if_neg X,if_neg o_]
    case measure=>exact c_
  . obtain rfl:c=8:=o_;have Z:e2_ wr w.heap.size (fun x=>if (fun _=>false:Nat->Bool) x then !ng else ng):=f.congr (fun x A=>by simp[A]);clear f;go_wp2_with fail;go_loopw [7,8,9,10] (fun i' _ _ _ wr=>∃(i:Nat) (C:Nat->Bool),1<=i/\i<=a.size/\i'= .int .i64 (i:Int)/\Hid (∀x,x<8->(C x||ep_ ((txt a).drop i) x)=ep_ l x)/\e2_ wr w.heap.size (fun x=>if C x then !ng else ng)/\Bl w wr) (fun i' _ _ _ _=>100 - (intOf i').toNat)
    case atStart=>exact⟨1,fun _=>false,ι,o_,rfl,by unfold Hid;intro x _;rw[al.out];simp,Z,g⟩
    case round=>
     clear Z g;obtain⟨i,C,aC,aD,rfl,q,f,g⟩:=hrel;by_cases ai:i<a.size
     . have ar:(i:Int)<(a.size:Int):=o_;have N:=lq_ ai;have Q:=cp_ ai;have ad:=q2_ a i;have o:=fun w=>c9_ (θ a i) w ad
       have K:=am.out (i - 1);rw[show 1+(i - 1)=i by omega,N]at K;obtain⟨u,L⟩:=δ (θ a i);have y:a[i].toNat=u:=by rw[<-Q];exact L.out
       rw[N]at q;rw[L.out]at o q K ad;cases hn:σ u
       . have H:Hid (∀x,x<8->(C x||ep_ ((txt a).drop (i+1)) x)=ep_ l x):=by
          intro x A;have:=q.out x A;simp only[ep_,hn,Bool.false_and,Bool.false_or]at this;exact this
         rw[hn]at o;rw[<-y]at o;have t:=α f;have n:=α g;clear hn y Q L N q K f g;go_wp2_with (go_at_call 146;refine(o _).mono ?_;rintro e w' ⟨rfl,rfl⟩);go_roundw
         case rel=>exact⟨i+1,C,o_,o_,by go_num,H,t.out,n.out⟩
         case measure=>exact c_
       . have ak:=ja_.1 hn;rw[hn]at o;have ax:∃(G:Bool) (B:Nat),i+1<a.size/\(θ a (i+1)==45)=G/\(G=true->i+2<a.size/\θ a (i+2)=B)/\(G=false->B=u)/\97<=B/\B<=104/\nb_ u ((txt a).drop (i+1))=B:=by
          rcases K.1 hn with ⟨d,r,z,aq⟩|⟨e,r,z,aj⟩
          . have F:i+1<a.size:=by
             have:=congrArg List.length z;rw[length_drop,bm_]at this;simp at this;omega
            have O:i+2<a.size:=by
             have:=congrArg List.length z;rw[length_drop,bm_]at this;simp at this;omega
            have v:=z;rw[lq_ F,lq_ O]at v;simp only[List.cons.injEq]at v;have af:=ja_.1 aq;exact⟨true,d,F,by rw[v.1];rfl,fun _=>⟨O,v.2.1⟩,fun h=>by simp at h,af.1,af.2,by rw[z];rfl⟩
          . have F:i+1<a.size:=by
             have:=congrArg List.length z;rw[length_drop,bm_]at this;simp at this;omega
            have v:=z;rw[lq_ F]at v;simp only[List.cons.injEq]at v;exact⟨false,u,F,by rw[v.1];simpa using aj,fun h=>by simp at h,fun _=>rfl,ak.1,ak.2,by rw[z];exact rm_ aj⟩
         obtain⟨G,B,F,ae,V,U,aE,aF,ag⟩:=ax;have H:Hid (∀x,x<8->((C x||(decide (u - 97<=x)&&decide (x<B - 97+1)))||ep_ ((txt a).drop (i+1)) x)=ep_ l x):=by
          intro x A;have:=q.out x A;simp only[ep_,hn,ag,Bool.true_and]at this;rw[<-this,Bool.or_assoc];congr 2
          rw[Bool.eq_iff_iff];simp;omega
         have ac:=cp_ F;have t45:((a[i+1].toNat:Int)==45)=G:=by
          rw[<-ae,ac,Bool.eq_iff_iff];simp;omega
         rw[<-y]at o;have aw:((a[i].toNat:Int)- 97)=((u - 97:Nat):Int):=by rw[y];omega
         have aA:(97:Int)<=(a[i].toNat:Int):=by rw[y];omega
         have az:(a[i].toNat:Int)<=104:=by rw[y];omega
         have t:=α f;have n:=α g;obtain⟨b,P⟩:=δ (u - 97);obtain⟨k,M⟩:=δ (B - 97);rw[P.out,M.out]at H;rw[P.out]at aw
         have aB:k<8:=by rw[<-M.out];omega
         have ay:=α y;clear hn Q L N q K f g ag ae ac y;cases G
         . obtain rfl:=U rfl;obtain rfl:b=k:=by rw[<-P.out,<-M.out]
           clear V U;go_wp2_with (go_at_call 146;refine(o _).mono ?_;rintro e w' ⟨rfl,rfl⟩);go_loopw [10] (fun c' wr=>∃c:Nat,b<=c/\(c<=b+1\/c=b)/\c'= .int .i64 (c:Int)/\e2_ wr w.heap.size (fun x=>if (C x||(decide (b<=x)&&decide (x<c)))then !ng else ng)/\Bl w wr) (fun c' _=>20 - (intOf c').toNat)
           case atStart=>
            refine⟨b,ι,.inr rfl,rfl,t.out.congr (fun x _=> ?_),n.out⟩;have:(decide (b<=x)&&decide (x<b))=false:=i_;rw[this,Bool.or_false]
           case round=>
            obtain⟨c,an,ao,rfl,j,m⟩:=hrel;by_cases ap:c<=b
            . have S:(c:Int)<=(b:Int):=o_;have J:c<8:=o_;obtain⟨x1,x2⟩:=lo_ j J;have E:=α j;have D:=α m;clear j m;go_wp2_with fail;go_roundw
              case rel=>
               refine⟨c+1,o_,o_,by go_num,e2_.congr (o7_ E.out J (!ng)) (fun x _=> ?_),D.out.setCell (p:=⟨w.heap.size,1+c,none⟩) ι _⟩;by_cases e:x=c
               . subst e;have:(decide (b<=x)&&decide (x<x+1))=true:=s_;simp only[if_true,this,Bool.or_true]
               . simp only[e,if_false];have:decide (x<c+1)=decide (x<c):=by rw[decide_eq_decide];omega
                 rw[this]
              case measure=>exact c_
            . have S:¬(c:Int)<=(b:Int):=o_;have E:Hid (e2_ wr w.heap.size (fun x=>if (C x||(decide (b<=x)&&decide (x<b+1)))then !ng else ng)):=j.congr (fun x _=>by
               have:(decide (b<=x)&&decide (x<c))=(decide (b<=x)&&decide (x<b+1)):=by rw[Bool.eq_iff_iff];simp;omega
               rw[this])
              have D:=α m;clear j m;go_wp2_with fail;go_roundw
              case rel=>exact⟨i+1,fun x=>C x||(decide (b<=x)&&decide (x<b+1)),o_,o_,by go_num,H,E.out,D.out⟩
              case measure=>exact c_
         . obtain⟨O,ab⟩:=V rfl;have R:=cp_ O;rw[ab]at R;have aG:((a[i+2].toNat:Int)- 97)=(k:Int):=by rw[<-R,<-M.out];omega
           clear V U ab R;go_wp2_with (go_at_call 146;refine(o _).mono ?_;rintro e w' ⟨rfl,rfl⟩);go_loopw [10] (fun c' wr=>∃c:Nat,b<=c/\(c<=k+1\/c=b)/\c'= .int .i64 (c:Int)/\e2_ wr w.heap.size (fun x=>if (C x||(decide (b<=x)&&decide (x<c)))then !ng else ng)/\Bl w wr) (fun c' _=>20 - (intOf c').toNat)
           case atStart=>
            refine⟨b,ι,.inr rfl,rfl,t.out.congr (fun x _=> ?_),n.out⟩;have:(decide (b<=x)&&decide (x<b))=false:=i_;rw[this,Bool.or_false]
           case round=>
            obtain⟨c,an,ao,rfl,j,m⟩:=hrel;by_cases ap:c<=k
            . have S:(c:Int)<=(k:Int):=o_;have J:c<8:=o_;obtain⟨x1,x2⟩:=lo_ j J;have E:=α j;have D:=α m;clear j m;go_wp2_with fail;go_roundw
              case rel=>
               refine⟨c+1,o_,o_,by go_num,e2_.congr (o7_ E.out J (!ng)) (fun x _=> ?_),D.out.setCell (p:=⟨w.heap.size,1+c,none⟩) ι _⟩;by_cases e:x=c
               . subst e;have:(decide (b<=x)&&decide (x<x+1))=true:=s_;simp only[if_true,this,Bool.or_true]
               . simp only[e,if_false];have:decide (x<c+1)=decide (x<c):=by rw[decide_eq_decide];omega
                 rw[this]
              case measure=>exact c_
            . have S:¬(c:Int)<=(k:Int):=o_;have E:Hid (e2_ wr w.heap.size (fun x=>if (C x||(decide (b<=x)&&decide (x<k+1)))then !ng else ng)):=j.congr (fun x _=>by
               have:(decide (b<=x)&&decide (x<c))=(decide (b<=x)&&decide (x<k+1)):=by rw[Bool.eq_iff_iff];simp;omega
               rw[this])
              have D:=α m;clear j m;go_wp2_with fail;go_roundw
              case rel=>exact⟨i+1,fun x=>C x||(decide (b<=x)&&decide (x<k+1)),o_,o_,by go_num,H,E.out,D.out⟩
              case measure=>exact c_
     . have ar:¬(i:Int)<(a.size:Int):=o_;obtain rfl:i=a.size:=o_;have t:Hid (Τ wr w.heap.size (.one (fun c=>decide (c<8)&&(if ep_ l c then !ng else ng)))):=by
        refine e2_.congr f (fun x A=> ?_);have:=q.out x A;rw[rb_]at this;simp only[ep_,Bool.or_false]at this;rw[this];simp[A]
       have n:=α g;clear f g q;go_wp2_with fail;go_ret;exact⟨_,rfl,t.out,n.out⟩
end Go.Proofs.YtpngikmcjkjdaaaGreatDoor
