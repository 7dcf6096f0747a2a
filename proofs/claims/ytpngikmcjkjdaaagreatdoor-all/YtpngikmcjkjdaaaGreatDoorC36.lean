import Derived.Test.YtpngikmcjkjdaaaGreatDoorC33
import Derived.Test.YtpngikmcjkjdaaaGreatDoorC35
set_option linter.unusedVariables false
set_option linter.unusedSimpArgs false
set_option maxRecDepth 20000
set_option maxHeartbeats 80000000
namespace Go.Proofs.YtpngikmcjkjdaaaGreatDoor
open Go.RowKit Tryz List Nat
def n4_ (j:Nat):Int:=(([3,4,5,6,7,8,9,10,11,12,13,14,15,16,17,18]:List Int).getD j 0)
theorem am5_ (ao:Option Addr)(len cap:Nat)(r:Nat->mf_)(w:World)(hlen:len<=4398046511104)(h:∀i,i<len->∃b o,ao=some ⟨b,o,none⟩/\(r i).At w b (o+i*7))(h3:3<=w.heap.size)(ht:ei_ w):
 Calls prog 10 #[.slice ao len cap] w fun e w'=>e= .returned (.bool true)/\Bl w w':=by
 have E:=al9_ hlen h;obtain⟨W,F,y,L,D⟩:=ν w #[.int .i64 3,.int .i64 4,.int .i64 5,.int .i64 6,.int .i64 7,.int .i64 8,.int .i64 9,.int .i64 10,.int .i64 11,.int .i64 12,.int .i64 13,.int .i64 14,.int .i64 15,.int .i64 16,.int .i64 17,.int .i64 18] 3;have z:=E.below y;have G:∀j,j<16->W.cell? ⟨w.heap.size,j,none⟩=some (.int .i64 (n4_ j)):=fun j K=>by
  rcases (show j=0\/j=1\/j=2\/j=3\/j=4\/j=5\/j=6\/j=7\/j=8\/j=9\/j=10\/j=11\/j=12\/j=13\/j=14\/j=15 by omega)with rfl|rfl|rfl|rfl|rfl|rfl|rfl|rfl|rfl|rfl|rfl|rfl|rfl|rfl|rfl|rfl<;>simp[World.cell?,D,n4_]
 have C:=amv_ ao len cap _ _ _ _ _ _ _ _ _ _ W z w.heap.size 16 16 n4_ G o_ o_ (ht.below h3 y) (fun i hi hin w' hB hS=>by
  have f:=z.below hB;rw[alu_]at hin;have a:(r i).kd=1\/(r i).kd=2\/(r i).kd=3\/(r i).kd=4\/(r i).kd=5\/(r i).kd=6\/(r i).kd=7\/(r i).kd=8\/(r i).kd=9\/(r i).kd=10\/(r i).kd=11\/(r i).kd=12\/(r i).kd=13\/(r i).kd=14\/(r i).kd=15\/(r i).kd=16\/(r i).kd=17\/(r i).kd=18:=by
   rcases hin with h|h|⟨j,K,h⟩
   . exact .inl h
   . exact .inr (.inl h)
   . have I:(r i).kd=n4_ j:=h;rcases (show j=0\/j=1\/j=2\/j=3\/j=4\/j=5\/j=6\/j=7\/j=8\/j=9\/j=10\/j=11\/j=12\/j=13\/j=14\/j=15 by omega)with rfl|rfl|rfl|rfl|rfl|rfl|rfl|rfl|rfl|rfl|rfl|rfl|rfl|rfl|rfl|rfl<;>simp[n4_]at I<;>omega
  obtain⟨g,x,s,c,q,u,n,d,k,l,m⟩:=hS;have H:ei_ w':=(ht.below h3 y).below o_ hB;rcases a with a|a|a|a|a|a|a|a|a|a|a|a|a|a|a|a|a|a
  . rw[a];exact(als_ _ w' W.heap.size g c d.wd _ _ _ _ _ _ _ _ _ (f.fh i hi) o_).mono (fun e w2 hp=>js_ d k l m hp)
  . rw[a];exact(alt_ _ w' W.heap.size g c d.wd _ _ _ _ _ _ _ _ o_ (f.ra i hi) (f.rb i hi) (f.rc i hi)).mono (fun e w2 hp=>js_ d k l m hp)
  . rw[a];exact(n1_ _ w' W.heap.size g c d.wd 3 o_ _ _ _ _ _ _ _ _ o_ (f.ra i hi) (fun V v t A X hV hT hl=>z7_ _ 3 _ _ _ _ _ _ _ _ hV hT (f.str i hi) d_)).mono (fun e w2 hp=>js_ d k l m hp)
  . rw[a];exact(n1_ _ w' W.heap.size g c d.wd 4 o_ _ _ _ _ _ _ _ _ o_ (f.ra i hi) (fun V v t A X hV hT hl=>z7_ _ 4 _ _ _ _ _ _ _ _ hV hT (f.str i hi) d_)).mono (fun e w2 hp=>js_ d k l m hp)
  . rw[a];exact(n1_ _ w' W.heap.size g c d.wd 5 o_ _ _ _ _ _ _ _ _ o_ (f.ra i hi) (fun V v t A X hV hT hl=>z6_ _ V _ v c hV o_ 5 _ _ _ _ _ _ _ _ t A X hT d_)).mono (fun e w2 hp=>js_ d k l m hp)
  . rw[a];exact(n1_ _ w' W.heap.size g c d.wd 6 o_ _ _ _ _ _ _ _ _ o_ (f.ra i hi) (fun V v t A X hV hT hl=>z6_ _ V _ v c hV o_ 6 _ _ _ _ _ _ _ _ t A X hT d_)).mono (fun e w2 hp=>js_ d k l m hp)
  . rw[a];exact(n1_ _ w' W.heap.size g c d.wd 7 o_ _ _ _ _ _ _ _ _ o_ (f.ra i hi) (fun V v t A X hV hT hl=>ame_ _ V _ v c hV o_ _ _ _ _ _ _ _ _ t A X hT hl (f.rb i hi))).mono (fun e w2 hp=>js_ d k l m hp)
  . rw[a];exact(amb_ _ w' W.heap.size g c d.wd _ _ _ _ _ _ _ _ o_ (f.str i hi)).mono (fun e w2 hp=>js_ d k l m hp)
  . rw[a];exact(amd_ _ w' W.heap.size g c d.wd _ _ _ _ _ _ _ _ o_ (f.str i hi)).mono (fun e w2 hp=>js_ d k l m hp)
  . rw[a];exact amu_ W w' W.heap.size i g x s c q u n d k l m o_ _ _ _ _ _ _ _ _
  . rw[a];exact ki_ W w' W.heap.size i g x s c q u n d k l m o_ 11 o_ _ _ _ _ _ _ _ _ (f.ra i hi) (fun V v p hp B hV=>amo_ W V _ g v s c q u n hV p hp _ _ _ _ _ _ _ _ (f.str i hi))
  . rw[a];exact ki_ W w' W.heap.size i g x s c q u n d k l m o_ 12 o_ _ _ _ _ _ _ _ _ (f.ra i hi) (fun V v p hp B hV=>amp_ W V _ g v s c q u n hV p hp _ _ _ _ _ _ _ _ (f.str i hi))
  . rw[a];exact ki_ W w' W.heap.size i g x s c q u n d k l m o_ 13 o_ _ _ _ _ _ _ _ _ (f.ra i hi) (fun V v p hp B hV=>amq_ W V _ g v s c q u n hV p hp _ _ _ _ _ _ _ _ (f.str i hi))
  . rw[a];exact ki_ W w' W.heap.size i g x s c q u n d k l m o_ 14 o_ _ _ _ _ _ _ _ _ (f.ra i hi) (fun V v p hp B hV=>amr_ W V _ g v s c q u n hV p hp _ _ _ _ _ _ _ _ (f.str i hi))
  . rw[a];exact ki_ W w' W.heap.size i g x s c q u n d k l m o_ 15 o_ _ _ _ _ _ _ _ _ (f.ra i hi) (fun V v p hp B hV=>ams_ W V _ g v s c q u n hV p hp _ _ _ _ _ _ _ _ (f.str i hi) o_ o_ (H.below (by have:=κ d.wd.cg;omega) B))
  . rw[a];exact ki_ W w' W.heap.size i g x s c q u n d k l m o_ 16 o_ _ _ _ _ _ _ _ _ (f.ra i hi) (fun V v p hp B hV=>am4_ W V _ g v s c q u n hV p hp _ _ _ _ _ _ _ _ o_ (f.rb i hi))
  . rw[a];exact ki_ W w' W.heap.size i g x s c q u n d k l m o_ 17 o_ _ _ _ _ _ _ _ _ (f.ra i hi) (fun V v p hp B hV=>am1_ W V _ g v s c q u n hV p hp _ _ _ _ _ _ _ _ o_ o_ (H.below (by have:=κ d.wd.cg;omega) B))
  . rw[a];exact ki_ W w' W.heap.size i g x s c q u n d k l m o_ 18 o_ _ _ _ _ _ _ _ _ (f.ra i hi) (fun V v p hp B hV=>am0_ W V _ g v s c q u n hV p hp _ _ _ _ _ _ _ _))
 clear E z h D G ht;go_enter func10,ntmps10;go_wp2_with fail;rw[<-F];clear F;refine C.mono ?_;rintro e M ⟨rfl,J⟩;clear C;go_wp2_with fail;go_ret;exact⟨rfl,y.trans (J.mono o_)⟩
end Go.Proofs.YtpngikmcjkjdaaaGreatDoor
