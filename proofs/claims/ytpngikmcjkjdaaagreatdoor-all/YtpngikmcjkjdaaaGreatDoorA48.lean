import Derived.Test.YtpngikmcjkjdaaaGreatDoorA44
import Derived.Test.YtpngikmcjkjdaaaGreatDoorA46
import Derived.Test.YtpngikmcjkjdaaaGreatDoorA47
set_option linter.unusedVariables false
set_option linter.unusedSimpArgs false
set_option maxRecDepth 20000
set_option maxHeartbeats 80000000
namespace Go.Proofs.YtpngikmcjkjdaaaGreatDoor
open Go.RowKit Tryz List Nat
def n2_ (j:Nat):Int:=(([3,4,5,6,7,8,9,10,11,12,13,14,15,16,17,18]:List Int).getD j 0)
theorem al8_ (ao:Option Addr)(len cap:Nat)(r:Nat->me_)(w:World)(hlen:len<=4398046511104)(h:∀i,i<len->∃b o,ao=some ⟨b,o,none⟩/\(r i).At w b (o+i*7))(h3:3<=w.heap.size)(ht:ei_ w):
 Calls prog 10 #[.slice ao len cap] w fun e w'=>e= .returned (.bool true)/\Bl w w':=by
 have E:=alc_ hlen h;obtain⟨W,F,y,L,D⟩:=ν w #[.int .i64 3,.int .i64 4,.int .i64 5,.int .i64 6,.int .i64 7,.int .i64 8,.int .i64 9,.int .i64 10,.int .i64 11,.int .i64 12,.int .i64 13,.int .i64 14,.int .i64 15,.int .i64 16,.int .i64 17,.int .i64 18] 3;have z:=E.below y;have G:∀j,j<16->W.cell? ⟨w.heap.size,j,none⟩=some (.int .i64 (n2_ j)):=fun j K=>by
  rcases (show j=0\/j=1\/j=2\/j=3\/j=4\/j=5\/j=6\/j=7\/j=8\/j=9\/j=10\/j=11\/j=12\/j=13\/j=14\/j=15 by omega)with rfl|rfl|rfl|rfl|rfl|rfl|rfl|rfl|rfl|rfl|rfl|rfl|rfl|rfl|rfl|rfl<;>simp[World.cell?,D,n2_]
 have C:=aly_ ao len cap _ _ _ _ _ _ _ _ _ _ W z w.heap.size 16 16 n2_ G o_ o_ (ht.below h3 y) (fun i hi hin w' hB hS=>by
  have f:=z.below hB;rw[aj6_]at hin;have a:(r i).kd=1\/(r i).kd=2\/(r i).kd=3\/(r i).kd=4\/(r i).kd=5\/(r i).kd=6\/(r i).kd=7\/(r i).kd=8\/(r i).kd=9\/(r i).kd=10\/(r i).kd=11\/(r i).kd=12\/(r i).kd=13\/(r i).kd=14\/(r i).kd=15\/(r i).kd=16\/(r i).kd=17\/(r i).kd=18:=by
   rcases hin with h|h|⟨j,K,h⟩
   . exact .inl h
   . exact .inr (.inl h)
   . have I:(r i).kd=n2_ j:=h;rcases (show j=0\/j=1\/j=2\/j=3\/j=4\/j=5\/j=6\/j=7\/j=8\/j=9\/j=10\/j=11\/j=12\/j=13\/j=14\/j=15 by omega)with rfl|rfl|rfl|rfl|rfl|rfl|rfl|rfl|rfl|rfl|rfl|rfl|rfl|rfl|rfl|rfl<;>simp[n2_]at I<;>omega
  obtain⟨g,x,s,c,q,u,n,d,k,l,m⟩:=hS;have H:ei_ w':=(ht.below h3 y).below o_ hB;rcases a with a|a|a|a|a|a|a|a|a|a|a|a|a|a|a|a|a|a
  . rw[a];exact(aj4_ _ w' W.heap.size g c d.wd _ _ _ _ _ _ _ _ _ (f.lst i hi) o_).mono (fun e w2 hp=>js_ d k l m hp)
  . rw[a];exact(aj5_ _ w' W.heap.size g c d.wd _ _ _ _ _ _ _ _ o_ (f.ra i hi) (f.rb i hi) (f.rc i hi)).mono (fun e w2 hp=>js_ d k l m hp)
  . rw[a];exact(nx_ _ w' W.heap.size g c d.wd 3 o_ _ _ _ _ _ _ _ _ o_ (f.ra i hi) (fun V v t A X hV hT hl=>zd_ _ 3 _ _ _ _ _ _ _ _ hV hT (f.str i hi) d_)).mono (fun e w2 hp=>js_ d k l m hp)
  . rw[a];exact(nx_ _ w' W.heap.size g c d.wd 4 o_ _ _ _ _ _ _ _ _ o_ (f.ra i hi) (fun V v t A X hV hT hl=>zd_ _ 4 _ _ _ _ _ _ _ _ hV hT (f.str i hi) d_)).mono (fun e w2 hp=>js_ d k l m hp)
  . rw[a];exact(nx_ _ w' W.heap.size g c d.wd 5 o_ _ _ _ _ _ _ _ _ o_ (f.ra i hi) (fun V v t A X hV hT hl=>zc_ _ V _ v c hV o_ 5 _ _ _ _ _ _ _ _ t A X hT d_)).mono (fun e w2 hp=>js_ d k l m hp)
  . rw[a];exact(nx_ _ w' W.heap.size g c d.wd 6 o_ _ _ _ _ _ _ _ _ o_ (f.ra i hi) (fun V v t A X hV hT hl=>zc_ _ V _ v c hV o_ 6 _ _ _ _ _ _ _ _ t A X hT d_)).mono (fun e w2 hp=>js_ d k l m hp)
  . rw[a];exact(nx_ _ w' W.heap.size g c d.wd 7 o_ _ _ _ _ _ _ _ _ o_ (f.ra i hi) (fun V v t A X hV hT hl=>alh_ _ V _ v c hV o_ _ _ _ _ _ _ _ _ t A X hT hl (f.rb i hi))).mono (fun e w2 hp=>js_ d k l m hp)
  . rw[a];exact(ale_ _ w' W.heap.size g c d.wd _ _ _ _ _ _ _ _ o_ (f.str i hi)).mono (fun e w2 hp=>js_ d k l m hp)
  . rw[a];exact(alg_ _ w' W.heap.size g c d.wd _ _ _ _ _ _ _ _ o_ (f.str i hi)).mono (fun e w2 hp=>js_ d k l m hp)
  . rw[a];exact alx_ W w' W.heap.size i g x s c q u n d k l m o_ _ _ _ _ _ _ _ _
  . rw[a];exact ki_ W w' W.heap.size i g x s c q u n d k l m o_ 11 o_ _ _ _ _ _ _ _ _ (f.ra i hi) (fun V v p hp B hV=>alr_ W V _ g v s c q u n hV p hp _ _ _ _ _ _ _ _ (f.str i hi))
  . rw[a];exact ki_ W w' W.heap.size i g x s c q u n d k l m o_ 12 o_ _ _ _ _ _ _ _ _ (f.ra i hi) (fun V v p hp B hV=>als_ W V _ g v s c q u n hV p hp _ _ _ _ _ _ _ _ (f.str i hi))
  . rw[a];exact ki_ W w' W.heap.size i g x s c q u n d k l m o_ 13 o_ _ _ _ _ _ _ _ _ (f.ra i hi) (fun V v p hp B hV=>alt_ W V _ g v s c q u n hV p hp _ _ _ _ _ _ _ _ (f.str i hi))
  . rw[a];exact ki_ W w' W.heap.size i g x s c q u n d k l m o_ 14 o_ _ _ _ _ _ _ _ _ (f.ra i hi) (fun V v p hp B hV=>alu_ W V _ g v s c q u n hV p hp _ _ _ _ _ _ _ _ (f.str i hi))
  . rw[a];exact ki_ W w' W.heap.size i g x s c q u n d k l m o_ 15 o_ _ _ _ _ _ _ _ _ (f.ra i hi) (fun V v p hp B hV=>alv_ W V _ g v s c q u n hV p hp _ _ _ _ _ _ _ _ (f.str i hi) o_ o_ (H.below (by have:=κ d.wd.blk;omega) B))
  . rw[a];exact ki_ W w' W.heap.size i g x s c q u n d k l m o_ 16 o_ _ _ _ _ _ _ _ _ (f.ra i hi) (fun V v p hp B hV=>al7_ W V _ g v s c q u n hV p hp _ _ _ _ _ _ _ _ o_ (f.rb i hi))
  . rw[a];exact ki_ W w' W.heap.size i g x s c q u n d k l m o_ 17 o_ _ _ _ _ _ _ _ _ (f.ra i hi) (fun V v p hp B hV=>al4_ W V _ g v s c q u n hV p hp _ _ _ _ _ _ _ _ o_ o_ (H.below (by have:=κ d.wd.blk;omega) B))
  . rw[a];exact ki_ W w' W.heap.size i g x s c q u n d k l m o_ 18 o_ _ _ _ _ _ _ _ _ (f.ra i hi) (fun V v p hp B hV=>al3_ W V _ g v s c q u n hV p hp _ _ _ _ _ _ _ _))
 clear E z h D G ht;go_enter func10,ntmps10;go_wp2_with fail;rw[<-F];clear F;refine C.mono ?_;rintro e M ⟨rfl,J⟩;clear C;go_wp2_with fail;go_ret;exact⟨rfl,y.trans (J.mono o_)⟩
end Go.Proofs.YtpngikmcjkjdaaaGreatDoor
