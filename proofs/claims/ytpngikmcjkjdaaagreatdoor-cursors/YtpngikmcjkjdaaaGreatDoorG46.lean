import Derived.Test.YtpngikmcjkjdaaaGreatDoorG0
import Derived.Test.YtpngikmcjkjdaaaGreatDoorG42
import Derived.Test.YtpngikmcjkjdaaaGreatDoorG44
import Derived.Test.YtpngikmcjkjdaaaGreatDoorG45
set_option linter.unusedVariables false
set_option linter.unusedSimpArgs false
set_option maxRecDepth 20000
set_option maxHeartbeats 80000000
namespace Go.Proofs.YtpngikmcjkjdaaaGreatDoor
open Go.RowKit Tryz
def h2_ (j:Nat):Int:=(([8,9,10,11,12,16,17,18]:List Int).getD j 0)
theorem tu_ (ao:Option Addr)(len cap:Nat)(r:Nat->m1_)(w:World)(hlen:len<=4398046511104)(h:∀i,i<len->∃b o,ao=some ⟨b,o,none⟩/\(r i).At w b (o+i*7))(h3:3<=w.heap.size)(ht:dh_ w):
 Calls prog 9 #[.slice ao len cap] w fun e w'=>e= .returned (.bool true)/\Below w.heap.size w w':=by
 have hO:=afj_ hlen h;obtain⟨W,hW,BW,hWs,b0⟩:=nw__ w #[.int .i64 8,.int .i64 9,.int .i64 10,.int .i64 11,.int .i64 12,.int .i64 16,.int .i64 17,.int .i64 18] 3;have hO1:=hO.below BW;have hc:∀j,j<8->W.cell? ⟨w.heap.size,j,none⟩=some (.int .i64 (h2_ j)):=fun j hj=>by
  rcases (show j=0\/j=1\/j=2\/j=3\/j=4\/j=5\/j=6\/j=7 by omega)with rfl|rfl|rfl|rfl|rfl|rfl|rfl|rfl<;>simp[World.cell?,b0,h2_]
 have HC:=z8_ ao len cap _ _ _ _ _ _ _ _ _ _ W hO1 w.heap.size 8 8 h2_ hc o_ o_ (ht.below h3 BW) (fun i hi hin w' hB hS=>by
  have hR:=hO1.below hB;rw[aer_]at hin;have hk:(r i).kd=1\/(r i).kd=2\/(r i).kd=8\/(r i).kd=9\/(r i).kd=10\/(r i).kd=11\/(r i).kd=12\/(r i).kd=16\/(r i).kd=17\/(r i).kd=18:=by
   rcases hin with h|h|⟨j,hj,h⟩
   . exact .inl h
   . exact .inr (.inl h)
   . have h':(r i).kd=h2_ j:=h;rcases (show j=0\/j=1\/j=2\/j=3\/j=4\/j=5\/j=6\/j=7 by omega)with rfl|rfl|rfl|rfl|rfl|rfl|rfl|rfl<;>simp[h2_]at h'<;>omega
  obtain⟨vts,vbs,vtx,hs,ps,xs,lab,hw,l1,l2,l3⟩:=hS;have hpt:dh_ w':=(ht.below h3 BW).below o_ hB;rcases hk with hk|hk|hk|hk|hk|hk|hk|hk|hk|hk
  . rw[hk];exact(xb_ _ w' W.heap.size vts hs hw.wd _ _ _ _ _ _ _ _ _ (hR.lst i hi) o_).mono (fun e w2 hp=>ld_ hw l1 l2 l3 hp)
  . rw[hk];exact(xc_ _ w' W.heap.size vts hs hw.wd _ _ _ _ _ _ _ _ o_ (hR.ra i hi) (hR.rb i hi) (hR.rc i hi)).mono (fun e w2 hp=>ld_ hw l1 l2 l3 hp)
  . rw[hk];exact(tq_ _ w' W.heap.size vts hs hw.wd _ _ _ _ _ _ _ _ o_ (hR.str i hi)).mono (fun e w2 hp=>ld_ hw l1 l2 l3 hp)
  . rw[hk];exact(z3_ _ w' W.heap.size vts hs hw.wd _ _ _ _ _ _ _ _ o_ (hR.str i hi)).mono (fun e w2 hp=>ld_ hw l1 l2 l3 hp)
  . rw[hk];exact z7_ W w' W.heap.size i vts vbs vtx hs ps xs lab hw l1 l2 l3 o_ _ _ _ _ _ _ _ _
  . rw[hk];exact h1_ W w' W.heap.size i vts vbs vtx hs ps xs lab hw l1 l2 l3 o_ 11 o_ _ _ _ _ _ _ _ _ (hR.ra i hi) (fun V v p hp B hV=>xk_ W V _ vts v vtx hs ps xs lab hV p hp _ _ _ _ _ _ _ _ (hR.str i hi))
  . rw[hk];exact h1_ W w' W.heap.size i vts vbs vtx hs ps xs lab hw l1 l2 l3 o_ 12 o_ _ _ _ _ _ _ _ _ (hR.ra i hi) (fun V v p hp B hV=>uz_ W V _ vts v vtx hs ps xs lab hV p hp _ _ _ _ _ _ _ _ (hR.str i hi))
  . rw[hk];exact h1_ W w' W.heap.size i vts vbs vtx hs ps xs lab hw l1 l2 l3 o_ 16 o_ _ _ _ _ _ _ _ _ (hR.ra i hi) (fun V v p hp B hV=>u1_ W V _ vts v vtx hs ps xs lab hV p hp _ _ _ _ _ _ _ _ o_ (hR.rb i hi))
  . rw[hk];exact h1_ W w' W.heap.size i vts vbs vtx hs ps xs lab hw l1 l2 l3 o_ 17 o_ _ _ _ _ _ _ _ _ (hR.ra i hi) (fun V v p hp B hV=>u0_ W V _ vts v vtx hs ps xs lab hV p hp _ _ _ _ _ _ _ _ o_ o_ (hpt.below (by have:=ac_ hw.wd.blk;omega) B))
  . rw[hk];exact h1_ W w' W.heap.size i vts vbs vtx hs ps xs lab hw l1 l2 l3 o_ 18 o_ _ _ _ _ _ _ _ _ (hR.ra i hi) (fun V v p hp B hV=>tt_ W V _ vts v vtx hs ps xs lab hV p hp _ _ _ _ _ _ _ _))
 clear hO hO1 h b0 hc ht;go_enter func9,ntmps9;go_wp2_with fail;rw[<-hW];clear hW;refine HC.mono ?_;rintro e w1 ⟨rfl,hB1⟩;clear HC;go_wp2_with fail;go_ret;exact⟨rfl,BW.trans (hB1.mono o_)⟩
end Go.Proofs.YtpngikmcjkjdaaaGreatDoor
