import Derived.Deep.RegionWith
import Derived.Test.YtpngikmcjkjdaaaGreatDoorA14
set_option linter.unusedVariables false
set_option linter.unusedSimpArgs false
set_option maxRecDepth 20000
set_option maxHeartbeats 80000000
namespace Go.Proofs.YtpngikmcjkjdaaaGreatDoor
open Go.RowKit Tryz List Nat
theorem afi_ {m:cw_}{ps:List Nat}{q k:Nat}(hk:k<=ps.length):aa_ (m.tab (ps++ [q])).acc k=aa_ (m.tab ps).acc k:=by
 induction k with
 |zero=>rfl
 |succ k ih=>
  simp only[aa_];rw[ih o_];simp only[cw_.tab];rw[b8_ _ _ _ o_]
theorem afj_ (S L:Nat)(hS:S<2048)(hL:L<2048):(bits BinOp.and IntKind.i64 (S:Int) (L:Int) !=0)=(S&&&L !=0):=by
 rw[od_ S L o_ o_,Bool.eq_iff_iff];simp
theorem afk_ (bm gb n cap:Nat)(beh rdr:Nat->Nat)(lasts:Nat)(w:World)(hn:n<=11)(hn1:1<=n)(hL:lasts<2048)(h:c6_ w bm (.slice (some ⟨gb,0,none⟩) n cap) n beh rdr):
 Calls prog 145 #[.pointer (some ⟨bm,0,none⟩),.int .i64 1,.int .i64 lasts] w
  fun e w'=>Bl w w'/\∃ps gw ga ca gn cn,Κ cw_.good (cw_.succ ⟨n,beh,rdr,lasts⟩) ps (8*ps.length)/\e= .returned (.pointer (some ⟨gw,0,none⟩))/\gj_ w' gw ga ca gn cn (cw_.tab ⟨n,beh,rdr,lasts⟩ ps):=by
 have hz:=abi_;obtain⟨m,H⟩:∃m:cw_,Hid ((⟨n,beh,rdr,lasts⟩:cw_)=m):=⟨_,rfl⟩;rw[H.out];obtain⟨i3,aH,aP,aQ,aR⟩:=info_parts e9_;have az:Hid (m.n=n):=by unfold Hid;rw[<-H.out]
 have ax:Hid (m.beh=beh):=by unfold Hid;rw[<-H.out]
 have aA:Hid (m.rdr=rdr):=by unfold Hid;rw[<-H.out]
 have ay:Hid (m.lasts=lasts):=by unfold Hid;rw[<-H.out]
 obtain⟨f,W,af,b3,b4⟩:=bl_ w #[.slice none 0 0,.slice none 0 0] 169 (zs 2048) 222;have aB:f.heap.size=w.heap.size+1+1:=by rw[W];simp
 have P:f.rowIs (w.heap.size+1) 222 2048 (fun _=> .int .i64 0):=⟨_,b4,by simp[zs],fun i hi=>by simp[zs,hi]⟩;have s0:=P.cell (i:=1) o_;have s1:=P.frozen 1;have R4:=α P;clear P b4;go_enter func145,ntmps145;go_upto_region 3 with fail;rw[<-W];clear W hz;go_wp2_with fail;clear s0 s1;obtain⟨W2,Y⟩:=af_ ((f.setCell ⟨w.heap.size+1,1,none⟩ (.int .i64 1)).alloc (.cells #[.int .i64 1] 3));have P0:kr_ f w.heap.size W2 [0] (.slice (some ⟨w.heap.size+1+1,0,none⟩) 1 1) (.slice none 0 0) (.slice none 0 0) 0 0 [] []:=by
  rw[Y];refine⟨(μ.setCell (p:=⟨w.heap.size+1,1,none⟩) i_ _).alloc s_ _,φ (a3_ b3 i_), ?_,a8_,a8_, ?_⟩
  . refine((R4.out.set 1 (.int .i64 1)).congr (fun S _=> ?_)).alloc _;by_cases e:S=1
    . subst e;simp[ew_,swp]
    . have:swp 1 S≠0:=by unfold swp;rw[if_neg e];split<;>omega
      simp[ew_,e,this]
  . have h:=World.ownsRow_lit (base:=w.heap.size+1+1) (e:=3) (size:=1) (f.setCell ⟨w.heap.size+1,1,none⟩ (.int .i64 1)) #[.int .i64 1] 1 s_ d_ rfl;have aO:(f.setCell ⟨w.heap.size+1,1,none⟩ (.int .i64 1)).heap.size=f.heap.size:=i_;rw[aO,aB]at h;exact h
 rw[<-Y];clear Y R4 b3;have aj:∀a r,Κ cw_.good m.succ a r->a.length<=2048:=fun a r h=>cw_.bound h
 have ah:Hid (∀wr,Bl w wr->c6_ wr bm (.slice (some ⟨gb,0,none⟩) n cap) n beh rdr):=fun wr hb=>h.below hb
 have ao:=h.lb;have aJ:=h.lr;clear h;go_loopw [9,10,11,12,13,14] (fun vs k' _ _ _ _ wr=>∃(k:Nat) (ps:List Nat) (y z:Value),k<=ps.length/\k'= .int .i64 k/\Κ cw_.good m.succ ps (8*k)/\kr_ f w.heap.size wr ps vs y z k k (aa_ (m.tab ps).acc k) (b9_ (pn m.succ ps) k))
  (fun _ k' _ _ _ _ _=>4096 - (intOf k').toNat)
 case atStart=>exact⟨0,[0],_,_,i_,rfl,Κ.start (by unfold cw_.good;omega),P0⟩
 case round=>
  obtain⟨k,ps,y,z,hk,rfl,d,b⟩:=hrel;clear P0;have ai:=aj _ _ d;have aq:=d.len;have ak:=η af b.blw;obtain⟨ap,F,rfl,B⟩:=Β b.own2;obtain⟨gp,rfl,G⟩:=B o_;rename World=>wo
  by_cases s:k<ps.length
  . have K:=(G k o_).trans (ue_ ps k s);obtain⟨q,l⟩:=δ (ps.getD k 0);rw[l.out]at K;have aG:q<2048:=by rw[<-l.out];exact d.inr _ (fj_ ps k s)
    obtain⟨S,J⟩:=δ (swp 1 q);rw[J.out]at K;have hS:S<2048:=by rw[<-J.out];exact ub_ o_ aG
    have A:=ah.out wo ak;have x0:=A.blk.cell (i:=0) o_;simp only[if_true]at x0;have Q:=abf_ bm gb n cap beh S wo hn hS ao x0 (fun i hi=>(A.own.cellAt i o_).trans (by simp[Λ,hi]));obtain⟨N,R⟩:=δ (fn_ beh S n);rw[R.out]at Q;have aT:N<2048:=by rw[<-R.out];exact t8_ ao
    have R0:el_ f w.heap.size wo.heap.size (wo.alloc (.cells #[.int .i64 0,.int .i64 0,.int .i64 0,.int .i64 0,.int .i64 0,.int .i64 0,.int .i64 0,.int .i64 0] 174)) ps (.slice (some ⟨gp,0,none⟩) ps.length F) y z k (aa_ (m.tab ps).acc k) (b9_ (pn m.succ ps) k) (fun _=>0):=by
     refine⟨b.below ξ,⟨_,ο rfl,rfl,fun i hi=> ?_⟩,by have:=b.met.lt;omega,fun g u=> ?_,fun g u=>(b.own0.lt g u).2,fun g u=>(b.own1.lt g u).2⟩
     . rcases (show i=0\/i=1\/i=2\/i=3\/i=4\/i=5\/i=6\/i=7 by omega)with rfl|rfl|rfl|rfl|rfl|rfl|rfl|rfl<;>rfl
     . have:=(b.own2.lt g u).2;omega
    have j:Hid _:=d;have aS:=b.met.lt;clear b d B G A;go_wp2_with (go_at_call 173;refine Q.mono ?_;rintro e w' ⟨rfl,rfl⟩);clear K x0 Q;go_loopw [9,13,14] (fun vs c' _ wr=>∃(c:Nat) (a:List Nat),c<=8/\c'= .int .i64 c/\k<a.length/\Hid (a.getD k 0=q)/\Κ cw_.good m.succ a (8*k+c)/\el_ f w.heap.size wo.heap.size wr a vs y z k (aa_ (m.tab a).acc k) (b9_ (pn m.succ a) k) (fun c'=>if c'<c then pn m.succ a k c' else 0))
     (fun _ c' _ _=>8 - (intOf c').toNat)
    case atStart=>exact⟨0,ps,o_,rfl,s,l,j.out,R0.rcongr (fun x _=>i_)⟩
    case round=>
     clear R0 j l s ai aq;obtain⟨c,a,hc,rfl,s,l,d,b⟩:=hrel;have ai:=aj _ _ d;have aq:=d.len;have ac:=η af b.mem.blw;obtain⟨ap,F,rfl,B⟩:=Β b.mem.own2;obtain⟨O,rfl,G⟩:=B o_;have aU:=κ b.mem.blk;have A:=ah.out wr ac;by_cases ad:c<8
     . have x1:=A.blk.cell (i:=1+c) o_;rw[if_neg o_,show 1+c - 1=c by omega]at x1;have Z:=od_ N (rdr c) o_ (by have:=aJ c ad;omega);obtain⟨T,V⟩:=δ (N&&&rdr c);rw[V.out]at Z;have hT:T<2048:=by
        rw[<-V.out];have:N&&&rdr c<=N:=and_le_left;omega
       have E:Hid (m.succ (a.getD ((8*k+c)/8) 0) ((8*k+c)%8)=swp 1 T):=by
        unfold Hid;rw[show(8*k+c)/8=k by omega,show(8*k+c)%8=c by omega,l.out];unfold cw_.succ cw_.step;rw[J.out,az.out,ax.out,aA.out,R.out,V.out]
       have m0:=b.mem.met.cell (i:=T) o_;have r0:=b.rw.cell ad;have r1:=b.rw.frozen c;simp only[Nat.lt_irrefl,if_false]at r0;have t:=α b;have j:=α d;clear b d B G A ac;by_cases C:swp 1 T∈a
       . have M:ew_ a (swp 1 T)=a.idxOf (swp 1 T)+1:=by simp[ew_,C]
         have aI:=ix_ C;rw[M]at m0;obtain⟨ix,HX⟩:=δ (a.idxOf (swp 1 T));rw[HX.out]at m0 aI;have aM:Hid (pn m.succ a k c=ix):=by
          have:=E.out;rw[show(8*k+c)/8=k by omega,show(8*k+c)%8=c by omega]at this;unfold Hid pn;rw[this];exact HX.out
         have D:=α C;clear C M;go_wp2_with fail;go_roundw
         case rel=>
          have hm:m.succ (a.getD ((8*k+c)/8) 0) ((8*k+c)%8)∈a:=by rw[E.out];exact D.out
          have hn:=(t.out.old (c:=c) (v:=ix)).rcongr (r':=fun c'=>if c'<c+1 then pn m.succ a k c' else 0) (fun x _=>by
           by_cases e:x=c
           . subst e;simp[aM.out]
           . by_cases L:x<c
             . simp only[e,L,if_false,if_true];rw[if_pos o_]
             . simp only[e,L,if_false];rw[if_neg o_])
          exact⟨c+1,a,o_,by go_num,s,l,j.out.old o_ hm,hn⟩
         case measure=>exact c_
       . have M:ew_ a (swp 1 T)=0:=by simp[ew_,C]
         rw[M]at m0;have D:=α C;clear C M;have U:Hid (el_ f w.heap.size wo.heap.size (wr.alloc (.cells #[.int .i64 (T:Int)] 3)) a (.slice (some ⟨O,0,none⟩) a.length F) y z k (aa_ (m.tab a).acc k) (b9_ (pn m.succ a) k) (fun c'=>if c'<c then pn m.succ a k c' else 0)):=t.out.below ξ;have aK:=U.out.mem.own2;have hcells:Hid (ia_ a++ [.int .i64 (T:Int)]=ia_ (a++ [swp 1 T])):=by
          have:=abj_ a (swp 1 T);rw[oe_]at this;exact this
         have HG:Hid (∀g cap o,o.ownsRow (w.heap.size+1+1) 3 1 (.slice (some ⟨g,0,none⟩) (a.length+1) cap) (a.length+1) (ia_ a++ [.int .i64 (T:Int)])->
          (wr.alloc (.cells #[.int .i64 (T:Int)] 3)).grownBy o (Value.slice (some ⟨O,0,none⟩) a.length F).ownBlock->((Value.slice (some ⟨O,0,none⟩) a.length F).ownBlock=some g\/g=(wr.alloc (.cells #[.int .i64 (T:Int)] 3)).heap.size)->
          o.cell? ⟨w.heap.size+1,T,none⟩=some (.int .i64 0)/\o.frozen? ⟨w.heap.size+1,T,none⟩=false/\o.cell? ⟨wo.heap.size,c,none⟩=some (.int .i64 0)/\o.frozen? ⟨wo.heap.size,c,none⟩=false/\
          Hid (el_ f w.heap.size wo.heap.size ((o.setCell ⟨w.heap.size+1,T,none⟩ (.int .i64 ((a.length:Int)+1))).setCell ⟨wo.heap.size,c,none⟩ (.int .i64 (a.length:Int))) (a++ [swp 1 T]) (.slice (some ⟨g,0,none⟩) (a.length+1) cap) y z k (aa_ (m.tab a).acc k) (b9_ (pn m.succ a) k) (fun x=>if x=c then a.length else if x<c then pn m.succ a k x else 0))):=by
          intro g cap o ho u hf;rw[hcells.out]at ho;obtain⟨_,_,g3,_,_,g7,_⟩:=U.out.grown ho u hf;refine⟨?_,g3.frozen _, ?_,g7.frozen _,U.out.new D.out ho u hf⟩
          . rw[g3.cell o_];simp[ew_,D.out]
          . rw[g7.cell ad];simp
         go_wp2_with (at_builtin;refine Υ underlying24 aH aP aQ aR aK ?_;intro g cap o au am al;obtain⟨f0,f1,f2,f3,HN⟩:=HG.out g cap o au am al;clear au am al);go_roundw
         case rel=>
          have aL:m.succ (a.getD ((8*k+c)/8) 0) ((8*k+c)%8)∉a:=by rw[E.out];exact D.out
          have aF:cw_.good (m.succ (a.getD ((8*k+c)/8) 0) ((8*k+c)%8)):=by
           rw[E.out];exact ub_ o_ hT
          have ar:=j.out.new o_ aL aF;rw[E.out]at ar;have aN:pn m.succ (a++ [swp 1 T]) k c=a.length:=by
           have:=E.out;rw[show(8*k+c)/8=k by omega,show(8*k+c)%8=c by omega]at this;simp only[pn];rw[b8_ _ _ _ s,this,idxOf_append,if_neg D.out];simp
          have hn:=HN.out.rcongr (r':=fun c'=>if c'<c+1 then pn m.succ (a++ [swp 1 T]) k c' else 0) (fun x hx=>by
           by_cases e:x=c
           . subst e;simp[aN]
           . by_cases L:x<c
             . simp only[e,L,if_false,if_true];rw[if_pos o_,h7_ j.out k x hx o_]
             . simp only[e,L,if_false];rw[if_neg o_])
          rw[<-afi_ (m:=m) (q:=swp 1 T) o_,<-tt_ (X:=pn m.succ (a++ [swp 1 T])) (fun x c' hx hc'=>h7_ j.out x c' hc' o_)]at hn;exact⟨c+1,a++ [swp 1 T],o_,by go_num,s_,by unfold Hid;rw[b8_ _ _ _ s];exact l.out,ar,hn⟩
         case measure=>exact c_
     . have aE:c=8:=o_;subst aE;have K:=(G k o_).trans (ue_ a k s);rw[l.out,J.out]at K;have Z:=afj_ S lasts hS hL;obtain⟨ab,ag⟩:=δ (S&&&lasts !=0);rw[ag.out]at Z;have t:=α b;have j:=α d;have I:Hid (el_ f w.heap.size wo.heap.size wr.drew a (.slice (some ⟨O,0,none⟩) a.length F) y z k (aa_ (m.tab a).acc k) (b9_ (pn m.succ a) k) (fun c'=>if c'<8 then pn m.succ a k c' else 0)):=t.out.below (Below.refl wr.heap.size wr).drew;have f2:=t.out.rw;have c0:=f2.cell (i:=0) o_;have c1:=f2.cell (i:=1) o_;have c2:=f2.cell (i:=2) o_;have c3:=f2.cell (i:=3) o_;have c4:=f2.cell (i:=4) o_;have c5:=f2.cell (i:=5) o_;have c6:=f2.cell (i:=6) o_;have c7:=f2.cell (i:=7) o_;simp only[show(0:Nat)<8 from by decide,show(1:Nat)<8 from by decide,show(2:Nat)<8 from by decide,show(3:Nat)<8 from by decide,show(4:Nat)<8 from by decide,show(5:Nat)<8 from by decide,show(6:Nat)<8 from by decide,show(7:Nat)<8 from by decide,if_true]at c0 c1 c2 c3 c4 c5 c6 c7;have HA:=ts_ w.heap.size (w.heap.size+1+1) y z k _ _ ab (pn m.succ a k) wr.drew I.out.mem.blk I.out.mem.own0 I.out.mem.own1 o_ (by have:=I.out.mem.met.lt;omega) o_;unfold do_ at HA;clear b d B G A ac f2 t;go_wp2_with fail;go_region_with (go_at_call 138;refine HA.mono ?_;rintro e w6 ⟨rfl,aV,aW,f0,f1,f2,f3,_,_⟩;have F1:Hid _:=I.out.add f0 f1 f2 f3;clear f0 f1 f2 f3)
       all_goals
        go_wp2_with fail;go_roundw
        case rel=>
         have f1:=F1.out;have ea:aa_ (m.tab a).acc k++ [.bool ab]=aa_ (m.tab a).acc (k+1):=by
          simp only[aa_,cw_.tab];rw[l.out,J.out,ay.out,ag.out]
         have er:b9_ (pn m.succ a) k++ [(.int .i64 ((pn m.succ a k 0:Nat):Int)),(.int .i64 ((pn m.succ a k 1:Nat):Int)),(.int .i64 ((pn m.succ a k 2:Nat):Int)),(.int .i64 ((pn m.succ a k 3:Nat):Int)),(.int .i64 ((pn m.succ a k 4:Nat):Int)),(.int .i64 ((pn m.succ a k 5:Nat):Int)),(.int .i64 ((pn m.succ a k 6:Nat):Int)),(.int .i64 ((pn m.succ a k 7:Nat):Int))]=b9_ (pn m.succ a) (k+1):=by
          simp only[b9_];rfl
         rw[ea,er]at f1;exact⟨k+1,a,_,_,o_,by go_num,by rw[show 8*(k+1)=8*k+8 by omega];exact j.out,f1⟩
        case measure=>exact c_
  . have he:k=ps.length:=o_;subst he;obtain⟨y0,y1,_,_⟩:=β b.blk;obtain⟨aa,ca,rfl,aC⟩:=Β b.own0;obtain⟨an,cn,rfl,aD⟩:=Β b.own1;obtain⟨ga,rfl,_⟩:=aC d.len;obtain⟨gn,rfl,_⟩:=aD d.len;have t:Hid _:=b;have j:=α d;have av:Hid _:=y0;have aw:Hid _:=y1;clear b d B y0 y1;go_wp2_with fail;go_ret;have hp:=t.out;refine⟨ak,ps,w.heap.size,ga,ca,gn,cn,j.out,rfl,⟨av.out,aw.out,fun x hx=> ?_,fun x c hx hc=> ?_⟩⟩
    . have ae:x<ps.length:=hx;rw[hp.own0.cellAt x o_];exact n6_ _ _ _ ae
    . have ae:x<ps.length:=hx;rw[hp.own1.cellAt (x*8+c) o_];exact tw_ _ _ _ _ ae hc
end Go.Proofs.YtpngikmcjkjdaaaGreatDoor
