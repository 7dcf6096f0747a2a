import Derived.Test.YtpngikmcjkjdaaaGreatDoorG0
import Derived.Test.YtpngikmcjkjdaaaGreatDoorG11
import Derived.Test.YtpngikmcjkjdaaaGreatDoorG26
import Derived.Test.YtpngikmcjkjdaaaGreatDoorG29
import Derived.Test.YtpngikmcjkjdaaaGreatDoorG32
set_option linter.unusedVariables false
set_option linter.unusedSimpArgs false
set_option maxRecDepth 20000
set_option maxHeartbeats 80000000
namespace Go.Proofs.YtpngikmcjkjdaaaGreatDoor
open Go.RowKit Tryz
theorem ji_ (a:Int)(most:Nat)(w:World)(hm:most<=2)(ha: -9223372036854775808<=a/\a<=9223372036854775807):
 Calls prog 101 #[.int .i64 a,.int .i64 most] w fun e w'=>e= .returned (.int .i64 (min a ((most:Int)+1)))/\w=w':=by
 by_cases h:(most:Int)+1<a
 . rw[show min a ((most:Int)+1)=(most:Int)+1 by omega];go_enter func101,ntmps101;go_wp2
   go_ret;exact⟨rfl,rfl⟩
 . rw[show min a ((most:Int)+1)=a by omega];go_enter func101,ntmps101;go_wp2
   go_ret;exact⟨rfl,rfl⟩
theorem acp_ (s:ByteArray)(most:Nat)(w:World)(hs:s.size<=12)(hm:most<=2):
 Calls prog 63 #[.string s,.int .i64 most] w fun e w'=>Below w.heap.size w w'/\∃g cap,e= .returned (.slice (some ⟨g,0,none⟩) (s.size+1) cap)/\w'.ownsRow w.heap.size 3 1 (.slice (some ⟨g,0,none⟩) (s.size+1) cap) (s.size+1) (am_ (dc_ most) (s.size+1)):=by
 obtain⟨i3,hi3,hz3,hz31,hz32⟩:=info_parts du_;go_enter func63,ntmps63;go_wp2_with fail;go_loopw [5,6,7] (fun v j' _ wr=>∃j:Nat,j<=s.size+1/\j'= .int .i64 j/\Below w.heap.size w wr/\wr.ownsRow w.heap.size 3 1 v j (am_ (dc_ most) j))
  (fun _ j' _ _=>s.size+1 - (intOf j').toNat)
 case atStart=>exact⟨0,o_,rfl,br__,on__⟩
 case round=>
  obtain⟨j,hj,rfl,hb,hown⟩:=hrel;have hbs:=hb.size;by_cases hlt:j<=s.size
  . have hna:=hown.alloc (.cells #[.int .i64 (min (j:Int) ((most:Int)+1))] 3);have HB:Hid _:=hb;have HOW:Hid (∀x,(u5:Value).ownBlock=some x->w.heap.size<=x):=fun x e=>(hown.lt x e).1
    clear hb hown;go_wp2_with (first|(go_at_call 101;refine(ji_ _ _ _ hm o_).mono ?_;rintro e w' ⟨rfl,rfl⟩)|(at_builtin;refine ae_ _ rfl _ _ 96 rfl w.heap.size 3 i3 (.int .i64 0) 1 8 underlying96 hi3 hz3 hz31 hz32 rfl d_ _ j (am_ (dc_ most) j) rfl hna ⟨wr.heap.size,0,none⟩ 1 1 [.int .i64 (min (j:Int) ((most:Int)+1))] rfl rfl (cell_one_new _ _ _) (oc__ rfl) d_ u_ o_ s_ ?_;intro g cap w2 hown hgr hfr;have HO:Hid _:=hown;have HG:Hid _:=hgr;clear hown hgr hfr));go_roundw
    case rel=>
     have ho:=HO.out;rw[show(min (j:Int) ((most:Int)+1))=((dc_ most j:Nat):Int)by unfold dc_;omega,<-e3_]at ho;exact⟨j+1,o_,by go_num,(HB.out.alloc o_ _).grown HG.out s_ (fun x e=>HOW.out x e),ho⟩
    case measure=>simp[intOf];omega
  . have hle:¬(j:Int)<=(s.size:Int):=o_;have he:j=s.size+1:=o_;obtain⟨a,cap,rfl,hac⟩:=af_ hown;obtain⟨g,rfl,hcel⟩:=hac o_;subst he;have HB:Hid _:=hb;have HC:Hid (wr.ownsRow w.heap.size 3 1 (.slice (some ⟨g,0,none⟩) (s.size+1) cap) (s.size+1) (am_ (dc_ most) (s.size+1))):=hown;clear hown hb hac hcel;go_wp2_with fail;go_ret;exact⟨HB.out,g,cap,rfl,HC.out⟩
theorem uu_ (g g' n cap cap':Nat)(a b:Nat->Nat)(w:World)(hn:n<=100)(ha:ch_ w g n a)(hb:ch_ w g' n b):
 Calls prog 102 #[.slice (some ⟨g,0,none⟩) n cap,.slice (some ⟨g',0,none⟩) n cap'] w fun e w'=>e= .returned (.bool ((List.range n).all fun i=>a i==b i))/\Below w.heap.size w w':=by
 go_enter func102,ntmps102;go_wp2_with fail;go_loopw [5] (fun i' wr=>∃i:Nat,i<=n/\i'= .int .i64 i/\Below w.heap.size w wr/\∀j,j<i->a j=b j) (fun i' _=>n - (intOf i').toNat)
 case atStart=>exact⟨0,o_,rfl,br__,fun j hj=>absurd hj o_⟩
 case round=>
  obtain⟨i,hi,rfl,hbw,heq⟩:=hrel;by_cases hlt:i<n
  . have c0:=(hbw.cell (p:=⟨g,i,none⟩) (an_ (ha i hlt))).trans (ha i hlt);have c1:=(hbw.cell (p:=⟨g',i,none⟩) (an_ (hb i hlt))).trans (hb i hlt);have HE:Hid _:=heq;have HB:Hid _:=hbw;clear heq hbw;by_cases hab:a i=b i
    . have hb1:(((a i:Nat):Int) !=((b i:Nat):Int))=false:=by simp[hab]
      go_wp2_with fail;go_quiet (fail);go_wp2_with fail;go_roundw
      case rel=>
       refine⟨i+1,o_,by go_num,below_drewN HB.out nq,fun j hj=> ?_⟩;by_cases e:j=i
       . rw[e];exact hab
       . exact HE.out j o_
      case measure=>simp[intOf];omega
    . have hb1:(((a i:Nat):Int) !=((b i:Nat):Int))=true:=s_;go_wp2_with fail;go_quiet (fail);go_wp2_with fail;go_ret;refine⟨bh_ ?_,below_drewN HB.out nq⟩;symm
      rw[List.all_eq_false];exact⟨i,by simpa using hlt,by simpa using hab⟩
  . have he:i=n:=o_;subst he;go_wp2_with fail;go_ret;refine⟨bh_ ?_,hbw⟩;symm
    rw[List.all_eq_true];intro j hj;simpa using heq j (by simpa using hj)
theorem aeo_ (g cap:Nat)(r:Nat->Nat)(s:ByteArray)(most c:Nat)(w:World)(hs:s.size<=12)(hm:most<=2)(hc:c<8)(ht:ed_ s)(hr:∀i,i<=s.size->r i<=3)(ha:ch_ w g (s.size+1) r):
 Calls prog 64 #[.slice (some ⟨g,0,none⟩) (s.size+1) cap,.string s,.int .i64 most,.int .u8 (97+(c:Int))] w fun e w'=>Below w.heap.size w w'/\∃g cap,e= .returned (.slice (some ⟨g,0,none⟩) (s.size+1) cap)/\w'.ownsRow w.heap.size 3 1 (.slice (some ⟨g,0,none⟩) (s.size+1) cap) (s.size+1) (am_ (b0_ (ay_ s) most r c) (s.size+1)):=by
 obtain⟨i3,hi3,hz3,hz31,hz32⟩:=info_parts du_;have c0:=ha 0 o_;have h0:=hr 0 o_;go_enter func64,ntmps64;go_wp2_with (go_at_call 101;refine(ji_ _ _ _ hm o_).mono ?_;rintro e w' ⟨rfl,rfl⟩);have P0:(w.alloc (.cells #[.int .i64 (min (r 0:Int) (most:Int)+1)] 3)).ownsRow w.heap.size 3 1 (.slice (some ⟨w.heap.size,0,none⟩) 1 1) 1 (am_ (b0_ (ay_ s) most r c) 1):=by
  have h:=World.ownsRow_lit (base:=w.heap.size) (e:=3) (size:=1) w #[.int .i64 (min (r 0:Int) (most:Int)+1)] 1 lr__ d_ rfl;have e1:(#[Value.int .i64 (min (r 0:Int) (most:Int)+1)]:Array Value).toList=am_ (b0_ (ay_ s) most r c) 1:=by
   simp[am_,b0_];omega
  rw[e1]at h;exact h
 clear c0;go_loopw [10,11,12] (fun v j' _ wr=>∃j:Nat,j<=s.size/\j'= .int .i64 ((j:Int)+1)/\Below w.heap.size w wr/\wr.ownsRow w.heap.size 3 1 v (j+1) (am_ (b0_ (ay_ s) most r c) (j+1)))
  (fun _ j' _ _=>s.size+1 - (intOf j').toNat)
 case atStart=>exact⟨0,o_,rfl,br__.alloc lr__ _,P0⟩
 case round=>
  obtain⟨j,hj,rfl,hb,hown⟩:=hrel;clear P0;have hbs:=hb.size;obtain⟨a,cap',rfl,hac⟩:=af_ hown;obtain⟨go,rfl,hcel⟩:=hac o_;by_cases hlt:j<s.size
  . have hch:=jb_ ht j hlt;have hno:=qo_ hlt;have hgl:g<w.heap.size:=an_ (ha 0 o_);have c0:=(hb.cell (p:=⟨g,j,none⟩) hgl).trans (ha j o_);have c1:=(hb.cell (p:=⟨g,j+1,none⟩) hgl).trans (ha (j+1) o_);have c2:=hcel j o_;rw[show(am_ (b0_ (ay_ s) most r c) (j+1))[j]? =some (.int .i64 ((b0_ (ay_ s) most r c j:Nat):Int))by simp[am_]]at c2;have f0:=hr j o_;have f1:=hr (j+1) o_;have hnl:=nv_ (ay_ s) most r c j;have HS:Hid (b0_ (ay_ s) most r c (j+1)=min (min (min (r (j+1)+1) (b0_ (ay_ s) most r c j+1)) (if ay_ s j=c then r j else r j+1)) (most+1)):=rfl;obtain⟨hh,HH⟩:=hx__ (b0_ (ay_ s) most r c j);obtain⟨hn,HN⟩:=hx__ (b0_ (ay_ s) most r c (j+1));rw[HH.out]at c2 hnl HS;rw[HN.out]at HS;have hna:=fun v:Int=>hown.alloc (.cells #[.int .i64 v] 3)
    have HB:Hid _:=hb;have HOW:Hid (∀x,(Value.slice (some ⟨go,0,none⟩) (j+1) cap').ownBlock=some x->w.heap.size<=x):=fun x e=>(hown.lt x e).1
    have key:∀(w2:World) (vv:Value) (v:Int),v=((b0_ (ay_ s) most r c (j+1):Nat):Int)->w2.ownsRow w.heap.size 3 1 vv (j+1+1) (am_ (b0_ (ay_ s) most r c) (j+1)++ [.int .i64 v])->w2.ownsRow w.heap.size 3 1 vv (j+1+1) (am_ (b0_ (ay_ s) most r c) (j+1+1)):=by
     rintro w2 vv _ rfl h;rw[e3_];exact h
    clear hb hown hac hcel;by_cases hsame:ay_ s j=c
    . rw[if_pos hsame]at HS;have hb1:(((s[j].toNat:Int)) !=97+(c:Int))=false:=s_;go_wp2_with (first|(go_at_call 101;refine(ji_ _ _ _ hm o_).mono ?_;rintro e w' ⟨rfl,rfl⟩)|(at_builtin;refine ae_ _ rfl _ _ 96 rfl w.heap.size 3 i3 (.int .i64 0) 1 8 underlying96 hi3 hz3 hz31 hz32 rfl d_ _ (j+1) (am_ (b0_ (ay_ s) most r c) (j+1)) rfl (hna _) ⟨wr.heap.size,0,none⟩ 1 1 _ rfl rfl (cell_one_new _ _ _) (oc__ rfl) d_ u_ o_ s_ ?_;intro g2 cap2 w2 hown hgr hfr;have HO:Hid _:=hown;have HG:Hid _:=hgr;clear hown hgr hfr))
      all_goals go_roundw
      all_goals first
       |(simp[intOf];omega)
       |exact⟨j+1,o_,by go_num,(HB.out.alloc o_ _).grown HG.out s_ (fun x e=>HOW.out x e),key _ _ _ (by rw[HN.out];have:=HS.out;omega) HO.out⟩
    . rw[if_neg hsame]at HS;have hb1:(((s[j].toNat:Int)) !=97+(c:Int))=true:=s_;go_wp2_with (first|(go_at_call 101;refine(ji_ _ _ _ hm o_).mono ?_;rintro e w' ⟨rfl,rfl⟩)|(at_builtin;refine ae_ _ rfl _ _ 96 rfl w.heap.size 3 i3 (.int .i64 0) 1 8 underlying96 hi3 hz3 hz31 hz32 rfl d_ _ (j+1) (am_ (b0_ (ay_ s) most r c) (j+1)) rfl (hna _) ⟨wr.heap.size,0,none⟩ 1 1 _ rfl rfl (cell_one_new _ _ _) (oc__ rfl) d_ u_ o_ s_ ?_;intro g2 cap2 w2 hown hgr hfr;have HO:Hid _:=hown;have HG:Hid _:=hgr;clear hown hgr hfr))
      all_goals go_roundw
      all_goals first
       |(simp[intOf];omega)
       |exact⟨j+1,o_,by go_num,(HB.out.alloc o_ _).grown HG.out s_ (fun x e=>HOW.out x e),key _ _ _ (by rw[HN.out];have:=HS.out;omega) HO.out⟩
  . have hle:¬(j:Int)+1<=(s.size:Int):=o_;have he:j=s.size:=o_;subst he;have HB:Hid _:=hb;have HC:Hid (wr.ownsRow w.heap.size 3 1 (.slice (some ⟨go,0,none⟩) (s.size+1) cap') (s.size+1) (am_ (b0_ (ay_ s) most r c) (s.size+1))):=hown;clear hown hb hac hcel;go_wp2_with fail;go_ret;exact⟨HB.out,go,cap',rfl,HC.out⟩
theorem w7_ (X:Nat->Nat)(k i:Nat)(h:i<k):(am_ X k)[i]? =some (.int .i64 ((X i:Nat):Int)):=by simp[am_,h]
theorem k9_ {w:World}{base g n cap:Nat}{f:Nat->Nat}(h:w.ownsRow base 3 1 (.slice (some ⟨g,0,none⟩) n cap) n (am_ f n)):ch_ w g n f:=by
 intro i hi;rw[h.cellAt i o_];exact w7_ f n i hi
def eo_ (m:Nat)(R C:Nat->Nat)(k:Nat):List Value:=(List.range k).map fun i=> .slice (some ⟨R i,0,none⟩) m (C i)
theorem ti_ (m:Nat)(R C:Nat->Nat)(k:Nat):eo_ m R C (k+1)=eo_ m R C k++ [.slice (some ⟨R k,0,none⟩) m (C k)]:=by simp[eo_,List.range_succ]
theorem acq_ (g n cap m gr cr:Nat)(R C:Nat->Nat)(F:Nat->Nat->Nat)(f:Nat->Nat)(w:World)(hn:n<=100000000)(hm:m<=100)
 (hc:∀k,k<n->w.cell? ⟨g,k,none⟩=some (.slice (some ⟨R k,0,none⟩) m (C k))) (hF:∀k,k<n->ch_ w (R k) m (F k)) (hf:ch_ w gr m f):
 Calls prog 65 #[.slice (some ⟨g,0,none⟩) n cap,.slice (some ⟨gr,0,none⟩) m cr] w fun e w'=>Below w.heap.size w w'/\∃k,e= .returned (.int .i64 ((k:Nat):Int))/\k<=n/\(k<n->∀i,i<m->F k i=f i)/\∀j,j<k->∃i,i<m/\F j i≠f i:=by
 go_enter func65,ntmps65;go_wp2_with fail;go_loopw [5,6] (fun k' _ wr=>∃k:Nat,k<=n/\k'= .int .i64 k/\Below w.heap.size w wr/\∀j,j<k->∃i,i<m/\F j i≠f i) (fun k' _ _=>n - (intOf k').toNat)
 case atStart=>exact⟨0,o_,rfl,br__,fun j hj=>absurd hj o_⟩
 case round=>
  obtain⟨k,hk,rfl,hb,hno⟩:=hrel;by_cases hlt:k<n
  . have c0:=(hb.cell (p:=⟨g,k,none⟩) (an_ (hc k hlt))).trans (hc k hlt);have HC:=uu_ (R k) gr m (C k) cr (F k) f wr hm (fun i hi=>(hb.cell (p:=⟨R k,i,none⟩) (an_ (hF k hlt i hi))).trans (hF k hlt i hi)) (fun i hi=>(hb.cell (p:=⟨gr,i,none⟩) (an_ (hf i hi))).trans (hf i hi));obtain⟨bb,HBB⟩:=hx__ ((List.range m).all fun i=>F k i==f i);rw[HBB.out]at HC;have hbs:=hb.size;have HB:Hid _:=hb;have HN:Hid _:=hno;clear hb hno;go_wp2_with fail;refine HC.mono ?_;clear HC;rintro e w2 ⟨rfl,hB2⟩;have HB2:Hid _:=HB.out.trans (hB2.mono hbs);clear hB2 HB c0;cases bb
    . go_wp2_with fail;go_roundw
      case rel=>
       refine⟨k+1,o_,by go_num,HB2.out,fun j hj=> ?_⟩;by_cases e:j=k
       . subst e;have:=HBB.out;rw[List.all_eq_false]at this;obtain⟨i,hi,hne⟩:=this;exact⟨i,by simpa using hi,by simpa using hne⟩
       . exact HN.out j o_
      case measure=>simp[intOf];omega
    . go_wp2_with fail;go_ret;refine⟨HB2.out,k,rfl,o_,fun _ i hi=> ?_,HN.out⟩;have:=HBB.out;rw[List.all_eq_true]at this;simpa using this i (by simpa using hi)
  . have he:k=n:=o_;subst he;go_wp2_with fail;go_ret;exact⟨hb,k,rfl,lr__,fun h'=>absurd h' o_,hno⟩
structure ck_ (W:World)(B b:Nat)(w:World)(m n:Nat)(F:Nat->Nat->Nat)(SR SC:Nat->Nat)(vs va vn:Value)(ka kn:Nat)(A:Nat->Bool)(R C:Nat->Nat)(X:Nat->Nat->Nat):Prop where
 blw:Below B W w
 own:w.ownsRow B 96 1 vs n (eo_ m SR SC n)
 rws:∀i,i<n->w.ownsRow B 3 1 (.slice (some ⟨SR i,0,none⟩) m (SC i)) m (am_ (F i) m)
 bm:au_ w b w va vn ka kn A R C X
 hb:B<=b
structure b7_ (W:World)(B b:Nat)(w:World)(m n:Nat)(F:Nat->Nat->Nat)(SR SC:Nat->Nat)(vs va vn vr:Value)(ka kn c:Nat)(A:Nat->Bool)(R C:Nat->Nat)(X:Nat->Nat->Nat):Prop where
 mem:ck_ W B b w m n F SR SC vs va vn ka kn A R C X
 row:w.ownsRow (b+1) 3 1 vr c (am_ (X kn) c)
 dr:∀i,i<kn->vr.ownBlock≠some (R i)
 ds:∀i,i<n->vr.ownBlock≠some (SR i)
section
variable {W:World} {B b:Nat} {w w1 w2:World} {m n:Nat} {F:Nat->Nat->Nat} {SR SC:Nat->Nat} {vs va vn vr:Value} {ka kn c:Nat} {A:Nat->Bool} {R C:Nat->Nat} {X:Nat->Nat->Nat}
theorem ck_.siz (h:ck_ W B b w m n F SR SC vs va vn ka kn A R C X):b<w.heap.size:=ac_ h.bm.two.blk
theorem ck_.below (h:ck_ W B b w m n F SR SC vs va vn ka kn A R C X)(hb:Below w.heap.size w w1):ck_ W B b w1 m n F SR SC vs va vn ka kn A R C X:=
 ⟨h.blw.trans (hb.mono (by have:=h.siz;have:=h.hb;omega)),al_ h.own hb,fun i hi=>al_ (h.rws i hi) hb,(h.bm.below hb).rebase,h.hb⟩
theorem b7_.below (h:b7_ W B b w m n F SR SC vs va vn vr ka kn c A R C X)(hb:Below w.heap.size w w1):b7_ W B b w1 m n F SR SC vs va vn vr ka kn c A R C X:=
 ⟨h.mem.below hb,al_ h.row hb,h.dr,h.ds⟩
theorem ck_.congr (h:ck_ W B b w m n F SR SC vs va vn ka kn A R C X){A':Nat->Bool}{X':Nat->Nat->Nat}(ha:∀i,i<ka->A i=A' i)(hx:∀i c,i<kn->c<8->X i c=X' i c):ck_ W B b w m n F SR SC vs va vn ka kn A' R C X':=
 ⟨h.blw,h.own,h.rws,h.bm.congr ha hx,h.hb⟩
theorem b7_.congr (h:b7_ W B b w m n F SR SC vs va vn vr ka kn c A R C X){A':Nat->Bool}{X':Nat->Nat->Nat}(ha:∀i,i<ka->A i=A' i)(hx:∀i c,i<kn->c<8->X i c=X' i c)(hr:∀d,d<c->X kn d=X' kn d):b7_ W B b w m n F SR SC vs va vn vr ka kn c A' R C X':=
 ⟨h.mem.congr ha hx,by have:=h.row;rw[e8_ hr]at this;exact this,h.dr,h.ds⟩
theorem ck_.fcongr (h:ck_ W B b w m n F SR SC vs va vn ka kn A R C X){F':Nat->Nat->Nat}(hf:∀i c,i<n->c<m->F i c=F' i c):ck_ W B b w m n F' SR SC vs va vn ka kn A R C X:=
 ⟨h.blw,h.own,fun i hi=>by have:=h.rws i hi;rw[e8_ (fun c hc=>hf i c hi hc)]at this;exact this,h.bm,h.hb⟩
theorem b7_.fcongr (h:b7_ W B b w m n F SR SC vs va vn vr ka kn c A R C X){F':Nat->Nat->Nat}(hf:∀i c,i<n->c<m->F i c=F' i c):b7_ W B b w m n F' SR SC vs va vn vr ka kn c A R C X:=
 ⟨h.mem.fcongr hf,h.row,h.dr,h.ds⟩
theorem ck_.row0 (h:ck_ W B b w m n F SR SC vs va vn ka kn A R C X):b7_ W B b w m n F SR SC vs va vn (.slice none 0 0) ka kn 0 A R C X:=
 ⟨h,on__,by intro i _ e;simp[Value.ownBlock]at e,by intro g _ e;simp[Value.ownBlock]at e⟩
theorem ck_.acc (h:ck_ W B b w m n F SR SC vs va vn ka kn A R C X){g cap:Nat}(hown:w2.ownsRow (b+1) 4 1 (.slice (some ⟨g,0,none⟩) (ka+1) cap) (ka+1) (a0_ A ka++ [.bool (A ka)]))(hg:w.grownBy w2 va.ownBlock)(hf:va.ownBlock=some g\/g=w.heap.size):
 ck_ W B b (w2.setCell ⟨b,0,none⟩ (.slice (some ⟨g,0,none⟩) (ka+1) cap)) m n F SR SC vs (.slice (some ⟨g,0,none⟩) (ka+1) cap) vn (ka+1) kn A R C X:=by
 have hs:=h.siz;have hB:=h.hb;have h0:=h.bm.two.own0;have hown':=d5_ h.own h0 d_ hg;have hblk:=h.bm.two.grown0 hg;refine⟨(h.blw.grown hg o_ (fun k e=>by have:=(h0.lt k e).1;omega)).setCell s_ _,bb_ hown' _ _ (fun g' hg'=>j7_ hown' hblk d_ g' hg'),fun i hi=> ?_,(h.bm.acc hown hg hf).rebase,h.hb⟩;have hr:=d5_ (h.rws i hi) h0 d_ hg;exact bb_ hr _ _ (fun g' hg'=>j7_ hr hblk d_ g' hg')
theorem b7_.put (h:b7_ W B b w m n F SR SC vs va vn vr ka kn c A R C X){g cap:Nat}(hown:w2.ownsRow (b+1) 3 1 (.slice (some ⟨g,0,none⟩) (c+1) cap) (c+1) (am_ (X kn) c++ [.int .i64 ((X kn c:Nat):Int)]))(hg:w.grownBy w2 vr.ownBlock)(hf:vr.ownBlock=some g\/g=w.heap.size):
 b7_ W B b w2 m n F SR SC vs va vn (.slice (some ⟨g,0,none⟩) (c+1) cap) ka kn (c+1) A R C X:=by
 have hm:=h.mem;have hs:=hm.siz;have hB:=hm.hb;rw[<-e3_]at hown;refine⟨⟨hm.blw.grown hg o_ (fun k e=>by have:=(h.row.lt k e).1;omega),d5_ hm.own h.row d_ hg,fun i hi=>ww_ (hm.rws i hi) (fun g' h1 h2=>h.ds i hi (by rw[h2];exact h1.symm)) hg,(hm.bm.grown h.row h.dr hg).rebase,hm.hb⟩,hown, ?_, ?_⟩
 . intro i hi e;simp only[Value.ownBlock,Option.some.injEq]at e;rcases hf with hf|hf
   . exact h.dr i hi (by rw[hf,e])
   . have:=((hm.bm.rows i hi).lt (R i) rfl).2;omega
 . intro i hi e;simp only[Value.ownBlock,Option.some.injEq]at e;rcases hf with hf|hf
   . exact h.ds i hi (by rw[hf,e])
   . have:=((hm.rws i hi).lt (SR i) rfl).2;omega
theorem b7_.state (h:b7_ W B b w m n F SR SC vs va vn vr ka kn c A R C X){g cap gs cs:Nat}(hnew:w.ownsRow B 3 1 (.slice (some ⟨gs,0,none⟩) m cs) m (am_ (F n) m))(hfr:vr.ownBlock≠some gs)
 (hown:w2.ownsRow B 96 1 (.slice (some ⟨g,0,none⟩) (n+1) cap) (n+1) (eo_ m SR SC n++ [.slice (some ⟨gs,0,none⟩) m cs])) (hg:w.grownBy w2 vs.ownBlock):
 b7_ W B b w2 m (n+1) F (fun i=>if i=n then gs else SR i) (fun i=>if i=n then cs else SC i) (.slice (some ⟨g,0,none⟩) (n+1) cap) va vn vr ka kn c A R C X:=by
 have hm:=h.mem;have hs:=hm.siz;have hB:=hm.hb;have es:eo_ m SR SC n++ [.slice (some ⟨gs,0,none⟩) m cs]=eo_ m (fun i=>if i=n then gs else SR i) (fun i=>if i=n then cs else SC i) (n+1):=by
  rw[ti_];congr 1
  . simp only[eo_];apply List.map_congr_left;intro i hi;have:i<n:=by simpa using hi
    rw[if_neg o_,if_neg o_]
  . simp
 rw[es]at hown;refine⟨⟨hm.blw.grown hg o_ (fun k e=>(hm.own.lt k e).1),hown,fun i hi=> ?_, ?_,hm.hb⟩,d5_ h.row hm.own d_ hg,h.dr,fun i hi=> ?_⟩
 . by_cases e:i=n
   . subst e;simp only[if_true];exact d5_ hnew hm.own d_ hg
   . simp only[if_neg e];exact d5_ (hm.rws i o_) hm.own d_ hg
 . have hbm:=hm.bm;refine⟨⟨br__, ?_,d5_ hbm.two.own0 hm.own d_ hg,d5_ hbm.two.own1 hm.own d_ hg,hbm.two.dis⟩,fun i hi=>d5_ (hbm.rows i hi) hm.own d_ hg⟩;rw[hg.block b hs (fun e=>j7_ hm.own hbm.two.blk d_ b e.symm rfl)];exact hbm.two.blk
 . by_cases e:i=n
   . subst e;simp only[if_true];exact hfr
   . simp only[if_neg e];exact h.ds i o_
theorem b7_.done {gr cr:Nat}(h:b7_ W B b w m n F SR SC vs va vn (.slice (some ⟨gr,0,none⟩) 8 cr) ka kn 8 A R C X){g cap:Nat}
 (hown:w2.ownsRow (b+1) 24 1 (.slice (some ⟨g,0,none⟩) (kn+1) cap) (kn+1) (eb_ R C kn++ [.slice (some ⟨gr,0,none⟩) 8 cr])) (hg:w.grownBy w2 vn.ownBlock) (hf:vn.ownBlock=some g\/g=w.heap.size):
 ck_ W B b (w2.setCell ⟨b,1,none⟩ (.slice (some ⟨g,0,none⟩) (kn+1) cap)) m n F SR SC vs va (.slice (some ⟨g,0,none⟩) (kn+1) cap) ka (kn+1) A (fun i=>if i=kn then gr else R i) (fun i=>if i=kn then cr else C i) X:=by
 have hm:=h.mem;have hs:=hm.siz;have hB:=hm.hb;have h1:=hm.bm.two.own1;have hown':=d5_ hm.own h1 d_ hg;have hblk:=hm.bm.two.grown1 hg;refine⟨(hm.blw.grown hg o_ (fun k e=>by have:=(h1.lt k e).1;omega)).setCell s_ _,bb_ hown' _ _ (fun g' hg'=>j7_ hown' hblk d_ g' hg'),fun i hi=> ?_,(hm.bm.nxt h.row hown hg hf).rebase,hm.hb⟩;have hr:=d5_ (hm.rws i hi) h1 d_ hg;exact bb_ hr _ _ (fun g' hg'=>j7_ hr hblk d_ g' hg')
end
theorem acr_ {w:World}{base base' e s n:Nat}{v:Value}{x:List Value}(h:w.ownsRow base e s v n x)(hb:base'<=base):w.ownsRow base' e s v n x:=by
 refine⟨h.1, ?_⟩;rcases h.2 with h2|⟨g,cap,cur,h3,h4,h5⟩
 . exact .inl h2
 . exact .inr ⟨g,cap,cur,h3,Nat.le_trans hb h4,h5⟩
theorem zx_ {E:Ear}(hm:E.most<=2){qs:List Nat}{r p q':Nat}(hR:PRel E.good E.succ qs r)(hq':E.good q')(hp:p<qs.length)(h:∀i,i<E.m+1->E.row (qs.getD p 0) i=E.row q' i):q'∈qs/\qs.idxOf q'=p:=by
 have e:=Ear.row_inj hm (hR.inr _ (ds_ qs p hp)) hq' (fun i hi=>h i o_);have hmem:q'∈qs:=by rw[<-e];exact ds_ qs p hp
 refine⟨hmem, ?_⟩;have h1:=List.idxOf_lt_length_of_mem hmem;have h3:qs[p]'hp=q':=by rw[<-e,List.getD_eq_getElem?_getD,List.getElem?_eq_getElem hp];rfl
 have h4:qs[qs.idxOf q']'h1=q':=by simp[List.getElem_idxOf]
 exact(List.getElem_inj hR.nd).1 (h4.trans h3.symm)
theorem zy_ {E:Ear}{qs:List Nat}{q' m:Nat}(h:∀j,j<qs.length->∃i,i<m/\E.row (qs.getD j 0) i≠E.row q' i):q'∉qs:=by
 intro hmem;obtain⟨i,hi,hne⟩:=h _ (List.idxOf_lt_length_of_mem hmem);rw[e1_ qs q' hmem]at hne;exact hne rfl
theorem acs_ {E:Ear}{ps:List Nat}{q i:Nat}(hi:i<ps.length):(E.tab ps).acc i=(E.tab (ps++ [q])).acc i:=by simp only[Ear.tab];rw[ce_ _ _ _ hi]
theorem aep_:(prog.info? 96).map (fun i=>(i.zero,i.size,i.bytes))=some (some (.slice none 0 0),1,24):=k_
theorem o0_ (s:ByteArray)(most budget:Nat)(w:World)(hs:s.size<=12)(hm:most<=2)(ht:ed_ s)(hb0:1<=budget)(hb1:budget<=40):
 Calls prog 28 #[.string s,.int .i64 most,.int .i64 budget] w
  (afa_ (Ear.lang ⟨ay_ s,s.size,most⟩) budget w):=by
 obtain⟨i3,hi3,hz3,hz31,hz32⟩:=info_parts du_;obtain⟨i4,hi4,hz4,hz41,hz42⟩:=info_parts fa_;obtain⟨iR,hiR,hzR,hzR1,hzR2⟩:=info_parts ke_;obtain⟨iS,hiS,hzS,hzS1,hzS2⟩:=info_parts aep_;obtain⟨E,HE⟩:∃E:Ear,Hid (E=⟨ay_ s,s.size,most⟩):=⟨_,rfl⟩;have hEm:E.most<=2:=by rw[HE.out];exact hm
 have hE12:E.m<=12:=by rw[HE.out];exact hs
 have HT:=fun w=>gt_ s 12 w u_ o_
 rw[show(decide (s.size<=12)&&ba_ s s.size)=true by simp[hs,(ek_ s).2 ht]]at HT;have HBU:=fun w=>hg_ (budget:Int) w
 rw[show(decide (1<=(budget:Int))&&decide ((budget:Int)<=40))=true by simp;omega]at HBU;have HST:=fun w=>acp_ s most w hs hm
 go_enter func28,ntmps28;go_wp2_with (first|(go_at_call 61;refine(HT _).mono ?_;rintro e w' ⟨rfl,rfl⟩)|(go_at_call 62;refine(HBU _).mono ?_;rintro e w' ⟨rfl,rfl⟩)|(go_at_call 63;refine(HST _).mono ?_;rintro e w1 ⟨hB1,gs,cs,rfl,hO1⟩));have hEs:E.m=s.size:=by rw[HE.out]
 have hEo:E.most=most:=by rw[HE.out]
 have hEt:E.t=ay_ s:=by rw[HE.out]
 obtain⟨W,hW,BW,-,-⟩:=nw__ w #[.slice none 0 0,.slice none 0 0] 41;have hWs:W.heap.size=w.heap.size+1:=by rw[hW];simp
 have b0:=hn__ hW;rw[<-hW]at hB1 hO1;clear hW HT HBU HST;have hs1:=hB1.size;rw[hWs]at hO1;have P0:ck_ W (w.heap.size+1) (w1.heap.size+1) ((w1.alloc (.cells #[.slice (some ⟨gs,0,none⟩) (s.size+1) cs] 96)).alloc (.cells #[.slice none 0 0,.slice none 0 0] 41)) (s.size+1) [0].length (fun i c=>E.row ([0].getD i 0) c) (fun _=>gs) (fun _=>cs) (.slice (some ⟨w1.heap.size,0,none⟩) 1 1) (.slice none 0 0) (.slice none 0 0) 0 0 (E.tab [0]).acc (fun _=>0) (fun _=>0) (pn E.succ [0]):=by
  refine⟨((hB1.mono o_).alloc o_ _).alloc s_ _, ?_,fun i hi=> ?_,au_.start br__ (ag_ i_),o_⟩
  . have h:=World.ownsRow_lit (base:=(w.heap.size+1)) (e:=96) (size:=1) w1 #[.slice (some ⟨gs,0,none⟩) (s.size+1) cs] 1 o_ d_ rfl;have h2:=h.alloc (.cells #[.slice none 0 0,.slice none 0 0] 41);exact h2
  . have hi0:i=0:=by simpa using hi
    subst hi0;have h:=(hO1.alloc (.cells #[.slice (some ⟨gs,0,none⟩) (s.size+1) cs] 96)).alloc (.cells #[.slice none 0 0,.slice none 0 0] 41);rw[e8_ (Y:=fun c=>E.row 0 c) (fun c hc=>by rw[<-hEo];exact(Ear.row_zero hEm o_).symm)]at h;exact h
 clear hO1;have hbig:∀qs r,PRel E.good E.succ qs r->qs.length<=67108864:=fun qs r h=>Ear.bound hE12 h
 go_loopw [9,11,12,13,14,15] (fun vs k' _ _ _ _ wr=>∃(k:Nat) (ps:List Nat) (SR SC:Nat->Nat) (va vn:Value) (R C:Nat->Nat),k<=ps.length/\k'= .int .i64 k/\PRel E.good E.succ ps (8*k)/\ck_ W (w.heap.size+1) (w1.heap.size+1) wr (s.size+1) ps.length (fun i c=>E.row (ps.getD i 0) c) SR SC vs va vn k k (E.tab ps).acc R C (pn E.succ ps))
  (fun _ k' _ _ _ _ _=>67108864 - (intOf k').toNat)
 case atStart=>exact⟨0,[0],_,_,_,_,_,_,i_,rfl,PRel.start Ear.good_zero,P0⟩
 case round=>
  obtain⟨k,ps,SR,SC,va,vn,R,C,hk,rfl,hR,hP⟩:=hrel;clear P0;have hbd:=hbig _ _ hR;have hlen:=hR.len;have hbw:Below w.heap.size w wr:=BW.trans (hP.blw.mono o_);obtain⟨y0,y1,z0,z1⟩:=aa_ hP.bm.two.blk;obtain⟨ap,cp,rfl,hap⟩:=af_ hP.own;obtain⟨gp,rfl,hcp⟩:=hap o_;have hszs:=hP.siz;by_cases hlt:k<ps.length
  . have c0:=(hcp k o_).trans (show(eo_ (s.size+1) SR SC ps.length)[k]? =some (.slice (some ⟨SR k,0,none⟩) (s.size+1) (SC k))by simp[eo_,hlt]);have c1:=k9_ (hP.rws k hlt) s.size o_;obtain⟨q,HQ⟩:=hx__ (ps.getD k 0);try simp only at c1
    rw[HQ.out]at c1;obtain⟨tv,HTV⟩:=hx__ (E.row q s.size);rw[HTV.out]at c1;have HAK:Hid ((E.tab ps).acc k=decide (tv<=most)):=by
     unfold Hid Ear.tab;simp only;rw[HQ.out,hEs,hEo,HTV.out]
    have HP:Hid (ck_ W (w.heap.size+1) (w1.heap.size+1) wr (s.size+1) ps.length (fun i c=>E.row (ps.getD i 0) c) SR SC (.slice (some ⟨gp,0,none⟩) ps.length cp) va vn k k (E.tab ps).acc R C (pn E.succ ps)):=hP;have HR:Hid (PRel E.good E.succ ps (8*k)):=hR;clear hP hR hap hcp;obtain⟨bb,HBB⟩:=hx__ (decide (tv<=most));have hb1':=HBB.out;rw[HBB.out]at HAK;have HBa:Hid (ck_ W (w.heap.size+1) (w1.heap.size+1) ((wr.alloc (.cells #[.bool bb] 4)).drew) (s.size+1) ps.length (fun i c=>E.row (ps.getD i 0) c) SR SC (.slice (some ⟨gp,0,none⟩) ps.length cp) va vn k k (E.tab ps).acc R C (pn E.succ ps)):=HP.out.below (ba__.drew);have hna:=HBa.out.bm.two.own0;have HACC:Hid (∀g cap' w2,w2.ownsRow ((w1.heap.size+1)+1) 4 1 (.slice (some ⟨g,0,none⟩) (k+1) cap') (k+1) (a0_ (E.tab ps).acc k++ [.bool bb])->
     ((wr.alloc (.cells #[.bool bb] 4)).drew).grownBy w2 va.ownBlock->(va.ownBlock=some g\/g=wr.heap.size+1)->
     ck_ W (w.heap.size+1) (w1.heap.size+1) (w2.setCell ⟨(w1.heap.size+1),0,none⟩ (.slice (some ⟨g,0,none⟩) (k+1) cap')) (s.size+1) ps.length (fun i c=>E.row (ps.getD i 0) c) SR SC (.slice (some ⟨gp,0,none⟩) ps.length cp) (.slice (some ⟨g,0,none⟩) (k+1) cap') vn (k+1) k (E.tab ps).acc R C (pn E.succ ps)):=by
     intro g cap' w2 ho hg hf;rw[<-HAK.out]at ho;refine HBa.out.acc ho hg ?_;rcases hf with hf|hf
     . exact .inl hf
     . right;rw[hf];simp
    have hs14:(s.size:Int)<(s.size:Int)+1:=o_;have hk14:(k:Int)<(ps.length:Int):=o_;have hnp:¬(s.size:Int)<0:=o_;go_upto_region 12 with fail;go_cut [57] (fun _ wc=>∃va',Hid (ck_ W (w.heap.size+1) (w1.heap.size+1) wc (s.size+1) ps.length (fun i c=>E.row (ps.getD i 0) c) SR SC (.slice (some ⟨gp,0,none⟩) ps.length cp) va' vn (k+1) k (E.tab ps).acc R C (pn E.succ ps)))
    case first=>
     go_region_law
      ((refine step_append_lies _ (by rfl) _ _ _ (by rfl) ((w1.heap.size+1)+1) 4 i4 (.bool false) 1 1 underlying38 hi4 hz4 hz41 hz42 rfl d_ va k (a0_ (E.tab ps).acc k) (by rfl) hna ⟨wr.heap.size,0,none⟩ 1 1 [.bool bb] (by rfl) (by rfl) (cell_one_new _ _ _) (oc__ rfl) d_ u_ o_ s_ (wr.heap.size+1) i_ ?_;intro g cap' w2 hown hgr hfr hlt2;obtain⟨f0',f1',f2',f3'⟩:=aa_ (HBa.out.bm.two.grown0 hgr);have HFR:Hid _:=hfr;clear hfr))
     all_goals go_wp2_with fail
     all_goals go_meet
     all_goals exact⟨_,HACC.out g cap' w2 hown hgr HFR.out⟩
    case rest=>
     obtain⟨va',hB'⟩:=hcut;clear HACC HBa hna y0 y1 z0 z1 hbw c0 c1 HP hb1';have R0:=hB'.out.row0;have HGQ:Hid (E.good q):=by unfold Hid;rw[<-HQ.out];exact HR.out.inr _ (ds_ ps k hlt)
     go_wp2_with fail;clear hB';go_loopw [9,12,13,14,15] (fun vs vr c' _ _ wr=>∃(c:Nat) (qs:List Nat) (SR SC:Nat->Nat),c<=8/\c'= .int .i64 c/\k<qs.length/\Hid (qs.getD k 0=q)/\PRel E.good E.succ qs (8*k+c)/\b7_ W (w.heap.size+1) (w1.heap.size+1) wr (s.size+1) qs.length (fun i c=>E.row (qs.getD i 0) c) SR SC vs va' vn vr (k+1) k c (E.tab qs).acc R C (pn E.succ qs))
      (fun _ _ c' _ _ _=>8 - (intOf c').toNat)
     case atStart=>exact⟨0,ps,SR,SC,o_,rfl,hlt,HQ,HR.out,R0⟩
     case round=>
      clear R0 HR HQ hlt hbd hlen hszs HAK HBB HTV hs14 hk14 hnp;obtain⟨c,qs,SR,SC,hc,rfl,hlt,HQ,hR,hP⟩:=hrel;have hbd:=hbig _ _ hR;have hlen:=hR.len;obtain⟨ap,cp,rfl,hap⟩:=af_ hP.mem.own;obtain⟨gq,rfl,hcp⟩:=hap o_;have hszs:=hP.mem.siz;have hce:∀i,i<qs.length->wr.cell? ⟨gq,i,none⟩=some (.slice (some ⟨SR i,0,none⟩) (s.size+1) (SC i)):=fun i hi=>(hcp i o_).trans (by simp[eo_,hi])
      have hna:=fun i hi=>k9_ (hP.mem.rws i hi)
      by_cases hl8:c<8
      . have c0:=hce k hlt;have hrow:=hna k hlt;simp only[HQ.out]at hrow;have HC:=aeo_ (SR k) (SC k) (E.row q) s most c wr hs hm hl8 ht (fun i _=>by have:=E.row_lt q i;omega) hrow;rw[e8_ (Y:=E.row (E.succ q c)) (fun i hi=>by rw[<-hEt,<-hEo];exact(Ear.row_succ hEm q c o_).symm)]at HC;have hk14:(k:Int)<(qs.length:Int):=o_;have hc8:(c:Int)<8:=o_;have HCE:Hid _:=hce;have HNA:Hid _:=hna;have HP:Hid (b7_ W (w.heap.size+1) (w1.heap.size+1) wr (s.size+1) qs.length (fun i c=>E.row (qs.getD i 0) c) SR SC (.slice (some ⟨gq,0,none⟩) qs.length cp) va' vn u12 (k+1) k c (E.tab qs).acc R C (pn E.succ qs)):=hP;have HR:Hid (PRel E.good E.succ qs (8*k+c)):=hR;clear hP hR hap hcp hce hna hrow;go_wp2_with fail;refine HC.mono ?_;clear HC;rintro e w3 ⟨hB3,g3,cap3,rfl,hO3⟩;have hs3:=hB3.size;have hP3:=HP.out.below hB3;have HC2:=acq_ gq qs.length cp (s.size+1) g3 cap3 SR SC (fun i c=>E.row (qs.getD i 0) c) (E.row (E.succ q c)) w3 o_ o_ (fun i hi=>(hB3.cell (p:=⟨gq,i,none⟩) (an_ (HCE.out i hi))).trans (HCE.out i hi)) (fun i hi=>k9_ (hP3.mem.rws i hi)) (k9_ hO3);have HP3:Hid (b7_ W (w.heap.size+1) (w1.heap.size+1) w3 (s.size+1) qs.length (fun i c=>E.row (qs.getD i 0) c) SR SC (.slice (some ⟨gq,0,none⟩) qs.length cp) va' vn u12 (k+1) k c (E.tab qs).acc R C (pn E.succ qs)):=hP3;have HO3:Hid (w3.ownsRow wr.heap.size 3 1 (.slice (some ⟨g3,0,none⟩) (s.size+1) cap3) (s.size+1) (am_ (E.row (E.succ q c)) (s.size+1))):=hO3;have HV3:Hid ((u12:Value).ownBlock≠some g3):=fun e=>by have:=(HP.out.row.lt _ e).2;have:=(hO3.lt g3 rfl).1;omega
        clear hP3 hO3 hB3 HCE HNA HP c0;go_wp2_with fail;refine HC2.mono ?_;clear HC2;rintro e w5 ⟨hB5,pp,rfl,hpn,hyes,hno⟩;have hs5:=hB5.size;have hP5:=HP3.out.below hB5;have HP5:Hid (b7_ W (w.heap.size+1) (w1.heap.size+1) w5 (s.size+1) qs.length (fun i c=>E.row (qs.getD i 0) c) SR SC (.slice (some ⟨gq,0,none⟩) qs.length cp) va' vn u12 (k+1) k c (E.tab qs).acc R C (pn E.succ qs)):=hP5;have HO5:Hid (w5.ownsRow (w.heap.size+1) 3 1 (.slice (some ⟨g3,0,none⟩) (s.size+1) cap3) (s.size+1) (am_ (E.row (E.succ q c)) (s.size+1))):=acr_ (al_ HO3.out hB5) o_;have hsz5:=hP5.mem.siz;have HSQ:Hid (E.succ (qs.getD ((8*k+c)/8) 0) ((8*k+c)%8)=E.succ q c):=by
         unfold Hid;rw[show(8*k+c)/8=k by omega,show(8*k+c)%8=c by omega,HQ.out]
        have HGS:Hid (E.good (E.succ q c)):=Ear.succ_good hEm q c;clear hP5 HP3 HO3 hB5;by_cases hlp:pp<qs.length
        . have hold:=zx_ hEm HR.out HGS.out hlp (fun i hi=>hyes hlp i o_);have hpb:((pp:Int)==(qs.length:Int))=false:=by rw[beq_eq_false_iff_ne];omega
          have HOL:Hid _:=hold;clear hold hyes hno;have HPa:Hid (b7_ W (w.heap.size+1) (w1.heap.size+1) (w5.alloc (.cells #[.int .i64 (pp:Int)] 3)) (s.size+1) qs.length (fun i c=>E.row (qs.getD i 0) c) SR SC (.slice (some ⟨gq,0,none⟩) qs.length cp) va' vn u12 (k+1) k c (E.tab qs).acc R C (pn E.succ qs)):=HP5.out.below ba__;have hna:=HPa.out.row;go_wp2_with (at_builtin;refine ae_ _ rfl _ _ 24 rfl ((w1.heap.size+1)+1) 3 i3 (.int .i64 0) 1 8 underlying24 hi3 hz3 hz31 hz32 rfl d_ _ c (am_ (pn E.succ qs k) c) rfl hna ⟨w5.heap.size,0,none⟩ 1 1 [.int .i64 (pp:Int)] rfl rfl (cell_one_new _ _ _) (oc__ rfl) d_ u_ o_ s_ ?_;intro g7 cap7 w7 hown hgr hfr;have HO:Hid _:=hown;have HG:Hid _:=hgr;have HFR:Hid _:=hfr;clear hown hgr hfr);go_roundw
          case rel=>
           have hpnc:pn E.succ qs k c=pp:=by
            unfold pn;rw[HQ.out];exact HOL.out.2
           have ho:=HO.out;rw[<-hpnc]at ho;exact⟨c+1,qs,SR,SC,o_,by go_num,hlt,HQ,HR.out.old o_ (by rw[HSQ.out];exact HOL.out.1),HPa.out.put ho HG.out HFR.out⟩
          case measure=>simp[intOf];omega
        . have hpe:pp=qs.length:=o_;subst hpe;have hnew:=zy_ (E:=E) (qs:=qs) (q':=E.succ q c) (fun j hj=>hno j hj);have HN:Hid _:=hnew;clear hnew hno hyes;have HPa0:Hid (b7_ W (w.heap.size+1) (w1.heap.size+1) (w5.alloc (.cells #[.slice (some ⟨g3,0,none⟩) (s.size+1) cap3] 96)) (s.size+1) qs.length (fun i x=>E.row ((qs++ [E.succ q c]).getD i 0) x) SR SC (.slice (some ⟨gq,0,none⟩) qs.length cp) va' vn u12 (k+1) k c (E.tab (qs++ [E.succ q c])).acc R C (pn E.succ (qs++ [E.succ q c]))):=((HP5.out.below ba__).fcongr (fun i c' hi _=>by rw[ce_ _ _ _ hi])).congr (fun i hi=>acs_ o_) (fun x d hx hd=>(hn_ HR.out x d hd o_).symm) (fun d hd=>(hn_ HR.out k d o_ o_).symm);have hna0:=HPa0.out.mem.own;have HNS:Hid ((w5.alloc (.cells #[.slice (some ⟨g3,0,none⟩) (s.size+1) cap3] 96)).ownsRow (w.heap.size+1) 3 1 (.slice (some ⟨g3,0,none⟩) (s.size+1) cap3) (s.size+1) (am_ ((fun i x=>E.row ((qs++ [E.succ q c]).getD i 0) x) qs.length) (s.size+1))):=by
           have h:=HO5.out.alloc (.cells #[.slice (some ⟨g3,0,none⟩) (s.size+1) cap3] 96);have e1:(fun c'=>E.row ((qs++ [E.succ q c]).getD qs.length 0) c')=E.row (E.succ q c):=by funext c';simp[List.getD_eq_getElem?_getD]
           unfold Hid;simp only[e1];exact h
          go_upto_region 21 with (at_builtin;refine ae_ _ rfl _ _ 98 rfl (w.heap.size+1) 96 iS (.slice none 0 0) 1 24 underlying98 hiS hzS hzS1 hzS2 rfl d_ _ qs.length (eo_ (s.size+1) SR SC qs.length) rfl hna0 ⟨w5.heap.size,0,none⟩ 1 1 [.slice (some ⟨g3,0,none⟩) (s.size+1) cap3] rfl rfl (cell_one_new _ _ _) (oc__ rfl) d_ u_ o_ s_ ?_;intro g6 cap6 w6 hown hgr hfr;have HO6:Hid _:=hown;have HG6:Hid _:=hgr;clear hown hgr hfr);have hP6:=HPa0.out.state HNS.out HV3.out HO6.out HG6.out;have hsz6:=hP6.mem.siz;have HPa:Hid (b7_ W (w.heap.size+1) (w1.heap.size+1) (w6.alloc (.cells #[.int .i64 (qs.length:Int)] 3)) (s.size+1) (qs.length+1) (fun i x=>E.row ((qs++ [E.succ q c]).getD i 0) x) (fun i=>if i=qs.length then g3 else SR i) (fun i=>if i=qs.length then cap3 else SC i) (.slice (some ⟨g6,0,none⟩) (qs.length+1) cap6) va' vn u12 (k+1) k c (E.tab (qs++ [E.succ q c])).acc R C (pn E.succ (qs++ [E.succ q c]))):=hP6.below ba__;have hna:=HPa.out.row;clear hP6 hna0 HPa0 HNS HO6 HG6 HO5 HP5;go_wp2_with (at_builtin;refine ae_ _ rfl _ _ 24 rfl ((w1.heap.size+1)+1) 3 i3 (.int .i64 0) 1 8 underlying24 hi3 hz3 hz31 hz32 rfl d_ _ c (am_ (pn E.succ (qs++ [E.succ q c]) k) c) rfl hna ⟨w6.heap.size,0,none⟩ 1 1 [.int .i64 (qs.length:Int)] rfl rfl (cell_one_new _ _ _) (oc__ rfl) d_ u_ o_ s_ ?_;intro g7 cap7 w7 hown hgr hfr;have HO:Hid _:=hown;have HG:Hid _:=hgr;have HFR:Hid _:=hfr;clear hown hgr hfr);go_roundw
          case rel=>
           have hnew:=HR.out.new o_ (by rw[HSQ.out];exact HN.out) (by rw[HSQ.out];exact HGS.out);rw[HSQ.out]at hnew;have hpnew:pn E.succ (qs++ [E.succ q c]) k c=qs.length:=by
            simp only[pn];rw[ce_ _ _ _ hlt,HQ.out,List.idxOf_append,if_neg HN.out];simp
           have ho:=HO.out;rw[<-hpnew]at ho;have hfin:=HPa.out.put ho HG.out HFR.out;refine⟨c+1,(qs++ [E.succ q c]),(fun i=>if i=qs.length then g3 else SR i),(fun i=>if i=qs.length then cap3 else SC i),o_,by go_num,s_,by unfold Hid;rw[ce_ _ _ _ hlt];exact HQ.out,hnew, ?_⟩;rw[show(qs++ [E.succ q c]).length=qs.length+1 by simp];exact hfin
          case measure=>simp[intOf];omega
      . have he:c=8:=o_;subst he;obtain⟨ar,cr',rfl,har⟩:=af_ hP.row;obtain⟨gr,rfl,_⟩:=har o_;obtain⟨y0,y1,_,_⟩:=aa_ hP.mem.bm.two.blk;have HBi:Hid (b7_ W (w.heap.size+1) (w1.heap.size+1) (wr.alloc (.cells #[.slice (some ⟨gr,0,none⟩) 8 cr'] 24)) (s.size+1) qs.length (fun i x=>E.row (qs.getD i 0) x) SR SC (.slice (some ⟨gq,0,none⟩) qs.length cp) va' vn (.slice (some ⟨gr,0,none⟩) 8 cr') (k+1) k 8 (E.tab qs).acc R C (pn E.succ qs)):=hP.below ba__;have hna1:=HBi.out.mem.bm.two.own1;have HR:Hid (PRel E.good E.succ qs (8*k+8)):=hR;clear hP hR hap hcp har hce hna;go_wp2_with (at_builtin;refine ae_ _ rfl _ _ 39 rfl ((w1.heap.size+1)+1) 24 iR (.slice none 0 0) 1 24 underlying39 hiR hzR hzR1 hzR2 rfl d_ _ k (eb_ R C k) rfl hna1 ⟨wr.heap.size,0,none⟩ 1 1 [.slice (some ⟨gr,0,none⟩) 8 cr'] rfl rfl (cell_one_new _ _ _) (oc__ rfl) d_ u_ o_ s_ ?_;intro g2 cap2 w2 hown hgr hfr;obtain⟨f0',f1',f2',f3'⟩:=aa_ (HBi.out.mem.bm.two.grown1 hgr);have HO:Hid _:=hown;have HG:Hid _:=hgr;have HFR:Hid _:=hfr;clear hown hgr hfr);go_roundw
        case rel=>
         exact⟨k+1,qs,SR,SC,_,_,_,_,o_,by go_num,by rw[show 8*(k+1)=8*k+8 by omega];exact HR.out,HBi.out.done HO.out HG.out HFR.out⟩
        case measure=>simp[intOf];omega
  . have he:k=ps.length:=o_;subst he;obtain⟨Z,rfl,rfl,hT,hFr⟩:=hP.bm.done (N:=E.tab ps) o_ rfl (fun i hi=>rfl) (fun i c hi hc=>rfl);have hnum:=Ear.numbered hR;have hLg:Hid (∀x,ax_ x->(E.tab ps).accepts x=E.lang x):=fun x hx=>Ear.tab_accepts hR x hx
    have HC:=qj_ Z (E.tab ps) wr hlen (by show ps.length<=100000000;omega) (fun i c hi hc=>hnum.nx i c hi hc) hT;rw[show(E.tab ps).n=ps.length from rfl]at HC;have HPb:Hid (Below (w.heap.size+1) W wr):=hP.blw;clear hP hT hR hap hcp hFr hnum z0 z1;go_wp2_with fail;refine HC.mono ?_;clear HC;rintro e w5 ⟨hB5,Q,R,hR,rfl,hT,hF⟩;have hs5:=hB5.size;have hR2:Hid (b8_ R E.lang):=hR.lang_congr hLg.out;have BW5:Hid (Below w.heap.size w w5):=hbw.trans (hB5.mono (by have:=hbw.size;omega));have HD5:Hid (w5.heap[w.heap.size]? =some (.cells #[.slice none 0 0,.slice none 0 0] 41 (0,0))):=(hB5.block _ o_).trans ((HPb.out.block _ o_).trans b0);have HT5:Hid (av_ w5 Q R):=hT;have HFr:Hid (Q.From wr.heap.size R.n):=hF;clear hR hLg hB5 hT hF y0 y1 hbw;by_cases hle:R.n<=budget
    . have HC:=m9_ (some ⟨Q.ba,Q.oa,none⟩) (some ⟨Q.bn,Q.on,none⟩) R.n Q.ca R.n Q.cn (budget:Int) w5 o_;go_wp2_with fail;refine HC.mono ?_;clear HC;rintro e w7 ⟨rfl,hB7⟩;have hs7:=hB7.size;have BW7:Below w.heap.size w w7:=BW5.out.trans (hB7.mono (by have:=BW5.out.size;omega));have d2:w7.heap[w.heap.size]? =some (.cells #[.slice none 0 0,.slice none 0 0] 41 (0,0)):=(hB7.block _ o_).trans HD5.out;have HT7:Hid _:=HT5.out.below hB7;obtain⟨q0,q1,p0,p1⟩:=aa_ d2;clear hB7;go_wp2_with fail;obtain⟨_,r2,r1⟩:=a7_ (u:= .slice (some ⟨Q.ba,Q.oa,none⟩) R.n Q.ca) (v:= .slice (some ⟨Q.bn,Q.on,none⟩) R.n Q.cn) d2;refine bodyPost_ret (v:= .tuple #[.agg #[.slice (some ⟨Q.ba,Q.oa,none⟩) R.n Q.ca,.slice (some ⟨Q.bn,Q.on,none⟩) R.n Q.cn],.int .i64 0]) (by simp[results,results28,go_sem,r1,r2]) rfl ?_;exact⟨az_ BW7 (b:=w.heap.size) o_ _ _,.inl ⟨Q,R,by rw[<-HE.out];exact hR2.out,hle,rfl,HT7.out.res HFr.out (b:=w.heap.size) o_ _ _⟩⟩
    . have HC:=oy_ (some ⟨Q.ba,Q.oa,none⟩) (some ⟨Q.bn,Q.on,none⟩) R.n Q.ca R.n Q.cn (budget:Int) w5 o_;go_wp2_with fail;refine HC.mono ?_;clear HC;rintro e w7 ⟨rfl,hB7⟩;have hs7:=hB7.size;have BW7:Below w.heap.size w w7:=BW5.out.trans (hB7.mono (by have:=BW5.out.size;omega));have d2:w7.heap[w.heap.size]? =some (.cells #[.slice none 0 0,.slice none 0 0] 41 (0,0)):=(hB7.block _ o_).trans HD5.out;obtain⟨q0,q1,p0,p1⟩:=aa_ d2;clear hB7;go_wp2_with fail;obtain⟨_,r2,r1⟩:=a7_ (u:= .slice none 0 0) (v:= .slice none 0 0) d2;refine bodyPost_ret (v:= .tuple #[.agg #[.slice none 0 0,.slice none 0 0],.int .i64 5]) (by simp[results,results28,go_sem,r1,r2]) rfl ?_;exact⟨az_ BW7 (b:=w.heap.size) o_ _ _,.inr ⟨rfl,R,by rw[<-HE.out];exact hR2.out,o_⟩⟩
theorem w8_ (s:ByteArray)(d b:Int)(w:World)(hss:s.size<=maxLen)(hne:em_ s d b≠0):
 Calls prog 28 #[.string s,.int .i64 d,.int .i64 b] w fun e w'=>e= .returned (.tuple #[.agg #[.slice none 0 0,.slice none 0 0],.int .i64 (em_ s d b)])/\Below w.heap.size w w':=by
 obtain⟨W0,hW0,BW0,-,bb0⟩:=nw__ w #[.slice none 0 0,.slice none 0 0] 41;have HF0:Hid _:=az_ BW0 (b:=w.heap.size) o_ (.slice none 0 0) (.slice none 0 0);obtain⟨q0,q1,p0,p1⟩:=aa_ bb0;obtain⟨_,r2,r1⟩:=a7_ (u:= .slice none 0 0) (v:= .slice none 0 0) bb0;have HR1:Hid _:=r1;have HR2:Hid _:=r2;clear r1 r2;have HT:=gt_ s 12 W0 hss o_;have HB:=hg_ b W0;unfold em_ at hne ⊢;cases htt:(decide (s.size<=12)&&ba_ s s.size)
 . rw[htt]at HT;simp only[if_true];clear htt hne HB;go_enter func28,ntmps28;go_upto_region 1 with fail;rw[<-hW0];clear hW0;go_wp2_with (go_at_call 61;refine HT.mono ?_;rintro e w' ⟨rfl,hw'⟩;obtain rfl:W0=w':=hw'.symm);have r1:=HR1.out;have r2:=HR2.out;refine bodyPost_ret (v:= .tuple #[.agg #[.slice none 0 0,.slice none 0 0],.int .i64 7]) (by simp[results,results28,go_sem,r1,r2]) rfl ?_;exact⟨rfl,HF0.out⟩
 . rw[htt]at hne HT;simp only[Bool.true_eq_false,if_false]at hne ⊢;have hcase:(d<0)\/(¬d<0/\2<d)\/(¬d<0/\¬2<d/\(decide (1<=b)&&decide (b<=40))=false):=by
    by_cases h1:d<0
    . exact .inl h1
    . by_cases h2:2<d
      . exact .inr (.inl ⟨h1,h2⟩)
      . refine .inr (.inr ⟨h1,h2, ?_⟩);rw[if_neg o_]at hne;have hb:b<1\/40<b:=by
         refine Classical.byContradiction (fun h=> ?_);rw[if_neg h]at hne;exact hne rfl
        simp;omega
   have h8:(if d<0\/2<d then(8:Int)else if b<1\/40<b then 8 else 0)=8:=by
    by_cases h1:d<0\/2<d
    . rw[if_pos h1]
    . rw[if_neg h1]at hne ⊢;by_cases h2:b<1\/40<b
      . rw[if_pos h2]
      . rw[if_neg h2]at hne;exact absurd rfl hne
   rw[h8];obtain⟨bo,HBO⟩:=hx__ (decide (1<=b)&&decide (b<=40));rw[HBO.out]at hcase HB;clear htt hne h8 HBO;rcases hcase with h1|⟨h1,h2⟩|⟨h1,h2,rfl⟩
   all_goals
    go_enter func28,ntmps28;go_upto_region 1 with fail;rw[<-hW0];clear hW0;go_wp2_with (first|(go_at_call 61;refine HT.mono ?_;rintro e w' ⟨rfl,hw'⟩;obtain rfl:W0=w':=hw'.symm)|(go_at_call 62;refine HB.mono ?_;rintro e w' ⟨rfl,hw'⟩;obtain rfl:W0=w':=hw'.symm));have r1:=HR1.out;have r2:=HR2.out;refine bodyPost_ret (v:= .tuple #[.agg #[.slice none 0 0,.slice none 0 0],.int .i64 8]) (by simp[results,results28,go_sem,r1,r2]) rfl ?_;exact⟨rfl,HF0.out⟩
end Go.Proofs.YtpngikmcjkjdaaaGreatDoor
