import Derived.Test.YtdfknefcgijhmaaGreatGdMLWT
import Derived.Test.YtdfknefcgijhmaaGreatGdMLW
import Derived.Test.YtdfknefcgijhmaaGreatGdML
import Derived.Test.YtdfknefcgijhmaaGreatGdMLN
import Derived.Test.YtdfknefcgijhmaaGreatTk
import Derived.Test.YtdfknefcgijhmaaGreatGdC
set_option maxHeartbeats 16000000
set_option maxRecDepth 100000
set_option linter.unusedVariables false
set_option linter.unusedSimpArgs false
namespace Go.Proofs.YtdfknefcgijhmaaGreat
open Go.RowKit Go.Proofs.ShM Go.Proofs.cF Go.Proofs.GrM Go.Proofs.InM Go.Proofs.ImM Go.Proofs.EvM
theorem fJ.TD{w:World}{B:Nat}{vs:List V3}{ts:List Nd}(h:fM w (fun _=>True) vs ts)(hl:ts.length≤1000)(hB:B≤w.heap.size):
  fJ B (w.alloc (.cells (dx vs).toArray 37)) (.slice (some ⟨w.heap.size,0,none⟩) ts.length ts.length) ts:=by
 have hlen:(dx vs).length=ts.length*3:=by rw[iq,h.len]
 have ho:=World.ownsRow_lit (base:=B) (e:=37) (size:=3) w (dx vs).toArray ts.length hB (by unfold maxLen;omega) (by simpa using hlen)
 refine⟨vs,by simpa using ho,h.mono (Kp.af _ _) fun k hk _ e=>?_⟩
 have:w.heap.size=k:=by simpa [Value.ownBlock]using e
 omega
theorem cg(k:Nat)(n:Int)(w:World)(hk:k≤20):
  Calls Tryz.prog 9 #[.int .i64 (k:Int), .int .i64 n] w fun e w'=>∃A c,e= .returned (.slice A (k+2) c)∧Hid (RdG w' A (cK k n))∧Hid (k+2≤c∧c≤9223372036854775807)∧Hid (Kp w w'):=by
 obtain⟨W5,hW5⟩:=eX (((w.alloc (.cells #[.int .i64 0] 3)).alloc (.cells #[.int .i64 n] 3)).alloc (.cells #[.int .i64 2, .slice none 0 0, .slice (some ⟨w.heap.size,0,none⟩) 1 1, .int .i64 3, .slice none 0 0, .slice (some ⟨w.heap.size+1,0,none⟩) 1 1] 37))
 have HW5:=lH hW5
 have r1:Rd (w.alloc (.cells #[.int .i64 0] 3)) (some ⟨w.heap.size,0,none⟩) [0]:=Rd.one w 0 _
 have r2:Rd ((w.alloc (.cells #[.int .i64 0] 3)).alloc (.cells #[.int .i64 n] 3)) (some ⟨w.heap.size+1,0,none⟩) [n]:=by
  have h:=Rd.one (w.alloc (.cells #[.int .i64 0] 3)) n 3
  rwa [World.size_alloc]at h
 have O5:Hid (fJ w.heap.size W5 (.slice (some ⟨w.heap.size+1+1,0,none⟩) 2 2) (cK 0 n)):=by
  have a2:=fM.cons (jO (op:=3) (c:=0) (d:=1) (Rd.nil _ none) r2 (by decide) (by decide) (by simp) (by decide)) (fM.bU _ (fun _=>True))
  have a1:=fM.cons (jO (op:=2) (c:=0) (d:=1) (Rd.nil _ none) (r1.af (.cells #[.int .i64 n] 3)) (by decide) (by decide) (by decide) (by decide)) a2
  have h:=fJ.TD (B:=w.heap.size) a1 (by simp) (by simp;omega)
  rw[World.size_alloc,World.size_alloc]at h
  show fJ _ _ _ _
  rw[hW5]
  exact h
 have K5:Hid (Kp w W5):=by show Kp _ _;rw[hW5];exact gal (gal (Kp.af _ _) _) _
 clear r1 r2 hW5
 go_enter Tryz.func9,Tryz.ntmps9
 go_upto_region 3 with fail
 rw[←HW5.out]
 go_loopw [5,6] (fun v i wx=>∃(j:Nat) (E:Option Addr) (f:Nat),v= .slice E (j+2) f∧i= .int .i64 (j:Int)∧Hid (j≤k)∧Hid (fJ w.heap.size wx (.slice E (j+2) f) (cK j n))∧Hid (Kp w wx)) (fun _ i _=>k-(intOf i).toNat)
 case atStart=>exact⟨0,_,_,rfl,rfl,Nat.zero_le _,O5.out,K5.out⟩
 case round=>
  obtain⟨j,E,f,rfl,rfl,hj,hO,hK⟩:=hrel
  by_cases hlt:j<k
  ·have hlt':(j:Int)<(k:Int):=by omega
   have hjn:j≤20:=by have:=hj.out;omega
   have hrow:Hid (RdN ((wr.alloc (.cells #[.int .i64 0, .int .i64 ((j:Int)+2-1)] 3)).alloc (.cells #[.int .i64 10, .slice (some ⟨wr.heap.size,0,none⟩) 2 2, .slice none 0 0] 37)) (fun b=>(Value.slice E (j+2) f).ownBlock≠some b) (some ⟨wr.heap.size+1,0,none⟩) [lC j]):=by
    have hx:∀ad:Addr,some (⟨wr.heap.size,0,none⟩:Addr)=some ad→0<([0,(j:Int)+1]:List Int).length→(Value.slice E (j+2) f).ownBlock≠some ad.block:=by
     intro ad e _ h
     injection e with e
     subst e
     have:=hO.out.fP h
     exact absurd this (Nat.lt_irrefl _)
    have h:=RdN.one (w:=wr.alloc (.cells #[.int .i64 0, .int .i64 ((j:Int)+1)] 3)) (X:=fun b=>(Value.slice E (j+2) f).ownBlock≠some b) (t:=lC j) (c:=2) (d:=0) ⟨Rd.two wr 0 ((j:Int)+1) 3,Rd.nil _ none,hx,fun _ _ h=>absurd h (by simp[lC])⟩ ⟨by simp[lC],by decide⟩ ⟨by simp[lC],by decide⟩ 37
    rw[World.size_alloc]at h
    show RdN _ _ _ _
    rw[show(j:Int)+2-1=(j:Int)+1 by omega]
    exact h
   have hsz:Hid (w.heap.size≤wr.heap.size):=hK.out.size
   go_wp2_with (at_builtin;refine mq (B:=w.heap.size) rfl (.tmp 18) (.tmp 24) rfl _ (cK j n) rfl ((hO.out.kp (Kp.af _ _)).kp (Kp.af _ _)) _ _ [lC j] 1 rfl rfl hrow.out (by rw[EvM.bk];simp;omega) (by have:=hsz.out;simp;omega) ?_;intro z1 A1 c1' w6 HZ1 o1 b1 _;have O6:=lH o1;have K6:Hid (Kp w w6):=(gal (gal hK.out _) _).trans b1;clear o1 b1)
   have hz:z1=cK (j+1) n:=by rw[HZ1.out,jA]
   subst hz
   go_roundw
   case rel=>exact⟨j+1,A1,c1',by rw[EvM.bk],by go_num,(by show j+1≤k;omega),(by have:=O6.out;rw[EvM.bk]at this;exact this),K6.out⟩
   case measure=>simp[intOf];omega
  ·have hlt':¬(j:Int)<(k:Int):=by omega
   have hjk:j=k:=by have:=hj.out;omega
   subst hjk
   obtain⟨g1,g2⟩:=gL hO.out
   have G1:=lH g1
   have G2:=lH g2
   clear g1 g2
   go_wp2
   go_ret
   refine⟨E,f,rfl,G1.out,?_,hK.out⟩
   have:=G2.out
   rw[EvM.bk]at this
   exact this
end Go.Proofs.YtdfknefcgijhmaaGreat
