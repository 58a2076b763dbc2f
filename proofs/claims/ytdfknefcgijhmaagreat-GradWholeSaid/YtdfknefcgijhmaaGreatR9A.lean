import Derived.Test.YtdfknefcgijhmaaGreatTk
import Derived.Test.YtdfknefcgijhmaaGreatImMem
import Derived.Deep.RegionHeld3
set_option maxHeartbeats 16000000
set_option maxRecDepth 100000
set_option linter.unusedVariables false
set_option linter.unusedSimpArgs false
namespace Go.Proofs.YtdfknefcgijhmaaGreat
open Go.RowKit Go.Proofs.ShM Go.Proofs.PkM Go.Proofs.ImM
def MT(ts:List T)(most:Int):Bool:=ts.all (fun t=>sS t.1.length t.2.length)&&decide ((ts.length:Int)≤most)
theorem dA{p:T→Bool}{ts:List T}{k:Nat}{t:T}(ht:ts[k]?=some t):(ts.drop k).all p=(p t&&(ts.drop (k+1)).all p):=by
 obtain⟨h,e⟩:=List.getElem?_eq_some_iff.1 ht;rw[List.drop_eq_getElem_cons h,e];rfl
theorem Al(A:Option Addr)(c:Nat)(ts:List T)(most:Int)(w:World)(h:RdT w A ts):
  Calls Tryz.prog 22 #[.slice A ts.length c, .int .i64 most] w fun e w'=>e= .returned (.bool (MT ts most))∧Kp w w':=by
 have hl:=h.len;have HRD:=lH h;obtain⟨r,hr⟩:=eX (MT ts most);have HF:Hid (∀(A B:Option Addr) (c d n m:Nat) (W:World),n≤9223372036854775807→m≤9223372036854775807→Calls Tryz.prog 21 #[.agg #[.slice A n c, .slice B m d]] W fun e w'=>e= .returned (.bool (sS n m))∧Kp W w'):=fun A B c d n m W h g=>C3 A B c d n m W h g
 have HR:=lH hr;rw[←hr];clear hr h;go_enter Tryz.func22,Tryz.ntmps22
 go_wp2
 go_loopw [5] (fun i wx=>∃k:Nat,i= .int .i64 (k:Int)∧Hid (k≤ts.length)∧Hid (r=((ts.drop k).all (fun t=>sS t.1.length t.2.length)&&decide ((ts.length:Int)≤most)))∧Hid (Kp w wx)) (fun i _=>ts.length-(intOf i).toNat)
 case atStart=>exact⟨0,rfl,Nat.zero_le _,HR.out,Kp.refl _⟩
 case round=>
  obtain⟨k,rfl,hk,hT,hK⟩:=hrel;by_cases hj:k<ts.length
  ·have hj':(k:Int)<(ts.length:Int):=by omega
   obtain⟨ad,t,P,e,Q,f,rfl,hlt,ht,hc1,hc2,hTR⟩:=(HRD.out.kp hK.out).at_ hj;have hd:=dA (p:=fun t:T=>sS t.1.length t.2.length) ht;have HC:=lH (HF.out P Q e f t.1.length t.2.length wr hTR.s.len hTR.d.len);obtain⟨q,hq⟩:=eX (sS t.1.length t.2.length);rw[←hq]at HC hd;have HD:=lH hd;clear hd hq ht
   cases q with
   |true=>
    have HT2:Hid (r=((ts.drop (k+1)).all (fun t=>sS t.1.length t.2.length)&&decide ((ts.length:Int)≤most))):=by show r=_;rw[hT.out,HD.out];simp
    go_wp2_with fail
    refine(Hid.out HC).mono ?_;rintro e w5 ⟨rfl,k5⟩;have K5:=lH (hK.out.tr k5);clear k5 HC
    go_wp2
    go_roundw
    case rel=>exact⟨k+1,by go_num,(by show k+1≤ts.length;omega),HT2.out,K5.out⟩
    case measure=>simp[intOf];omega
   |false=>
    have HT2:Hid (r=false):=by show r=_;rw[hT.out,HD.out];simp
    go_wp2_with fail
    refine(Hid.out HC).mono ?_;rintro e w5 ⟨rfl,k5⟩;have K5:=lH (hK.out.tr k5);clear k5 HC
    go_wp2
    go_ret;exact⟨by rw[HT2.out];rfl,K5.out⟩
  ·have hj':¬(k:Int)<(ts.length:Int):=by omega
   have HT2:Hid (r=decide ((ts.length:Int)≤most)):=by show r=_;rw[hT.out,List.drop_eq_nil_of_le (by omega)];simp
   go_wp2
   go_ret;exact⟨by rw[HT2.out];rfl,hK.out⟩
open Go.RowKit Go.Proofs.ShM Go.Proofs.PkM Go.Proofs.ImM
end Go.Proofs.YtdfknefcgijhmaaGreat
