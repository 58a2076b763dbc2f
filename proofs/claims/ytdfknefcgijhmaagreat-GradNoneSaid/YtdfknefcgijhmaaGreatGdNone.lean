import Derived.Test.YtdfknefcgijhmaaGreatGdMN
import Derived.Test.YtdfknefcgijhmaaGreatGdMLN
import Derived.Test.YtdfknefcgijhmaaGreatTk
import Derived.Test.YtdfknefcgijhmaaGreatGdAw
import Derived.Test.YtdfknefcgijhmaaGreatEvNx
import Derived.Deep.RegionHeld3
import Derived.Deep.RegionWith
import Derived.BigQuiet
set_option maxHeartbeats 16000000
set_option maxRecDepth 100000
set_option linter.unusedVariables false
set_option linter.unusedSimpArgs false
namespace Go.Proofs.YtdfknefcgijhmaaGreat
open Go.RowKit Go.Proofs.ShM Go.Proofs.cF Go.Proofs.GrM Go.Proofs.InM Go.Proofs.ImM Go.Proofs.EvM
theorem cX(w:World)(o:Obj):(w.alloc o).heap[w.heap.size]?=some o:=by
 show(w.heap.push _)[w.heap.size]?=some _
 simp
theorem aT{w:World}{k:Nat}{o:Obj}(h:w.heap[k]?=some o):k<w.heap.size:=(Array.getElem?_eq_some_iff.1 h).1
theorem cB{w:World}{B:Nat}{o:Oper}{a:Act}{K:Act→World→Prop}{Q:Exit→Act→World→Prop}(s x:Operand)
  (hop:o.op= .call {callee:= .builtin .append,args:= #[s,x],argTypes:= #[27,27]})
  (v:Value)(ts:List Nd)(hs:a.eval s=v)(ho:fJ B w v ts)(A:Option Addr)(c:Nat)(us:List Nd)(n:Nat)(hx:a.eval x= .slice A n c)(hn:n=us.length)(hr:RdN w (fun k=>v.ownBlock≠some k) A us)
  (hl:ts.length+us.length≤1000000)(hB:B≤w.heap.size)
  (h:∀zs A' c' w',Hid (zs=ts++us)→fJ B w' (.slice A' zs.length c') zs→Below B w w'→(∀k,k<w.heap.size→some k≠v.ownBlock→w'.heap[k]?=w.heap[k]?)→K (a.put o.dst (.slice A' zs.length c')) w'):Oper.wp Tryz.prog o a w K Q:=by
 subst hn
 obtain⟨zs,A',c',w',e,hrun,h1,h2,h3⟩:=vB ho c hr hl hB o.type
 unfold Oper.wp execOp
 simp only[hop,resolve,invoke,builtin,Sem.run_bind,Sem.run_pure,Result.andThen_ok,List.map_toArray,List.map_cons,List.map_nil,hs,hx,hrun]
 exact h zs A' c' w' e h1 h2 h3
theorem MJ{w:World}{B b4 b6:Nat}{v:Value}{ts:List Nd}{m:Int}(o:fJ B w v ts)(h4:w.heap[b4]?=some (.cells #[.int .i64 m] 3 (0,0)))(h6:w.heap[b6]?=some (.cells #[.int .i64 3, .slice none 0 0, .slice (some ⟨b4,0,none⟩) 1 1] 37 (0,0))):
  RdN w (fun k=>v.ownBlock≠some k) (some ⟨b6,0,none⟩) [(3,[],[m])]:=by
 have hx:v.ownBlock≠some b4:=by
  intro e
  obtain⟨vs,ho,_⟩:=o
  rcases ho.2 with⟨rfl,_⟩|⟨g,cap,cur,rfl,_,hh,_⟩
  ·cases e
  ·have:g=b4:=by simpa [Value.ownBlock]using e
   subst this
   rw[h4]at hh
   injection hh with hh
   injection hh with _ hh
   exact absurd hh (by decide)
 have r4:Rd w (some ⟨b4,0,none⟩) [m]:=⟨by simp,fun _=>⟨_,rfl,aT h4,fun j u hu=>by
  cases j with
  |zero=>
   have e:m=u:=by simpa using hu
   subst e
   simp[World.cell?,Addr.add,h4]
  |succ j=>simp at hu⟩⟩
 refine⟨by simp,[(.int .i64 3, .slice none 0 0, .slice (some ⟨b4,0,none⟩) 1 1)],⟨rfl,fun j p t h1 h2=>?_⟩,fun _=>⟨_,rfl,aT h6,fun j u hu=>?_⟩⟩
 ·cases j with
  |zero=>
   have e1:(Value.int .i64 3,Value.slice none 0 0,Value.slice (some ⟨b4,0,none⟩) 1 1)=p:=by simpa using h1
   have e2:((3:Int),([]:List Int),[m])=t:=by simpa using h2
   subst e1 e2
   exact⟨none,0,_,1,rfl,by simp,by simp,by simp,by simp,⟨Rd.nil _ _,r4,(fun _ e _=>by cases e),fun ad e _=>by injection e with e;subst e;exact hx⟩⟩
  |succ j=>simp at h1
 ·have hj:j<3:=by have:=(List.getElem?_eq_some_iff.1 hu).1;simpa [dx]using this
  match j,hj with
  |0,_=>
       have e:Value.int .i64 3=u:=by simpa [dx]using hu
       subst e;simp[World.cell?,Addr.add,h6]
  |1,_=>
       have e:Value.slice none 0 0=u:=by simpa [dx]using hu
       subst e;simp[World.cell?,Addr.add,h6]
  |2,_=>
       have e:Value.slice (some ⟨b4,0,none⟩) 1 1=u:=by simpa [dx]using hu
       subst e;simp[World.cell?,Addr.add,h6]
theorem MK{B b k:Nat}(h:B≤b)(hk:k<B)(e:(Value.slice (some ⟨b,0,none⟩) 0 0).ownBlock=some k):False:=by
 have:b=k:=by simpa [Value.ownBlock]using e
 omega
theorem sU(A P Q R:Option Addr)(n a b c e f k d:Nat)(l:List Nd)(t:T)(ps:List T)(w:World)(hn:n=l.length)(ha:a=t.1.length)(hb:b=t.2.length)(hk:k=ps.length)(hL:RdG w A l)(hT:TR w P t.1 Q t.2)(hR:RdT w R ps){q:Bool}(hq:(yP l&&DQ t ps)=q):
  Calls Tryz.prog 12 #[.slice A n c, .agg #[.slice P a e, .slice Q b f], .slice R k d] w fun e w'=>e= .returned (.bool q)∧Kp w w':=by
 have la:=hT.s.len
 have lb:=hT.d.len
 obtain⟨V,hV⟩:=eX (w.alloc (.cells #[.slice P a e, .slice Q b f] 31))
 have HV:=lH hV
 have F0:Hid (Bk V w.heap.size P a e Q b f):=by show Bk _ _ _ _ _ _ _ _;rw[hV];exact Bk.new rfl
 have K0:Hid (Kp w V):=by show Kp _ _;rw[hV];exact Kp.af _ _
 have HL:Hid (∀W,Kp w W→Calls Tryz.prog 20 #[.slice A n c] W fun e w'=>e= .returned (.bool (yP l))∧w'=W):=fun W kw=>by rw[hn];exact xJ A c l W (hL.kp kw)
 have HT:Hid (∀W,Calls Tryz.prog 21 #[.agg #[.slice P a e, .slice Q b f]] W fun e w'=>e= .returned (.bool (sS t.1.length t.2.length))∧Kp W w'):=fun W=>by
  rw[ha,hb];exact C3 P Q e f t.1.length t.2.length _ la lb
 have HR:Hid (∀W,Kp w W→Calls Tryz.prog 22 #[.slice R k d, .int .i64 10] W fun e w'=>e= .returned (.bool (MT ps 10))∧Kp W w'):=fun W kw=>by rw[hk];exact Al R d ps 10 W (hR.kp kw)
 have p0:=F0.out.c0
 have p1:=F0.out.c1
 obtain⟨x,hx⟩:=eX (yP l)
 obtain⟨y,hy⟩:=eX (sS t.1.length t.2.length)
 obtain⟨z,hz⟩:=eX (MT ps 10)
 have hq':q=(x&&(y&&z)):=by rw[←hq,hx,hy,hz];rfl
 rw[←hx]at HL
 rw[←hy]at HT
 rw[←hz]at HR
 clear hq hx hy hz hn ha hb hk hL hT hR la lb hV
 cases x with
 |false=>
  obtain rfl:q=false:=hq'
  go_enter Tryz.func12,Tryz.ntmps12
  go_wp2_with fail
  rw[←HV.out]
  refine(HL.out _ K0.out).mono ?_;rintro e0 w1 ⟨rfl,rfl⟩
  go_wp2
  go_ret
  exact⟨rfl,K0.out⟩
 |true=>
  cases y with
  |false=>
   obtain rfl:q=false:=hq'
   go_enter Tryz.func12,Tryz.ntmps12
   go_wp2_with fail
   rw[←HV.out]
   refine(HL.out _ K0.out).mono ?_;rintro e0 w1 ⟨rfl,rfl⟩
   go_wp2_with fail
   refine(HT.out _).mono ?_;rintro e0 w2 ⟨rfl,k2⟩
   have K2:=lH (K0.out.tr k2)
   clear k2 p0 p1
   go_wp2
   go_ret
   exact⟨rfl,K2.out⟩
  |true=>
   obtain rfl:q=z:=hq'
   go_enter Tryz.func12,Tryz.ntmps12
   go_wp2_with fail
   rw[←HV.out]
   refine(HL.out _ K0.out).mono ?_;rintro e0 w1 ⟨rfl,rfl⟩
   go_wp2_with fail
   refine(HT.out _).mono ?_;rintro e0 w2 ⟨rfl,k2⟩
   have K2:=lH (K0.out.tr k2)
   clear k2 p0 p1
   go_wp2_with fail
   refine(HR.out _ K2.out).mono ?_;rintro e0 w3 ⟨rfl,k3⟩
   have K3:=lH (K2.out.tr k3)
   clear k3
   go_wp2
   go_ret
   exact⟨rfl,K3.out⟩
theorem sI(C:GdC)(A P Q R:Option Addr)(n a b c e f k d:Nat)(m:Int)(l:List Nd)(t:T)(ps:List T)(w:World)(hn:n=l.length)(ha:a=t.1.length)(hb:b=t.2.length)(hk:k=ps.length)(hL:RdG w A l)(hT:TR w P t.1 Q t.2)(hR:RdT w R ps)(h:(yP l&&DQ t ps)=false∨23<n):
  Calls Tryz.prog 6 #[.slice A n c, .agg #[.slice P a e, .slice Q b f], .slice R k d, .int .i64 m] w fun e w'=>e= .returned (.bool true)∧Kp w w':=by
 have HA:=lH (fun W=>cR C W)
 have hnl:=hL.len
 rw[←hn]at hnl
 obtain⟨V,hV⟩:=eX (w.alloc (.cells #[.slice P a e, .slice Q b f] 31))
 have HV:=lH hV
 have F0:Hid (Bk V w.heap.size P a e Q b f):=by show Bk _ _ _ _ _ _ _ _;rw[hV];exact Bk.new rfl
 have K0:Hid (Kp w V):=by show Kp _ _;rw[hV];exact Kp.af _ _
 obtain⟨q,hq⟩:∃q,(yP l&&DQ t ps)=q:=⟨_,rfl⟩
 have HF:=lH (fun W (kw:Kp w W)=>sU A P Q R n a b c e f k d l t ps W hn ha hb hk (hL.kp kw) ⟨hT.s.kp kw,hT.d.kp kw⟩ (hR.kp kw) hq)
 rw[hq]at h
 clear C hn ha hb hk hL hT hR hV hq
 cases q with
 |false=>
  clear h
  go_enter Tryz.func6,Tryz.ntmps6
  go_wp2_with fail
  rw[←HV.out]
  refine(HA.out _).mono ?_;rintro e0 w1 ⟨rfl,k1⟩
  have K1:=lH (K0.out.tr k1)
  have F1:=lH (F0.out.kp k1)
  have p0:=F1.out.c0
  have p1:=F1.out.c1
  clear k1
  go_wp2_with fail
  refine(HF.out _ K1.out).mono ?_;rintro e0 w2 ⟨rfl,k2⟩
  have K2:=lH (K1.out.tr k2)
  clear k2 p0 p1
  go_wp2
  go_ret
  exact⟨rfl,K2.out⟩
 |true=>
  have i1:(23:Int)<(n:Int):=by rcases h with h|h;cases h;omega
  clear h
  go_enter Tryz.func6,Tryz.ntmps6
  go_wp2_with fail
  rw[←HV.out]
  refine(HA.out _).mono ?_;rintro e0 w1 ⟨rfl,k1⟩
  have K1:=lH (K0.out.tr k1)
  have F1:=lH (F0.out.kp k1)
  have p0:=F1.out.c0
  have p1:=F1.out.c1
  clear k1
  go_wp2_with fail
  refine(HF.out _ K1.out).mono ?_;rintro e0 w2 ⟨rfl,k2⟩
  have K2:=lH (K1.out.tr k2)
  clear k2 p0 p1
  go_wp2
  go_ret
  exact⟨rfl,K2.out⟩
theorem yM(C:GdC)(A P Q R:Option Addr)(n a b c e f k d:Nat)(m:Int)(l:List Nd)(t:T)(ps:List T)(w:World)(hn:n=l.length)(ha:a=t.1.length)(hb:b=t.2.length)(hk:k=ps.length)(hL:RdG w A l)(hc:l.length≤c∧c≤9223372036854775807)(hT:TRc w P e Q f t)(hR:RdT w R ps)(hd:ps.length≤d∧d≤9223372036854775807)
  (hS:dV l)(sT:SmT t)(sP:xh ps)(hm: -9223372036854775808≤m∧m≤9223372036854775807)(hf:(yP l&&DQ t ps)=true)(h23:n≤23):
  Calls Tryz.prog 6 #[.slice A n c, .agg #[.slice P a e, .slice Q b f], .slice R k d, .int .i64 m] w fun e w'=>e= .returned (.bool true)∧Kp w w':=by
 have HC:=lH C
 have HA:=lH (fun W=>cR C W)
 obtain⟨V,hV⟩:=eX (w.alloc (.cells #[.slice P a e, .slice Q b f] 31))
 have HV:=lH hV
 have F0:Hid (Bk V w.heap.size P a e Q b f):=by show Bk _ _ _ _ _ _ _ _;rw[hV];exact Bk.new rfl
 have K0:Hid (Kp w V):=by show Kp _ _;rw[hV];exact Kp.af _ _
 have HF:=lH (fun W (kw:Kp w W)=>sU A P Q R n a b c e f k d l t ps W hn ha hb hk (hL.kp kw) ⟨hT.r.s.kp kw,hT.r.d.kp kw⟩ (hR.kp kw) hf)
 have i1:¬(23:Int)<(n:Int):=by omega
 obtain⟨v,at_,err,hv⟩:∃v at_ err,fI l t ps=(v,at_,err):=⟨_,_,_,rfl⟩
 have HAL:=lH (fun W (kw:Kp w W)=>HC.out.all A P Q R c n a b e f k d l t ps v at_ err v.length W (hL.kp kw) hc.1 hc.2 hS hn (hT.kp kw) sT ha hb (hR.kp kw) hd.1 hd.2 sP hk hv rfl)
 obtain⟨g,loss,ga,ge,hg⟩:∃g loss ga ge,jE (l++[(3,[],[m])]) t ps=(g,loss,ga,ge):=⟨_,_,_,_,rfl⟩
 have HN:=CN l m t ps (by omega)
 rw[hv,hg]at HN
 have HNN:=lH HN
 have hS2:dV (l++[(3,[],[m])]):=xA hS (by omega) (by simp) (by simp) (by refine⟨?_,?_,?_⟩<;>intro x hx<;>simp at hx<;>omega)
 have HGR:Hid (∀(E:Option Addr) (c2:Nat) (zs:List Nd) (W:World),Kp w W→zs=l++[(3,[],[m])]→RdG W E zs→zs.length≤c2→c2≤9223372036854775807→Calls Tryz.prog 8 #[.slice E zs.length c2, .agg #[.slice P a e, .slice Q b f], .slice R k d] W (PY g loss ga ge g.length W)):=fun E c2 zs W kw hz h1 h2 h3=>by
  subst hz
  exact HC.out.Lv E P Q R c2 _ a b e f k d _ t ps g loss ga ge g.length W h1 h2 h3 hS2 rfl (hT.kp kw) sT ha hb (hR.kp kw) hd.1 hd.2 sP hk hg rfl
 have HLL:=lH hL
 have HNL:=lH hn
 clear C hL hc hT hR hd hS sT sP hf hv HN hg hS2 ha hb hk hV hn
 go_enter Tryz.func6,Tryz.ntmps6
 go_wp2_with fail
 rw[←HV.out]
 refine(HA.out _).mono ?_;rintro e0 w1 ⟨rfl,k1⟩
 have K1:=lH (K0.out.tr k1)
 have F1:=lH (F0.out.kp k1)
 have p0:=F1.out.c0
 have p1:=F1.out.c1
 clear k1
 go_wp2_with fail
 refine(HF.out _ K1.out).mono ?_;rintro e0 w2 ⟨rfl,k2⟩
 have K2:=lH (K1.out.tr k2)
 have F2:=lH (F1.out.kp k2)
 have p0:=F2.out.c0
 have p1:=F2.out.c1
 clear k2
 go_wp2_with fail
 refine(HAL.out _ K2.out).mono ?_;rintro e0 w3 ⟨A3,c3,rfl,r3,l3,k3⟩
 have K3:=lH (K2.out.tr k3)
 have F3:=lH (F2.out.kp k3)
 have p0:=F3.out.c0
 have p1:=F3.out.c1
 clear k3
 have HSS:Hid (∀V,Kp w3 V→V.cell? ⟨w.heap.size,0,none⟩=some (.slice P a e)∧V.cell? ⟨w.heap.size,1,none⟩=some (.slice Q b f)):=fun V kV=>⟨(F3.out.kp kV).c0,(F3.out.kp kV).c1⟩
 go_wp2_with fail
 go_cut [13,14,15,16] (fun v13 v14 v15 v16 wx=>∃(G:Option Addr) (cg:Nat),v13= .slice G g.length cg∧v14= .int .i64 loss∧v15= .int .i64 ga∧v16= .int .i64 ge∧Hid (RdT wx G g)∧Hid (g.length≤cg∧cg≤9223372036854775807)∧Hid (Kp w wx))
 case first=>
  refine wp_region_held_drew (S:=fun V=>V.cell? ⟨w.heap.size,0,none⟩=some (.slice P a e)∧V.cell? ⟨w.heap.size,1,none⟩=some (.slice Q b f)) (by kernel_rfl) (HSS.out _ (Below.drew (Kp.refl _))) (fun hHeld=>?_)
  have XW0:Hid (Kp w3 w3.drew):=Below.drew (Kp.refl _)
  obtain⟨W0,hW0⟩:=eX (w3.drew)
  rw[←hW0]at XW0 hHeld⊢
  clear hW0
  refine tK 1 (.slice A n c) rfl hHeld<|tK 3 (.int .i64 m) rfl hHeld<|tK 8 (.agg #[.slice P a e, .slice Q b f]) rfl hHeld<|tK 9 (.slice R k d) rfl hHeld ?_
  refine wpAnyH_ready (rs:=[0,4]) (by kernel_rfl) (by simp) ?_
  refine AllReadyH.cons rfl (fun K9_ hK=>?_) (AllReadyH.cons rfl (fun K9_ hK=>?_) AllReadyH.nil)
  ·go_simp
   obtain⟨b0,hb0⟩:=eX (W0.heap.size)
   obtain⟨W1,hW1⟩:=eX (W0.alloc (.cells #[] 37))
   rw[←hb0,←hW1]
   have jW1:Kp W0 W1:=by rw[hW1];exact Kp.af _ _
   have XW1:Hid (Kp w3 W1):=XW0.out.tr jW1
   have SY:Hid (fJ w3.heap.size W1 (.slice (some ⟨b0,0,none⟩) 0 0) []):=by show fJ _ _ _ _;rw[hW1,hb0];exact fJ.zero _ XW0.out.size
   have L0:Hid (w3.heap.size≤b0):=by show _≤_;rw[hb0];exact XW0.out.size
   clear hb0 hW1 jW1
   refine hK.out _ _ (HSS.out _ XW1.out) fun hHeld=>?_
   clear hK
   refine wpAnyH_ready (rs:=[2,4]) (by kernel_rfl) (by simp) ?_
   refine AllReadyH.cons rfl (fun K9_ hK=>?_) (AllReadyH.cons rfl (fun K9_ hK=>?_) AllReadyH.nil)
   ·refine cB (B:=w3.heap.size) (.tmp 40) (.tmp 41) rfl (.slice (some ⟨b0,0,none⟩) 0 0) [] rfl SY.out A c l n rfl HNL.out ((HLL.out.kp K3.out).old.mono XW1.out (fun k hk _ e=>MK L0.out hk e)) (by have:=HNL.out;simp;omega) XW1.out.size ?_
    intro zz A2 c2 W2 HZ o2 bl2 eq2
    have XW2:Hid (Kp w3 W2):=XW1.out.trans bl2
    have VF:=lH o2
    clear o2 bl2 eq2
    refine hK.out _ _ (HSS.out _ XW2.out) fun hHeld=>?_
    clear hK
    refine rD 4 rfl fun K9_ hK=>?_
    ·go_simp
     obtain⟨b4,hb4⟩:=eX (W2.heap.size)
     obtain⟨W3,hW3⟩:=eX (W2.alloc (.cells #[.int .i64 m] 3))
     rw[←hb4,←hW3]
     have jW3:Kp W2 W3:=by rw[hW3];exact Kp.af _ _
     have XW3:Hid (Kp w3 W3):=XW2.out.tr jW3
     have UB:Hid (W3.heap[b4]?=some (.cells #[.int .i64 m] 3 (0,0))):=by show _=_;rw[hW3,hb4];exact cX _ _
     have VE:Hid (fJ w3.heap.size W3 (.slice A2 zz.length c2) zz):=VF.out.kp jW3
     clear hb4 hW3 jW3
     refine hK.out _ _ (HSS.out _ XW3.out) fun hHeld=>?_
     clear hK
     refine tK 5 (.agg #[.int .i64 3, .slice none 0 0, .slice (some ⟨b4,0,none⟩) 1 1]) rfl hHeld ?_
     refine rD 6 rfl fun K9_ hK=>?_
     ·go_simp
      obtain⟨b6,hb6⟩:=eX (W3.heap.size)
      obtain⟨W4,hW4⟩:=eX (W3.alloc (.cells #[.int .i64 3, .slice none 0 0, .slice (some ⟨b4,0,none⟩) 1 1] 37))
      rw[←hb6,←hW4]
      have jW4:Kp W3 W4:=by rw[hW4];exact Kp.af _ _
      have XW4:Hid (Kp w3 W4):=XW3.out.tr jW4
      have VU:Hid (W4.heap[b6]?=some (.cells #[.int .i64 3, .slice none 0 0, .slice (some ⟨b4,0,none⟩) 1 1] 37 (0,0))):=by show _=_;rw[hW4,hb6];exact cX _ _
      have Uq:Hid (fJ w3.heap.size W4 (.slice A2 zz.length c2) zz):=VE.out.kp jW4
      have VY:Hid (W4.heap[b4]?=_):=(jW4.block b4 (aT UB.out)).trans UB.out
      clear hb6 hW4 jW4
      refine hK.out _ _ (HSS.out _ XW4.out) fun hHeld=>?_
      clear hK
      refine rD 7 rfl fun K9_ hK=>?_
      have hrow:=lH (MJ Uq.out VY.out VU.out)
      refine cB (B:=w3.heap.size) (.tmp 42) (.tmp 46) rfl (.slice A2 zz.length c2) zz rfl Uq.out _ 1 [(3,[],[m])] 1 rfl rfl hrow.out (by rw[HZ.out];have:=HNL.out;simp;omega) XW4.out.size ?_
      intro z7 A7 c7 W7 HZ7 o7 bl7 _
      have X7:Hid (Kp w3 W7):=XW4.out.trans bl7
      have O7:=lH (gL o7)
      have hz7:Hid (z7=l++[(3,[],[m])]):=by show _=_;rw[HZ7.out,HZ.out];rfl
      clear o7 bl7
      refine hK.out _ _ (HSS.out _ X7.out) fun hHeld=>?_
      clear hK
      refine rD 10 rfl fun K9_ hK=>?_
      go_simp
      refine(HGR.out A7 c7 z7 W7 (K3.out.tr X7.out) hz7.out O7.out.1 O7.out.2.1 O7.out.2.2).mono ?_;rintro e0 w4 ⟨G,cg,rfl,b4_,l4_,k4⟩
      dsimp only
      have X8:Hid (Kp w3 w4):=X7.out.tr k4
      clear k4
      refine hK.out _ _ (HSS.out _ X8.out) fun hHeld=>?_
      clear hK
      refine tK 11 (.tuple #[.slice G g.length cg, .int .i64 loss, .int .i64 ga, .int .i64 ge]) rfl hHeld<|tK 12 (.slice G g.length cg) rfl hHeld<|tK 13 (.int .i64 loss) rfl hHeld<|tK 14 (.int .i64 ga) rfl hHeld<|tK 15 (.int .i64 ge) rfl hHeld ?_
      refine rD 16 rfl fun K9_ hK=>?_
      go_simp
      refine hK.out _ _ (HSS.out _ X8.out) fun hHeld=>?_
      clear hK
      refine rD 17 rfl fun K9_ hK=>?_
      go_simp
      refine hK.out _ _ (HSS.out _ X8.out) fun hHeld=>?_
      clear hK
      refine rD 18 rfl fun K9_ hK=>?_
      go_simp
      refine hK.out _ _ (HSS.out _ X8.out) fun hHeld=>?_
      clear hK
      refine rD 19 rfl fun K9_ hK=>?_
      go_simp
      refine hK.out _ _ (HSS.out _ X8.out) fun hHeld=>?_
      clear hK
      refine wpAnyH_done (by kernel_rfl) ?_ _
      clear hHeld
      go_wp2
      go_meet
      exact⟨G,cg,rfl,rfl,rfl,rfl,b4_,l4_,K3.out.tr X8.out⟩
   ·go_simp
    obtain⟨b4,hb4⟩:=eX (W1.heap.size)
    obtain⟨W5,hW5⟩:=eX (W1.alloc (.cells #[.int .i64 m] 3))
    rw[←hb4,←hW5]
    have jW5:Kp W1 W5:=by rw[hW5];exact Kp.af _ _
    have XW5:Hid (Kp w3 W5):=XW1.out.tr jW5
    have QO:Hid (W5.heap[b4]?=some (.cells #[.int .i64 m] 3 (0,0))):=by show _=_;rw[hW5,hb4];exact cX _ _
    have SR:Hid (fJ w3.heap.size W5 (.slice (some ⟨b0,0,none⟩) 0 0) []):=SY.out.kp jW5
    have E4:Hid (b4≠b0):=by show _≠_;have:=SY.out.fP (k:=b0) rfl;omega
    clear hb4 hW5 jW5
    refine hK.out _ _ (HSS.out _ XW5.out) fun hHeld=>?_
    clear hK
    refine tK 5 (.agg #[.int .i64 3, .slice none 0 0, .slice (some ⟨b4,0,none⟩) 1 1]) rfl hHeld ?_
    refine wpAnyH_ready (rs:=[2,6]) (by kernel_rfl) (by simp) ?_
    refine AllReadyH.cons rfl (fun K9_ hK=>?_) (AllReadyH.cons rfl (fun K9_ hK=>?_) AllReadyH.nil)
    ·refine cB (B:=w3.heap.size) (.tmp 40) (.tmp 41) rfl (.slice (some ⟨b0,0,none⟩) 0 0) [] rfl SR.out A c l n rfl HNL.out ((HLL.out.kp K3.out).old.mono XW5.out (fun k hk _ e=>MK L0.out hk e)) (by have:=HNL.out;simp;omega) XW5.out.size ?_
     intro zz A2 c2 W6 HZ o2 bl2 eq2
     have XW6:Hid (Kp w3 W6):=XW5.out.trans bl2
     have VD:=lH o2
     have UA:Hid (W6.heap[b4]?=_):=(eq2 b4 (aT QO.out) (fun e=>E4.out (by simpa [Value.ownBlock]using e))).trans QO.out
     clear o2 bl2 eq2
     refine hK.out _ _ (HSS.out _ XW6.out) fun hHeld=>?_
     clear hK
     refine rD 6 rfl fun K9_ hK=>?_
     ·go_simp
      obtain⟨b6,hb6⟩:=eX (W6.heap.size)
      obtain⟨W7,hW7⟩:=eX (W6.alloc (.cells #[.int .i64 3, .slice none 0 0, .slice (some ⟨b4,0,none⟩) 1 1] 37))
      rw[←hb6,←hW7]
      have jW7:Kp W6 W7:=by rw[hW7];exact Kp.af _ _
      have XW7:Hid (Kp w3 W7):=XW6.out.tr jW7
      have VT:Hid (W7.heap[b6]?=some (.cells #[.int .i64 3, .slice none 0 0, .slice (some ⟨b4,0,none⟩) 1 1] 37 (0,0))):=by show _=_;rw[hW7,hb6];exact cX _ _
      have Uo:Hid (fJ w3.heap.size W7 (.slice A2 zz.length c2) zz):=VD.out.kp jW7
      have VX:Hid (W7.heap[b4]?=_):=(jW7.block b4 (aT UA.out)).trans UA.out
      clear hb6 hW7 jW7
      refine hK.out _ _ (HSS.out _ XW7.out) fun hHeld=>?_
      clear hK
      refine rD 7 rfl fun K9_ hK=>?_
      have hrow:=lH (MJ Uo.out VX.out VT.out)
      refine cB (B:=w3.heap.size) (.tmp 42) (.tmp 46) rfl (.slice A2 zz.length c2) zz rfl Uo.out _ 1 [(3,[],[m])] 1 rfl rfl hrow.out (by rw[HZ.out];have:=HNL.out;simp;omega) XW7.out.size ?_
      intro z7 A7 c7 W7 HZ7 o7 bl7 _
      have X7:Hid (Kp w3 W7):=XW7.out.trans bl7
      have O7:=lH (gL o7)
      have hz7:Hid (z7=l++[(3,[],[m])]):=by show _=_;rw[HZ7.out,HZ.out];rfl
      clear o7 bl7
      refine hK.out _ _ (HSS.out _ X7.out) fun hHeld=>?_
      clear hK
      refine rD 10 rfl fun K9_ hK=>?_
      go_simp
      refine(HGR.out A7 c7 z7 W7 (K3.out.tr X7.out) hz7.out O7.out.1 O7.out.2.1 O7.out.2.2).mono ?_;rintro e0 w4 ⟨G,cg,rfl,b4_,l4_,k4⟩
      dsimp only
      have X8:Hid (Kp w3 w4):=X7.out.tr k4
      clear k4
      refine hK.out _ _ (HSS.out _ X8.out) fun hHeld=>?_
      clear hK
      refine tK 11 (.tuple #[.slice G g.length cg, .int .i64 loss, .int .i64 ga, .int .i64 ge]) rfl hHeld<|tK 12 (.slice G g.length cg) rfl hHeld<|tK 13 (.int .i64 loss) rfl hHeld<|tK 14 (.int .i64 ga) rfl hHeld<|tK 15 (.int .i64 ge) rfl hHeld ?_
      refine rD 16 rfl fun K9_ hK=>?_
      go_simp
      refine hK.out _ _ (HSS.out _ X8.out) fun hHeld=>?_
      clear hK
      refine rD 17 rfl fun K9_ hK=>?_
      go_simp
      refine hK.out _ _ (HSS.out _ X8.out) fun hHeld=>?_
      clear hK
      refine rD 18 rfl fun K9_ hK=>?_
      go_simp
      refine hK.out _ _ (HSS.out _ X8.out) fun hHeld=>?_
      clear hK
      refine rD 19 rfl fun K9_ hK=>?_
      go_simp
      refine hK.out _ _ (HSS.out _ X8.out) fun hHeld=>?_
      clear hK
      refine wpAnyH_done (by kernel_rfl) ?_ _
      clear hHeld
      go_wp2
      go_meet
      exact⟨G,cg,rfl,rfl,rfl,rfl,b4_,l4_,K3.out.tr X8.out⟩
    ·go_simp
     obtain⟨b6,hb6⟩:=eX (W5.heap.size)
     obtain⟨W8,hW8⟩:=eX (W5.alloc (.cells #[.int .i64 3, .slice none 0 0, .slice (some ⟨b4,0,none⟩) 1 1] 37))
     rw[←hb6,←hW8]
     have jW8:Kp W5 W8:=by rw[hW8];exact Kp.af _ _
     have XW8:Hid (Kp w3 W8):=XW5.out.tr jW8
     have Uy:Hid (W8.heap[b6]?=some (.cells #[.int .i64 3, .slice none 0 0, .slice (some ⟨b4,0,none⟩) 1 1] 37 (0,0))):=by show _=_;rw[hW8,hb6];exact cX _ _
     have VH:Hid (fJ w3.heap.size W8 (.slice (some ⟨b0,0,none⟩) 0 0) []):=SR.out.kp jW8
     have Uz:Hid (W8.heap[b4]?=_):=(jW8.block b4 (aT QO.out)).trans QO.out
     have E6:Hid (b6≠b0):=by show _≠_;have:=SR.out.fP (k:=b0) rfl;omega
     clear hb6 hW8 jW8
     refine hK.out _ _ (HSS.out _ XW8.out) fun hHeld=>?_
     clear hK
     refine rD 2 rfl fun K9_ hK=>?_
     ·refine cB (B:=w3.heap.size) (.tmp 40) (.tmp 41) rfl (.slice (some ⟨b0,0,none⟩) 0 0) [] rfl VH.out A c l n rfl HNL.out ((HLL.out.kp K3.out).old.mono XW8.out (fun k hk _ e=>MK L0.out hk e)) (by have:=HNL.out;simp;omega) XW8.out.size ?_
      intro zz A2 c2 W9 HZ o2 bl2 eq2
      have XW9:Hid (Kp w3 W9):=XW8.out.trans bl2
      have Un:=lH o2
      have VW:Hid (W9.heap[b4]?=_):=(eq2 b4 (aT Uz.out) (fun e=>E4.out (by simpa [Value.ownBlock]using e))).trans Uz.out
      have VS:Hid (W9.heap[b6]?=_):=(eq2 b6 (aT Uy.out) (fun e=>E6.out (by simpa [Value.ownBlock]using e))).trans Uy.out
      clear o2 bl2 eq2
      refine hK.out _ _ (HSS.out _ XW9.out) fun hHeld=>?_
      clear hK
      refine rD 7 rfl fun K9_ hK=>?_
      have hrow:=lH (MJ Un.out VW.out VS.out)
      refine cB (B:=w3.heap.size) (.tmp 42) (.tmp 46) rfl (.slice A2 zz.length c2) zz rfl Un.out _ 1 [(3,[],[m])] 1 rfl rfl hrow.out (by rw[HZ.out];have:=HNL.out;simp;omega) XW9.out.size ?_
      intro z7 A7 c7 W7 HZ7 o7 bl7 _
      have X7:Hid (Kp w3 W7):=XW9.out.trans bl7
      have O7:=lH (gL o7)
      have hz7:Hid (z7=l++[(3,[],[m])]):=by show _=_;rw[HZ7.out,HZ.out];rfl
      clear o7 bl7
      refine hK.out _ _ (HSS.out _ X7.out) fun hHeld=>?_
      clear hK
      refine rD 10 rfl fun K9_ hK=>?_
      go_simp
      refine(HGR.out A7 c7 z7 W7 (K3.out.tr X7.out) hz7.out O7.out.1 O7.out.2.1 O7.out.2.2).mono ?_;rintro e0 w4 ⟨G,cg,rfl,b4_,l4_,k4⟩
      dsimp only
      have X8:Hid (Kp w3 w4):=X7.out.tr k4
      clear k4
      refine hK.out _ _ (HSS.out _ X8.out) fun hHeld=>?_
      clear hK
      refine tK 11 (.tuple #[.slice G g.length cg, .int .i64 loss, .int .i64 ga, .int .i64 ge]) rfl hHeld<|tK 12 (.slice G g.length cg) rfl hHeld<|tK 13 (.int .i64 loss) rfl hHeld<|tK 14 (.int .i64 ga) rfl hHeld<|tK 15 (.int .i64 ge) rfl hHeld ?_
      refine rD 16 rfl fun K9_ hK=>?_
      go_simp
      refine hK.out _ _ (HSS.out _ X8.out) fun hHeld=>?_
      clear hK
      refine rD 17 rfl fun K9_ hK=>?_
      go_simp
      refine hK.out _ _ (HSS.out _ X8.out) fun hHeld=>?_
      clear hK
      refine rD 18 rfl fun K9_ hK=>?_
      go_simp
      refine hK.out _ _ (HSS.out _ X8.out) fun hHeld=>?_
      clear hK
      refine rD 19 rfl fun K9_ hK=>?_
      go_simp
      refine hK.out _ _ (HSS.out _ X8.out) fun hHeld=>?_
      clear hK
      refine wpAnyH_done (by kernel_rfl) ?_ _
      clear hHeld
      go_wp2
      go_meet
      exact⟨G,cg,rfl,rfl,rfl,rfl,b4_,l4_,K3.out.tr X8.out⟩
  ·go_simp
   obtain⟨b4,hb4⟩:=eX (W0.heap.size)
   obtain⟨W10,QF⟩:=eX (W0.alloc (.cells #[.int .i64 m] 3))
   rw[←hb4,←QF]
   have TH:Kp W0 W10:=by rw[QF];exact Kp.af _ _
   have PS:Hid (Kp w3 W10):=XW0.out.tr TH
   have DJ:Hid (W10.heap[b4]?=some (.cells #[.int .i64 m] 3 (0,0))):=by show _=_;rw[QF,hb4];exact cX _ _
   clear hb4 QF TH
   refine hK.out _ _ (HSS.out _ PS.out) fun hHeld=>?_
   clear hK
   refine tK 5 (.agg #[.int .i64 3, .slice none 0 0, .slice (some ⟨b4,0,none⟩) 1 1]) rfl hHeld ?_
   refine wpAnyH_ready (rs:=[0,6]) (by kernel_rfl) (by simp) ?_
   refine AllReadyH.cons rfl (fun K9_ hK=>?_) (AllReadyH.cons rfl (fun K9_ hK=>?_) AllReadyH.nil)
   ·go_simp
    obtain⟨b0,hb0⟩:=eX (W10.heap.size)
    obtain⟨W11,QE⟩:=eX (W10.alloc (.cells #[] 37))
    rw[←hb0,←QE]
    have RF:Kp W10 W11:=by rw[QE];exact Kp.af _ _
    have PO:Hid (Kp w3 W11):=PS.out.tr RF
    have MB:Hid (fJ w3.heap.size W11 (.slice (some ⟨b0,0,none⟩) 0 0) []):=by show fJ _ _ _ _;rw[QE,hb0];exact fJ.zero _ PS.out.size
    have L0:Hid (w3.heap.size≤b0):=by show _≤_;rw[hb0];exact PS.out.size
    have Iq:Hid (W11.heap[b4]?=_):=(RF.block b4 (aT DJ.out)).trans DJ.out
    have E4:Hid (b4≠b0):=by show _≠_;have:=aT DJ.out;omega
    clear hb0 QE RF
    refine hK.out _ _ (HSS.out _ PO.out) fun hHeld=>?_
    clear hK
    refine wpAnyH_ready (rs:=[2,6]) (by kernel_rfl) (by simp) ?_
    refine AllReadyH.cons rfl (fun K9_ hK=>?_) (AllReadyH.cons rfl (fun K9_ hK=>?_) AllReadyH.nil)
    ·refine cB (B:=w3.heap.size) (.tmp 40) (.tmp 41) rfl (.slice (some ⟨b0,0,none⟩) 0 0) [] rfl MB.out A c l n rfl HNL.out ((HLL.out.kp K3.out).old.mono PO.out (fun k hk _ e=>MK L0.out hk e)) (by have:=HNL.out;simp;omega) PO.out.size ?_
     intro zz A2 c2 W12 HZ o2 bl2 eq2
     have Ul:Hid (Kp w3 W12):=PO.out.trans bl2
     have SQ:=lH o2
     have Qf:Hid (W12.heap[b4]?=_):=(eq2 b4 (aT Iq.out) (fun e=>E4.out (by simpa [Value.ownBlock]using e))).trans Iq.out
     clear o2 bl2 eq2
     refine hK.out _ _ (HSS.out _ Ul.out) fun hHeld=>?_
     clear hK
     refine rD 6 rfl fun K9_ hK=>?_
     ·go_simp
      obtain⟨b6,hb6⟩:=eX (W12.heap.size)
      obtain⟨W13,QC⟩:=eX (W12.alloc (.cells #[.int .i64 3, .slice none 0 0, .slice (some ⟨b4,0,none⟩) 1 1] 37))
      rw[←hb6,←QC]
      have Qu:Kp W12 W13:=by rw[QC];exact Kp.af _ _
      have SK:Hid (Kp w3 W13):=Ul.out.tr Qu
      have Te:Hid (W13.heap[b6]?=some (.cells #[.int .i64 3, .slice none 0 0, .slice (some ⟨b4,0,none⟩) 1 1] 37 (0,0))):=by show _=_;rw[QC,hb6];exact cX _ _
      have P8:Hid (fJ w3.heap.size W13 (.slice A2 zz.length c2) zz):=SQ.out.kp Qu
      have Tj:Hid (W13.heap[b4]?=_):=(Qu.block b4 (aT Qf.out)).trans Qf.out
      clear hb6 QC Qu
      refine hK.out _ _ (HSS.out _ SK.out) fun hHeld=>?_
      clear hK
      refine rD 7 rfl fun K9_ hK=>?_
      have hrow:=lH (MJ P8.out Tj.out Te.out)
      refine cB (B:=w3.heap.size) (.tmp 42) (.tmp 46) rfl (.slice A2 zz.length c2) zz rfl P8.out _ 1 [(3,[],[m])] 1 rfl rfl hrow.out (by rw[HZ.out];have:=HNL.out;simp;omega) SK.out.size ?_
      intro z7 A7 c7 W7 HZ7 o7 bl7 _
      have X7:Hid (Kp w3 W7):=SK.out.trans bl7
      have O7:=lH (gL o7)
      have hz7:Hid (z7=l++[(3,[],[m])]):=by show _=_;rw[HZ7.out,HZ.out];rfl
      clear o7 bl7
      refine hK.out _ _ (HSS.out _ X7.out) fun hHeld=>?_
      clear hK
      refine rD 10 rfl fun K9_ hK=>?_
      go_simp
      refine(HGR.out A7 c7 z7 W7 (K3.out.tr X7.out) hz7.out O7.out.1 O7.out.2.1 O7.out.2.2).mono ?_;rintro e0 w4 ⟨G,cg,rfl,b4_,l4_,k4⟩
      dsimp only
      have X8:Hid (Kp w3 w4):=X7.out.tr k4
      clear k4
      refine hK.out _ _ (HSS.out _ X8.out) fun hHeld=>?_
      clear hK
      refine tK 11 (.tuple #[.slice G g.length cg, .int .i64 loss, .int .i64 ga, .int .i64 ge]) rfl hHeld<|tK 12 (.slice G g.length cg) rfl hHeld<|tK 13 (.int .i64 loss) rfl hHeld<|tK 14 (.int .i64 ga) rfl hHeld<|tK 15 (.int .i64 ge) rfl hHeld ?_
      refine rD 16 rfl fun K9_ hK=>?_
      go_simp
      refine hK.out _ _ (HSS.out _ X8.out) fun hHeld=>?_
      clear hK
      refine rD 17 rfl fun K9_ hK=>?_
      go_simp
      refine hK.out _ _ (HSS.out _ X8.out) fun hHeld=>?_
      clear hK
      refine rD 18 rfl fun K9_ hK=>?_
      go_simp
      refine hK.out _ _ (HSS.out _ X8.out) fun hHeld=>?_
      clear hK
      refine rD 19 rfl fun K9_ hK=>?_
      go_simp
      refine hK.out _ _ (HSS.out _ X8.out) fun hHeld=>?_
      clear hK
      refine wpAnyH_done (by kernel_rfl) ?_ _
      clear hHeld
      go_wp2
      go_meet
      exact⟨G,cg,rfl,rfl,rfl,rfl,b4_,l4_,K3.out.tr X8.out⟩
    ·go_simp
     obtain⟨b6,hb6⟩:=eX (W11.heap.size)
     obtain⟨W14,QB⟩:=eX (W11.alloc (.cells #[.int .i64 3, .slice none 0 0, .slice (some ⟨b4,0,none⟩) 1 1] 37))
     rw[←hb6,←QB]
     have Qt:Kp W11 W14:=by rw[QB];exact Kp.af _ _
     have QL:Hid (Kp w3 W14):=PO.out.tr Qt
     have Qc:Hid (W14.heap[b6]?=some (.cells #[.int .i64 3, .slice none 0 0, .slice (some ⟨b4,0,none⟩) 1 1] 37 (0,0))):=by show _=_;rw[QB,hb6];exact cX _ _
     have SX:Hid (fJ w3.heap.size W14 (.slice (some ⟨b0,0,none⟩) 0 0) []):=MB.out.kp Qt
     have Qe:Hid (W14.heap[b4]?=_):=(Qt.block b4 (aT Iq.out)).trans Iq.out
     have E6:Hid (b6≠b0):=by show _≠_;have:=MB.out.fP (k:=b0) rfl;omega
     clear hb6 QB Qt
     refine hK.out _ _ (HSS.out _ QL.out) fun hHeld=>?_
     clear hK
     refine rD 2 rfl fun K9_ hK=>?_
     ·refine cB (B:=w3.heap.size) (.tmp 40) (.tmp 41) rfl (.slice (some ⟨b0,0,none⟩) 0 0) [] rfl SX.out A c l n rfl HNL.out ((HLL.out.kp K3.out).old.mono QL.out (fun k hk _ e=>MK L0.out hk e)) (by have:=HNL.out;simp;omega) QL.out.size ?_
      intro zz A2 c2 W15 HZ o2 bl2 eq2
      have SI:Hid (Kp w3 W15):=QL.out.trans bl2
      have P3:=lH o2
      have Ti:Hid (W15.heap[b4]?=_):=(eq2 b4 (aT Qe.out) (fun e=>E4.out (by simpa [Value.ownBlock]using e))).trans Qe.out
      have Td:Hid (W15.heap[b6]?=_):=(eq2 b6 (aT Qc.out) (fun e=>E6.out (by simpa [Value.ownBlock]using e))).trans Qc.out
      clear o2 bl2 eq2
      refine hK.out _ _ (HSS.out _ SI.out) fun hHeld=>?_
      clear hK
      refine rD 7 rfl fun K9_ hK=>?_
      have hrow:=lH (MJ P3.out Ti.out Td.out)
      refine cB (B:=w3.heap.size) (.tmp 42) (.tmp 46) rfl (.slice A2 zz.length c2) zz rfl P3.out _ 1 [(3,[],[m])] 1 rfl rfl hrow.out (by rw[HZ.out];have:=HNL.out;simp;omega) SI.out.size ?_
      intro z7 A7 c7 W7 HZ7 o7 bl7 _
      have X7:Hid (Kp w3 W7):=SI.out.trans bl7
      have O7:=lH (gL o7)
      have hz7:Hid (z7=l++[(3,[],[m])]):=by show _=_;rw[HZ7.out,HZ.out];rfl
      clear o7 bl7
      refine hK.out _ _ (HSS.out _ X7.out) fun hHeld=>?_
      clear hK
      refine rD 10 rfl fun K9_ hK=>?_
      go_simp
      refine(HGR.out A7 c7 z7 W7 (K3.out.tr X7.out) hz7.out O7.out.1 O7.out.2.1 O7.out.2.2).mono ?_;rintro e0 w4 ⟨G,cg,rfl,b4_,l4_,k4⟩
      dsimp only
      have X8:Hid (Kp w3 w4):=X7.out.tr k4
      clear k4
      refine hK.out _ _ (HSS.out _ X8.out) fun hHeld=>?_
      clear hK
      refine tK 11 (.tuple #[.slice G g.length cg, .int .i64 loss, .int .i64 ga, .int .i64 ge]) rfl hHeld<|tK 12 (.slice G g.length cg) rfl hHeld<|tK 13 (.int .i64 loss) rfl hHeld<|tK 14 (.int .i64 ga) rfl hHeld<|tK 15 (.int .i64 ge) rfl hHeld ?_
      refine rD 16 rfl fun K9_ hK=>?_
      go_simp
      refine hK.out _ _ (HSS.out _ X8.out) fun hHeld=>?_
      clear hK
      refine rD 17 rfl fun K9_ hK=>?_
      go_simp
      refine hK.out _ _ (HSS.out _ X8.out) fun hHeld=>?_
      clear hK
      refine rD 18 rfl fun K9_ hK=>?_
      go_simp
      refine hK.out _ _ (HSS.out _ X8.out) fun hHeld=>?_
      clear hK
      refine rD 19 rfl fun K9_ hK=>?_
      go_simp
      refine hK.out _ _ (HSS.out _ X8.out) fun hHeld=>?_
      clear hK
      refine wpAnyH_done (by kernel_rfl) ?_ _
      clear hHeld
      go_wp2
      go_meet
      exact⟨G,cg,rfl,rfl,rfl,rfl,b4_,l4_,K3.out.tr X8.out⟩
   ·go_simp
    obtain⟨b6,hb6⟩:=eX (W10.heap.size)
    obtain⟨W16,QA⟩:=eX (W10.alloc (.cells #[.int .i64 3, .slice none 0 0, .slice (some ⟨b4,0,none⟩) 1 1] 37))
    rw[←hb6,←QA]
    have RE:Kp W10 W16:=by rw[QA];exact Kp.af _ _
    have QK:Hid (Kp w3 W16):=PS.out.tr RE
    have MF:Hid (W16.heap[b6]?=some (.cells #[.int .i64 3, .slice none 0 0, .slice (some ⟨b4,0,none⟩) 1 1] 37 (0,0))):=by show _=_;rw[QA,hb6];exact cX _ _
    have MG:Hid (W16.heap[b4]?=_):=(RE.block b4 (aT DJ.out)).trans DJ.out
    clear hb6 QA RE
    refine hK.out _ _ (HSS.out _ QK.out) fun hHeld=>?_
    clear hK
    refine rD 0 rfl fun K9_ hK=>?_
    ·go_simp
     obtain⟨b0,hb0⟩:=eX (W16.heap.size)
     obtain⟨W17,Qz⟩:=eX (W16.alloc (.cells #[] 37))
     rw[←hb0,←Qz]
     have Qs:Kp W16 W17:=by rw[Qz];exact Kp.af _ _
     have QJ:Hid (Kp w3 W17):=QK.out.tr Qs
     have SV:Hid (fJ w3.heap.size W17 (.slice (some ⟨b0,0,none⟩) 0 0) []):=by show fJ _ _ _ _;rw[Qz,hb0];exact fJ.zero _ QK.out.size
     have L0:Hid (w3.heap.size≤b0):=by show _≤_;rw[hb0];exact QK.out.size
     have Qd:Hid (W17.heap[b4]?=_):=(Qs.block b4 (aT MG.out)).trans MG.out
     have Qb:Hid (W17.heap[b6]?=_):=(Qs.block b6 (aT MF.out)).trans MF.out
     have E4:Hid (b4≠b0):=by show _≠_;have:=aT MG.out;omega
     have E6:Hid (b6≠b0):=by show _≠_;have:=aT MF.out;omega
     clear hb0 Qz Qs
     refine hK.out _ _ (HSS.out _ QJ.out) fun hHeld=>?_
     clear hK
     refine rD 2 rfl fun K9_ hK=>?_
     ·refine cB (B:=w3.heap.size) (.tmp 40) (.tmp 41) rfl (.slice (some ⟨b0,0,none⟩) 0 0) [] rfl SV.out A c l n rfl HNL.out ((HLL.out.kp K3.out).old.mono QJ.out (fun k hk _ e=>MK L0.out hk e)) (by have:=HNL.out;simp;omega) QJ.out.size ?_
      intro zz A2 c2 W18 HZ o2 bl2 eq2
      have SH:Hid (Kp w3 W18):=QJ.out.trans bl2
      have P0:=lH o2
      have Tf:Hid (W18.heap[b4]?=_):=(eq2 b4 (aT Qd.out) (fun e=>E4.out (by simpa [Value.ownBlock]using e))).trans Qd.out
      have Tc:Hid (W18.heap[b6]?=_):=(eq2 b6 (aT Qb.out) (fun e=>E6.out (by simpa [Value.ownBlock]using e))).trans Qb.out
      clear o2 bl2 eq2
      refine hK.out _ _ (HSS.out _ SH.out) fun hHeld=>?_
      clear hK
      refine rD 7 rfl fun K9_ hK=>?_
      have hrow:=lH (MJ P0.out Tf.out Tc.out)
      refine cB (B:=w3.heap.size) (.tmp 42) (.tmp 46) rfl (.slice A2 zz.length c2) zz rfl P0.out _ 1 [(3,[],[m])] 1 rfl rfl hrow.out (by rw[HZ.out];have:=HNL.out;simp;omega) SH.out.size ?_
      intro z7 A7 c7 W7 HZ7 o7 bl7 _
      have X7:Hid (Kp w3 W7):=SH.out.trans bl7
      have O7:=lH (gL o7)
      have hz7:Hid (z7=l++[(3,[],[m])]):=by show _=_;rw[HZ7.out,HZ.out];rfl
      clear o7 bl7
      refine hK.out _ _ (HSS.out _ X7.out) fun hHeld=>?_
      clear hK
      refine rD 10 rfl fun K9_ hK=>?_
      go_simp
      refine(HGR.out A7 c7 z7 W7 (K3.out.tr X7.out) hz7.out O7.out.1 O7.out.2.1 O7.out.2.2).mono ?_;rintro e0 w4 ⟨G,cg,rfl,b4_,l4_,k4⟩
      dsimp only
      have X8:Hid (Kp w3 w4):=X7.out.tr k4
      clear k4
      refine hK.out _ _ (HSS.out _ X8.out) fun hHeld=>?_
      clear hK
      refine tK 11 (.tuple #[.slice G g.length cg, .int .i64 loss, .int .i64 ga, .int .i64 ge]) rfl hHeld<|tK 12 (.slice G g.length cg) rfl hHeld<|tK 13 (.int .i64 loss) rfl hHeld<|tK 14 (.int .i64 ga) rfl hHeld<|tK 15 (.int .i64 ge) rfl hHeld ?_
      refine rD 16 rfl fun K9_ hK=>?_
      go_simp
      refine hK.out _ _ (HSS.out _ X8.out) fun hHeld=>?_
      clear hK
      refine rD 17 rfl fun K9_ hK=>?_
      go_simp
      refine hK.out _ _ (HSS.out _ X8.out) fun hHeld=>?_
      clear hK
      refine rD 18 rfl fun K9_ hK=>?_
      go_simp
      refine hK.out _ _ (HSS.out _ X8.out) fun hHeld=>?_
      clear hK
      refine rD 19 rfl fun K9_ hK=>?_
      go_simp
      refine hK.out _ _ (HSS.out _ X8.out) fun hHeld=>?_
      clear hK
      refine wpAnyH_done (by kernel_rfl) ?_ _
      clear hHeld
      go_wp2
      go_meet
      exact⟨G,cg,rfl,rfl,rfl,rfl,b4_,l4_,K3.out.tr X8.out⟩
 case rest=>
  obtain⟨G,cg,rfl,rfl,rfl,rfl,rG,lG,kG⟩:=hcut
  rcases HNN.out with⟨h1,i,er,j,e1,e2,e3⟩|⟨h1,g',e1,e2,e3⟩
  ·injection e1 with e1 e4
   injection e4 with e4 e5
   injection e3 with e3 e6
   injection e6 with e6 e7
   injection e7 with e7 e8
   subst e1 e4 e5 e3 e6 e7 e8
   have q1:(ge !=0)=true:=by simpa using e2
   have q2:(0:Int)<(n:Int):=by rw[HNL.out];omega
   have q3:(ge==ge)=true:=by simp
   clear e2 h1
   go_wp2
   go_ret
   exact⟨rfl,kG.out⟩
  ·injection e1 with e1 e4
   injection e4 with e4 e5
   injection e5 with e5 e6
   subst e1 e4 e5 e6
   have H8:=lH e2
   have HZ:=lH e3
   rw[e2]
   clear e2 e3
   by_cases b0:err=0
   ·subst b0
    clear h1
    go_wp2
    go_loopw [17] (fun i wx=>∃k:Nat,i= .int .i64 (k:Int)∧Hid (k≤8)∧Hid (Kp wc wx)) (fun i _=>8-(intOf i).toNat)
    case atStart=>exact⟨0,rfl,Nat.zero_le _,Kp.refl _⟩
    case round=>
     obtain⟨k1,rfl,hk1,hKa⟩:=hrel
     obtain⟨wo,hwo⟩:=eX (wr)
     subst hwo
     by_cases hj:k1<8
     ·have hj':(k1:Int)<8:=by omega
      obtain⟨tk,htk⟩:∃tk,g[k1]?=some tk:=⟨_,List.getElem?_eq_getElem (by rw[H8.out];exact hj)⟩
      obtain⟨ad,P1,c1,Q1,d1,rfl,hlt,x1,x2,x3⟩:=cx (rG.out.kp hKa.out) htk
      have HZ1:Hid (∀y∈tk.2,y=0):=HZ.out tk (List.mem_of_getElem? htk)
      have HQ:Hid (Rd wo Q1 tk.2):=x3.r.d
      obtain⟨q,hq⟩:=eX (tk.2)
      rw[←hq]at x2 HZ1 HQ
      have ql:=HQ.out.len
      have HX2:Hid (∀V,Kp wo V→V.cell? ⟨(ad.add (k1*2)).block,(ad.add (k1*2)).off+1,none⟩=some (.slice Q1 q.length d1)):=fun V kV=>(kV.cell (p:=⟨(ad.add (k1*2)).block,(ad.add (k1*2)).off+1,none⟩) (by show(ad.add (k1*2)).block<_;rw[ah];exact hlt)).trans x2
      clear htk x1 x3 hq
      go_wp2
      go_loopw [18] (fun i wx=>∃j:Nat,i= .int .i64 (j:Int)∧Hid (j≤q.length)∧Hid (Kp wo wx)) (fun i _=>q.length-(intOf i).toNat)
      case atStart=>exact⟨0,rfl,Nat.zero_le _,Kp.refl _⟩
      case round=>
       obtain⟨j1,rfl,hj1,hKb⟩:=hrel
       have y2:=HX2.out _ hKb.out
       clear x2
       by_cases hi:j1<q.length
       ·have hi':(j1:Int)<(q.length:Int):=by omega
        obtain⟨aq,u,rfl,hlq,huq,hcq⟩:=(HQ.out.kp hKb.out).at_ hi
        have hu0:u=0:=HZ1.out u (List.mem_of_getElem? huq)
        subst hu0
        clear huq
        go_wp2
        go_roundw
        case rel=>exact⟨j1+1,by go_num,(by show j1+1≤q.length;omega),hKb.out⟩
        case measure=>simp[intOf];omega
       ·have hi':¬(j1:Int)<(q.length:Int):=by omega
        go_wp2
        go_roundw
        case rel=>exact⟨k1+1,by go_num,(by show k1+1≤8;omega),hKa.out.tr hKb.out⟩
        case measure=>simp[intOf];omega
     ·have hj':¬(k1:Int)<8:=by omega
      have hmm:(loss==loss)=true:=by simp
      go_wp2
      go_ret
      exact⟨rfl,kG.out.tr hKa.out⟩
   ·have q1:(err !=0)=true:=by simpa using b0
    have hl0:l=[]:=by
     rcases h1 with h1|h1
     ·exact absurd h1 b0
     ·exact h1
    have hn0:n=0:=by rw[HNL.out,hl0];rfl
    have q2:¬(0:Int)<(n:Int):=by omega
    clear h1 b0 hl0 hn0
    go_wp2
    go_loopw [17] (fun i wx=>∃k:Nat,i= .int .i64 (k:Int)∧Hid (k≤8)∧Hid (Kp wc wx)) (fun i _=>8-(intOf i).toNat)
    case atStart=>exact⟨0,rfl,Nat.zero_le _,Kp.refl _⟩
    case round=>
     obtain⟨k1,rfl,hk1,hKa⟩:=hrel
     obtain⟨wo,hwo⟩:=eX (wr)
     subst hwo
     by_cases hj:k1<8
     ·have hj':(k1:Int)<8:=by omega
      obtain⟨tk,htk⟩:∃tk,g[k1]?=some tk:=⟨_,List.getElem?_eq_getElem (by rw[H8.out];exact hj)⟩
      obtain⟨ad,P1,c1,Q1,d1,rfl,hlt,x1,x2,x3⟩:=cx (rG.out.kp hKa.out) htk
      have HZ1:Hid (∀y∈tk.2,y=0):=HZ.out tk (List.mem_of_getElem? htk)
      have HQ:Hid (Rd wo Q1 tk.2):=x3.r.d
      obtain⟨q,hq⟩:=eX (tk.2)
      rw[←hq]at x2 HZ1 HQ
      have ql:=HQ.out.len
      have HX2:Hid (∀V,Kp wo V→V.cell? ⟨(ad.add (k1*2)).block,(ad.add (k1*2)).off+1,none⟩=some (.slice Q1 q.length d1)):=fun V kV=>(kV.cell (p:=⟨(ad.add (k1*2)).block,(ad.add (k1*2)).off+1,none⟩) (by show(ad.add (k1*2)).block<_;rw[ah];exact hlt)).trans x2
      clear htk x1 x3 hq
      go_wp2
      go_loopw [18] (fun i wx=>∃j:Nat,i= .int .i64 (j:Int)∧Hid (j≤q.length)∧Hid (Kp wo wx)) (fun i _=>q.length-(intOf i).toNat)
      case atStart=>exact⟨0,rfl,Nat.zero_le _,Kp.refl _⟩
      case round=>
       obtain⟨j1,rfl,hj1,hKb⟩:=hrel
       have y2:=HX2.out _ hKb.out
       clear x2
       by_cases hi:j1<q.length
       ·have hi':(j1:Int)<(q.length:Int):=by omega
        obtain⟨aq,u,rfl,hlq,huq,hcq⟩:=(HQ.out.kp hKb.out).at_ hi
        have hu0:u=0:=HZ1.out u (List.mem_of_getElem? huq)
        subst hu0
        clear huq
        go_wp2
        go_roundw
        case rel=>exact⟨j1+1,by go_num,(by show j1+1≤q.length;omega),hKb.out⟩
        case measure=>simp[intOf];omega
       ·have hi':¬(j1:Int)<(q.length:Int):=by omega
        go_wp2
        go_roundw
        case rel=>exact⟨k1+1,by go_num,(by show k1+1≤8;omega),hKa.out.tr hKb.out⟩
        case measure=>simp[intOf];omega
     ·have hj':¬(k1:Int)<8:=by omega
      have hmm:(loss==loss)=true:=by simp
      go_wp2
      go_ret
      exact⟨rfl,kG.out.tr hKa.out⟩
theorem MS(C:GdC)(A P Q R:Option Addr)(c e f d:Nat)(m:Int)(l:List Nd)(t:T)(ps:List T)(w:World)(RL:RdG w A l)(N:∀t∈l,MV t)(L:l.length≤c)(M:c≤9223372036854775807)
  (RT:TRc w P e Q f t)(n1:N64 t.1∧N64 t.2)(RP:RdT w R ps)(NP:∀t∈ps,N64 t.1∧N64 t.2)(LP:ps.length≤d∧d≤9223372036854775807)(hm: -9223372036854775808≤m∧m≤9223372036854775807):
  Calls Tryz.prog 6 #[.slice A l.length c, .agg #[.slice P t.1.length e, .slice Q t.2.length f], .slice R ps.length d, .int .i64 m] w fun e w'=>e= .returned (.bool true)∧Kp w w':=by
 cases hf:(yP l&&DQ t ps)with
 |false=>exact sI C A P Q R _ _ _ c e f _ d m l t ps w rfl rfl rfl rfl RL RT.r RP (.inl hf)
 |true=>
  by_cases hb:23<l.length
  ·exact sI C A P Q R _ _ _ c e f _ d m l t ps w rfl rfl rfl rfl RL RT.r RP (.inr hb)
  ·have h1:yP l=true:=by rw[Bool.and_eq_true]at hf;exact hf.1
   have h2:DQ t ps=true:=by rw[Bool.and_eq_true]at hf;exact hf.2
   exact yM C A P Q R _ _ _ c e f _ d m l t ps w rfl rfl rfl rfl RL ⟨L,M⟩ RT RP LP (zX h1 N) (UG h2 n1.1 n1.2) (QY h2 NP) hm hf (by omega)
end Go.Proofs.YtdfknefcgijhmaaGreat
