/- TapeParts, whole. -/
import Derived.Test.YtokeebkaamjliaaGreatTpParts
import Derived.Test.YtokeebkaamjliaaGreatTpU
set_option maxHeartbeats 16000000
set_option maxRecDepth 100000
set_option linter.unusedVariables false
set_option linter.unusedSimpArgs false
namespace Go.Proofs.YtokeebkaamjliaaGreat
open RowKit ShM GrM InM ImM EvM
open ChangeShapes WideShapes ChangeAt
theorem WY:Tryz.prog.cellsOf 23=1:=by kernel_rfl
theorem Xx:Tryz.prog.cellsOf 25=2:=by kernel_rfl
theorem Xr:Tryz.prog.cellsOf 39=3:=by kernel_rfl
section
variable{H:Type}{enc:TypeId×Value->H}
theorem WO{W:World}{v:Value}{n:Nat}{y:DataW H×List MemPlace}(h:DataW.trod enc Tryz.prog W 0 (fun _=>true) true n 23 [v]=some y):
  ∃A c,∃xs:BU,v= .slice A xs.length c/\Rd W A xs/\xs.length<=c/\c<=9223372036854775807/\W64 xs:=by
 rcases open_ints Tryz.underlying23 Tryz.underlying3 Cu h with⟨hcs,_⟩|⟨a',len,cap,zs,hcs,_,hl,hm,hz,_,hcell,hwf⟩
 ·injection hcs with hcs _
  exact⟨none,0,[],hcs,Rd.nil _ _,by simp,oM,fun _ h=>by cases h⟩
 ·injection hcs with hcs _
  simp only[if_true]at hz;have ln:(zs.take len).length=len:=by simp;omega
  have hm':cap<=9223372036854775807:=by unfold maxLen at hm;omega
  refine⟨some a',cap,zs.take len,by rw[ln];exact hcs,⟨oM,fun hp=>⟨a',rfl,?_,fun j u hj=>?_⟩⟩,oM,hm',fun x hx=>Na (hwf x (List.mem_of_mem_take hx))⟩
  ·have:=yu (hcell 0 oM)
   rwa [ah]at this
  ·have hj':j<len:=by have:=(aaU.1 hj).1;omega
   rw[hcell j oM];rw[acQ,aaW hj']at hj;simp[List.getD,hj]
theorem Yg{W:World}{c0 c1 c2:Value}{n:Nat}{y:DataW H×List MemPlace}(h:DataW.trod enc Tryz.prog W 0 (fun _=>true) true n 39 [c0,c1,c2]=some y):
  ∃t:Nd,Vn W (fun _=>True) (c0,c1,c2) t/\MV t:=by
 obtain⟨y0,y1,y2,m,_,_,h0,h1,h2⟩:=Go.Deep.trod_struct3 Tryz.underlying39 h;rw[Cu]at h0;rw[WY]at h1 h2;obtain⟨op,e0,_,i0⟩:=DataW.trod_int (k:= .i64) Tryz.underlying3 h0;obtain⟨A,c,a,e1,r1,l1,m1,i1⟩:=WO (v:=c1) h1;obtain⟨B,d,b,e2,r2,l2,m2,i2⟩:=WO (v:=c2) h2;have e0':c0= .int .i64 op:=by simpa using e0
 refine⟨(op,a,b),⟨A,c,B,d,by rw[e0',e1,e2],l1,m1,l2,m2,⟨r1,r2,fun _ _ _=>trivial,fun _ _ _=>trivial⟩⟩,?_,i1,i2⟩;intro x hx;have:x=op:=by simpa using hx
 rw[this];exact Na i0
theorem Yl{W:World}{a:DV}{n c:Nat}{d:DataW H}{p:List MemPlace}(h:DataW.Trod enc Tryz.prog W 0 (fun _=>true) true 22 (.slice a n c) d p):
  ∃ts:List Nd,n=ts.length/\RdG W a ts/\(∀t∈ts,MV t)/\ts.length<=c/\c<=9223372036854775807:=by
 obtain⟨fuel,hf⟩:=h;rcases DataW.trod_slice Tryz.underlying22 hf with⟨hcs,_⟩|⟨a',len,cap,elems,rest,m,_,hcs,_,_,hl,hm,hlen,hel,_,_⟩
 ·simp[Value.cells]at hcs;obtain⟨rfl,rfl,rfl⟩:=hcs;exact⟨[],rfl,RdN.bU _ _ _,(fun _ h=>by cases h),by simp,oM⟩
 ·simp[Value.cells]at hcs;obtain⟨rfl,rfl,rfl⟩:=hcs;have hm':c<=9223372036854775807:=by unfold maxLen at hm;omega
  rw[Xr]at hel;have each:∀i:Nat,i<n->∃(q:V3) (t:Nd),W.cell? (a'.add (i*3))=some q.1/\W.cell? (a'.add (i*3+1))=some q.2.1/\W.cell? (a'.add (i*3+2))=some q.2.2/\Vn W (fun _=>True) q t/\MV t:=by
   intro i hi;have h1:=hel i hi;rw[aaV oM,acL]at h1;obtain⟨cs,hc,ht⟩:=h1;obtain⟨_,hl2,hcc⟩:=World.cells?_some hc
   match cs,hl2 with
   | [c0,c1,c2],_=>
    obtain⟨t,hv,g1⟩:=Yg ht;refine⟨(c0,c1,c2),t,?_,?_,?_,hv,g1⟩
    ·have:=hcc 0 oM;rw[Addr.add_add]at this;simpa using this
    ·have:=hcc 1 oM;rw[Addr.add_add]at this;simpa using this
    ·have:=hcc 2 oM;rw[Addr.add_add]at this;simpa using this
  have hQ:∃f:Nat->V3×Nd,∀i,i<n->W.cell? (a'.add (i*3))=some (f i).1.1/\W.cell? (a'.add (i*3+1))=some (f i).1.2.1/\W.cell? (a'.add (i*3+2))=some (f i).1.2.2/\Vn W (fun _=>True) (f i).1 (f i).2/\MV (f i).2:=by
   refine⟨fun i=>if hi:i<n then((each i hi).choose,(each i hi).choose_spec.choose)else((.nilIface, .nilIface, .nilIface),(0,[],[])),fun i hi=>?_⟩;simp only[dif_pos hi];exact(each i hi).choose_spec.choose_spec
  obtain⟨f,hf⟩:=hQ;have lt:((List.range n).map fun i=>(f i).2).length=n:=by simp
  refine⟨(List.range n).map fun i=>(f i).2,lt.symm,⟨oM,(List.range n).map fun i=>(f i).1,⟨by simp,fun j p t h1 h2=>?_⟩,fun hp=>⟨a',rfl,?_,fun j u hu=>?_⟩⟩,fun t ht=>?_,oM,hm'⟩
  ·rw[aa7,ab0]at h1 h2;obtain⟨i,h3,rfl⟩:=h1;obtain⟨i',h4,rfl⟩:=h2;obtain⟨h5,h6⟩:=aaU.1 h3;obtain⟨h7,h8⟩:=aaU.1 h4;simp at h6 h8 h5;subst h6 h8;exact(hf j h5).2.2.2.1
  ·have:=yu (hf 0 oM).1
   rwa [ah]at this
  ·have hfl:∀j,j<n->(dx ((List.range n).map fun i=>(f i).1))[j*3]?=some (f j).1.1/\(dx ((List.range n).map fun i=>(f i).1))[j*3+1]?=some (f j).1.2.1/\(dx ((List.range n).map fun i=>(f i).1))[j*3+2]?=some (f j).1.2.2:=fun j hj=>wF (by simp[hj])
   have hjl:j<n*3:=by have:=(aaU.1 hu).1;rw[iq]at this;simpa using this
   obtain⟨i,hi⟩:∃i,j=i*3∨j=i*3+1∨j=i*3+2:=⟨j/3,oM⟩
   rcases hi with rfl|rfl|rfl
   ·rw[(hfl i oM).1]at hu;rw[(hf i oM).1];exact hu
   ·rw[(hfl i oM).2.1]at hu;rw[(hf i oM).2.1];exact hu
   ·rw[(hfl i oM).2.2]at hu;rw[(hf i oM).2.2.1];exact hu
  ·rw[abN]at ht;obtain⟨i,hi,rfl⟩:=ht;exact(hf i (by simpa using hi)).2.2.2.2
theorem XG{W:World}{c0 c1:Value}{n:Nat}{y:DataW H×List MemPlace}(h:DataW.trod enc Tryz.prog W 0 (fun _=>true) true n 25 [c0,c1]=some y):
  ∃t:T,Vt W (fun _=>True) (c0,c1) t/\N64 t.1/\N64 t.2:=by
 obtain⟨y0,y1,m,_,_,h0,h1⟩:=trod_struct2 Tryz.underlying25 h;rw[WY]at h0 h1;obtain⟨A,c,s,e0,r0,l0,m0,i0⟩:=WO (v:=c0) h0;obtain⟨B,d,xs,e1,r1,l1,m1,i1⟩:=WO (v:=c1) h1;exact⟨(s,xs),⟨A,c,B,d,by rw[e0,e1],⟨r0,r1⟩,fun _ _ _=>trivial,fun _ _ _=>trivial,⟨l0,m0⟩,⟨l1,m1⟩⟩,i0,i1⟩
theorem Yt{W:World}{r:Reach}{b:Nat}{v:Value}{d:DataW H}{p:List MemPlace}(hv:Value.okWide Tryz.prog W r b 25 v)(h:DataW.Trod enc Tryz.prog W 0 (fun _=>true) true 25 v d p):
  ∃A n c B m e,v= .agg #[.slice A n c, .slice B m e]/\∃t:T,n=t.1.length/\m=t.2.length/\TRc W A c B e t/\(N64 t.1/\N64 t.2):=by
 obtain⟨v0,v1,y0,y1,n,rfl,_,_,h0,h1⟩:=Go.Joins.open_agg2 Tryz.underlying25 kM kM hv h;obtain⟨A,c,s,rfl,r1,l1,m1,i1⟩:=WO h0;obtain⟨B,e,xs,rfl,r2,l2,m2,i2⟩:=WO h1;exact⟨A,s.length,c,B,xs.length,e,rfl,(s,xs),rfl,rfl,⟨⟨r1,r2⟩,⟨l1,m1⟩,⟨l2,m2⟩⟩,i1,i2⟩
theorem Yk{W:World}{a:DV}{n c:Nat}{d:DataW H}{p:List MemPlace}(h:DataW.Trod enc Tryz.prog W 0 (fun _=>true) true 26 (.slice a n c) d p):
  ∃ts:List T,n=ts.length/\RdT W a ts/\(∀t∈ts,N64 t.1/\N64 t.2)/\ts.length<=c/\c<=9223372036854775807:=by
 obtain⟨fuel,hf⟩:=h;rcases DataW.trod_slice Tryz.underlying26 hf with⟨hcs,_⟩|⟨a',len,cap,elems,rest,m,_,hcs,_,_,hl,hm,hlen,hel,_,_⟩
 ·simp[Value.cells]at hcs;obtain⟨rfl,rfl,rfl⟩:=hcs;exact⟨[],rfl,RdX.bU _ _ _,(fun _ h=>by cases h),by simp,oM⟩
 ·simp[Value.cells]at hcs;obtain⟨rfl,rfl,rfl⟩:=hcs;have hm':c<=9223372036854775807:=by unfold maxLen at hm;omega
  rw[Xx]at hel;have each:∀i:Nat,i<n->∃(q:V2) (t:T),W.cell? (a'.add (i*2))=some q.1/\W.cell? (a'.add (i*2+1))=some q.2/\Vt W (fun _=>True) q t/\N64 t.1/\N64 t.2:=by
   intro i hi;have h1:=hel i hi;rw[aaV oM,acL]at h1;obtain⟨cs,hc,ht⟩:=h1;obtain⟨_,hl2,hcc⟩:=World.cells?_some hc
   match cs,hl2 with
   | [c0,c1],_=>
    obtain⟨t,hv,g1,g2⟩:=XG ht;refine⟨(c0,c1),t,?_,?_,hv,g1,g2⟩
    ·have:=hcc 0 oM;rw[Addr.add_add]at this;simpa using this
    ·have:=hcc 1 oM;rw[Addr.add_add]at this;simpa using this
  have hQ:∃f:Nat->V2×T,∀i,i<n->W.cell? (a'.add (i*2))=some (f i).1.1/\W.cell? (a'.add (i*2+1))=some (f i).1.2/\Vt W (fun _=>True) (f i).1 (f i).2/\N64 (f i).2.1/\N64 (f i).2.2:=by
   refine⟨fun i=>if hi:i<n then((each i hi).choose,(each i hi).choose_spec.choose)else((.nilIface, .nilIface),([],[])),fun i hi=>?_⟩;simp only[dif_pos hi];exact(each i hi).choose_spec.choose_spec
  obtain⟨f,hf⟩:=hQ;have lt:((List.range n).map fun i=>(f i).2).length=n:=by simp
  refine⟨(List.range n).map fun i=>(f i).2,lt.symm,⟨oM,(List.range n).map fun i=>(f i).1,⟨by simp,fun j p t h1 h2=>?_⟩,fun hp=>⟨a',rfl,?_,fun j u hu=>?_⟩⟩,fun t ht=>?_,oM,hm'⟩
  ·rw[aa7,ab0]at h1 h2;obtain⟨i,h3,rfl⟩:=h1;obtain⟨i',h4,rfl⟩:=h2;obtain⟨h5,h6⟩:=aaU.1 h3;obtain⟨h7,h8⟩:=aaU.1 h4;simp at h6 h8 h5;subst h6 h8;exact(hf j h5).2.2.1
  ·have:=yu (hf 0 oM).1
   rwa [ah]at this
  ·have hfl:∀j,j<n->(flat ((List.range n).map fun i=>(f i).1))[j*2]?=some (f j).1.1/\(flat ((List.range n).map fun i=>(f i).1))[j*2+1]?=some (f j).1.2:=fun j hj=>uT (by simp[hj])
   have hjl:j<n*2:=by have:=(aaU.1 hu).1;rw[dO]at this;simpa using this
   obtain⟨i,hi⟩:∃i,j=i*2∨j=i*2+1:=⟨j/2,oM⟩
   rcases hi with rfl|rfl
   ·rw[(hfl i oM).1]at hu;rw[(hf i oM).1];exact hu
   ·rw[(hfl i oM).2]at hu;rw[(hf i oM).2.1];exact hu
  ·rw[abN]at ht;obtain⟨i,hi,rfl⟩:=ht;exact(hf i (by simpa using hi)).2.2.2
end
end Go.Proofs.YtokeebkaamjliaaGreat
namespace Go.Proofs.YtokeebkaamjliaaGreat
open RowKit ShM cF GrM InM ImM EvM
theorem Y6(C:TpC)(A P Q R:DV)(n a b c e f k d:Nat)(x y:Int)(l:List Nd)(t:T)(ps:List T)(w:World)(hn:n=l.length)(ha:a=t.1.length)(hb:b=t.2.length)(hk:k=ps.length)(hL:RdG w A l)(hT:TR w P t.1 Q t.2)(hR:RdT w R ps)(hf:(yP l&&DQ t ps)=false):
 CJ 3 #[.slice A n c, .agg #[.slice P a e, .slice Q b f], .slice R k d, .int .u8 x, .int .u8 y] w fun e w'=>e= .returned (.bool true)/\Kp w w':=by
 have HA:=lH (fun W=>L0 C W);obtain⟨W0,hV⟩:=eX (w.alloc (.cells #[.slice P a e, .slice Q b f] 25));have HV:=lH hV;have F0:Hid (Bk W0 w.heap.size P a e Q b f):=by show Bk _ _ _ _ _ _ _ _;rw[hV];exact Bk.new rfl
 have K0:Hid (Kp w W0):=by show Kp _ _;rw[hV];exact Kp.af _ _
 have HF:=lH (fun W (kw:Kp w W)=>YG A P Q R n a b c e f k d l t ps W hn ha hb hk (hL.kp kw) ⟨hT.s.kp kw,hT.d.kp kw⟩ (hR.kp kw) hf);clear C hn ha hb hk hL hT hR hV hf;go_enter Tryz.func3,Tryz.ntmps3;go_wp2_with fail;rw[<-HV.out];refine(HA.out _).mono ?_;rintro e0 w1 ⟨rfl,k1⟩;have K1:=lH (K0.out.tr k1);have F1:=lH (F0.out.kp k1);have p0:=F1.out.c0;have p1:=F1.out.c1;clear k1;go_wp2_with fail;refine(HF.out _ K1.out).mono ?_;rintro e0 w2 ⟨rfl,k2⟩;have K2:=lH (K1.out.tr k2);clear k2 p0 p1;go_wp2;go_ret;exact⟨rfl,K2.out⟩
theorem ZG(C:TpC)(A P Q R:DV)(c e f d:Nat)(x y:Int)(l:List Nd)(t:T)(ps:List T)(w:World)(RL:RdG w A l)(N:∀t∈l,MV t)(L:l.length<=c)(M:c<=9223372036854775807)
  (RT:TRc w P e Q f t)(n1:N64 t.1/\N64 t.2)(RP:RdT w R ps)(NP:∀t∈ps,N64 t.1/\N64 t.2)(LP:ps.length<=d/\d<=9223372036854775807)(gx:0<=x/\x<=255)(gy:0<=y/\y<=255):
 CJ 3 #[.slice A l.length c, .agg #[.slice P t.1.length e, .slice Q t.2.length f], .slice R ps.length d, .int .u8 x, .int .u8 y] w fun e w'=>e= .returned (.bool true)/\Kp w w':=by
 cases hf:(yP l&&DQ t ps)with
 |false=>exact Y6 C A P Q R _ _ _ c e f _ d x y l t ps w rfl rfl rfl rfl RL RT.r RP hf
 |true=>
  have h1:yP l=true:=by rw[abb]at hf;exact hf.1
  have h2:DQ t ps=true:=by rw[abb]at hf;exact hf.2
  exact YL C A P Q R _ _ _ c e f _ d x y l t ps w rfl rfl rfl rfl RL ⟨L,M⟩ RT RP LP (zX h1 N) (UG h2 n1.1 n1.2) (QY h2 NP) gx gy hf
end Go.Proofs.YtokeebkaamjliaaGreat
namespace Go.Proofs.YtokeebkaamjliaaGreat.Ez
open RowKit ShM GrM InM ImM EvM
theorem ZS(A P Q R:DV)(c e f d:Nat)(l:List Nd)(inp:T)(ps:List T)(W:World)(hl:RdG W A l)(hc1:l.length<=c)(hc2:c<=9223372036854775807)(hS:dV l)(hi:TRc W P e Q f inp)(si:SmT inp)(hp:RdT W R ps)(hd1:ps.length<=d)(hd2:d<=9223372036854775807)(sp:xh ps):
 CJ 6 #[.slice A l.length c, .agg #[.slice P inp.1.length e, .slice Q inp.2.length f], .slice R ps.length d] W (L9 (eM l inp ps) W):=by
 obtain⟨w1,hw1⟩:=eX ((W.alloc (.cells #[.slice P inp.1.length e, .slice Q inp.2.length f] 25)).alloc (.cells #[.slice none 0 0, .slice none 0 0, .slice none 0 0, .slice none 0 0, .int .i64 0, .int .i64 0, .slice none 0 0, .slice none 0 0, .slice none 0 0, .int .i64 0] 31));have BI:Hid (Bk w1 W.heap.size P inp.1.length e Q inp.2.length f):=by show Bk _ _ _ _ _ _ _ _;rw[hw1];exact(Bk.new rfl).af _
 have BO:Hid (Bx w1 (W.heap.size+1) [.slice none 0 0, .slice none 0 0, .slice none 0 0, .slice none 0 0, .int .i64 0, .int .i64 0, .slice none 0 0, .slice none 0 0, .slice none 0 0, .int .i64 0] 31):=by show Bx _ _ _ _;rw[hw1];exact Bx.new (by rw[aaY])
 have K1:Hid (Kp W w1):=by show Kp _ _;rw[hw1];exact(Kp.af _ _).tr (Kp.af _ _)
 have HSZ:Hid (w1.heap.size=W.heap.size+2):=by show _=_;rw[hw1,aaY,aaY]
 have Vs:aal ⟨l,inp,ps,1,0,[],[],[],0⟩:=by
  have hl2:=hS.1;exact⟨⟨by show l.length<=1000;omega,fun n hn=>by obtain⟨a,b,_⟩:=hS.2 n hn;exact⟨oM,oM⟩⟩,⟨by have:=si.1;show inp.1.length<=1000;omega,by have:=si.2.1;show inp.2.length<=1000;omega⟩,ZB sp,lM,lM,lM⟩
 have HHD:Hid (CJ 15 #[.agg #[.slice A l.length c, .slice P inp.1.length e, .slice Q inp.2.length f, .slice R ps.length d, .int .i64 1, .int .i64 0, .slice none 0 0, .slice none 0 0, .slice none 0 0, .int .i64 0]] w1 (aak ⟨l,inp,ps,1,0,[],[],[],0⟩ w1)):=
  ZA ⟨l,inp,ps,1,0,[],[],[],0⟩ A P Q R none none none c e f d 0 0 0 w1 ⟨hl.kp K1.out,⟨hc1,hc2⟩,hi.kp K1.out,hp.kp K1.out,⟨hd1,hd2⟩,RdX.bU _ _ _,⟨aaZ _,oM⟩,RdX.bU _ _ _,⟨aaZ _,oM⟩,RdX.bU _ _ _,⟨aaZ _,oM⟩⟩ Vs
 have HSH:Hid (∀V,Kp w1 V->CJ 16 #[.slice A l.length c] V (DH (aH l) V)):=fun V kV=>Iz.EG A c _ l V ((hl.kp K1.out).kp kV) hc1 hc2 hS rfl
 have HW:=lH hw1;have i0:=BI.out.c0;have i1:=BI.out.c1;obtain⟨s,hs⟩:=eX (aH l);rw[<-hs]at HSH;have HBG:Hid (eM l inp ps=if s.2.2=0 then⟨l,inp,ps,1,0,[],[],[],0⟩else iw l inp ps s.2.1 s.2.2):=by show _=_;unfold eM;rw[<-hs]
 have HBB:Hid (W.heap.size+1<w1.heap.size):=by have h1:=HSZ.out;show _<_;omega
 have HRB:Hid (W.heap.size<=W.heap.size+1):=abe _;have HBW:Hid (W.heap.size<=w1.heap.size):=K1.out.size;clear hl hc1 hc2 hS hi si hp hd1 hd2 sp Vs hw1 hs;go_enter Tryz.func6,Tryz.ntmps6;go_wp2_with fail;rw[<-HW.out];go_wp2_with fail;refine HHD.out.mono ?_;rintro e1 w2 ⟨b,G9,P9,e9,Q9,f9,R9,V9,H9,D9,rfl,r2,k2⟩;have K2:=lH k2;clear k2 i0 i1;dsimp only;go_wp2_with fail;refine(HSH.out _ K2.out).mono ?_;rintro e3 w3 ⟨A3,c3,rfl,_,_,k3⟩;have R3:=lH (r2.out.kp k3);have K3:=lH (K2.out.tr k3);clear k3 r2;dsimp only;by_cases h0:s.2.2=0
 · have he:(s.2.2 !=0)=false:=by simpa using h0
   have HTT:Hid (eM l inp ps=⟨l,inp,ps,1,0,[],[],[],0⟩):=by show _=_;rw[HBG.out,aaW h0]
   obtain⟨wo,hwo⟩:=eX w3;subst hwo;obtain⟨T,hT⟩:=eX (⟨l,inp,ps,1,0,[],[],[],0⟩:Tpe);rw[<-hT]at R3 HTT;obtain⟨A9,c9,R9,d9,V9,v9,H9,h9,D9,g9,rfl,rfl,rfl,rfl,rfl⟩:=R3.out.open_;have HX:=lH R3.out;have BR:=lH (BO.out.kp K3.out);have KW:=lH (K1.out.tr K3.out);clear h0 hT;obtain⟨x0,x1,x2,x3,x4,x5,x6,x7,x8,x9⟩:=b10 HX.out.bx;obtain⟨y0,y1,y2,y3,y4,y5,y6,y7,y8,y9⟩:=b10 BR.out;have fz:=BR.out.frz;obtain⟨wz,hwz,kz,bz,kf⟩:=ZV (.slice A9 T.l.length c9) (.slice P9 T.inp.1.length e9) (.slice Q9 T.inp.2.length f9) (.slice R9 T.ps.length d9) (.int .i64 T.phase) (.int .i64 T.at_) (.slice V9 T.vals.length v9) (.slice H9 T.hang.length h9) (.slice D9 T.fD.length g9) (.int .i64 T.err) BR.out;have KZ:=lH kz;have BZ:=lH bz;have KF:=lH (kf W KW.out HRB.out);have HWZ:=lH hwz;clear hwz kz bz kf;have TZ:=lH (HX.out.ts.far KZ.out (fun j hj=>by have h1:j=W.heap.size+1:=hj;have h2:=HBB.out;omega) (fun j hj h1=>by have h3:j=W.heap.size+1:=h1;have h2:=HBB.out;have h4:=hj.1;omega));go_wp2_with fail;rw[<-HWZ.out];obtain⟨b0,b1,b2,b3,b4,b5,b6,b7,b8,b9⟩:=b10 BZ.out;clear x0 y0 x1 y1 x2 y2 x3 y3 x4 y4 x5 y5 x6 y6 x7 y7 x8 y8 x9 y9 fz;refine aaX (v:= .agg #[.slice A9 T.l.length c9, .slice P9 T.inp.1.length e9, .slice Q9 T.inp.2.length f9, .slice R9 T.ps.length d9, .int .i64 T.phase, .int .i64 T.at_, .slice V9 T.vals.length v9, .slice H9 T.hang.length h9, .slice D9 T.fD.length g9, .int .i64 T.err]) (by simp[results,Tryz.results6,go_sem,b0,b1,b2,b3,b4,b5,b6,b7,b8,b9];try rfl) rfl ?_;show L9 (eM l inp ps) W _ _;rw[HTT.out];exact⟨_,_,_,_,_,_,_,_,_,_,_,_,_,_,_,_,rfl,⟨HBW.out,TZ.out⟩,KF.out⟩
 · have he:(s.2.2 !=0)=true:=by simpa using h0
   have HTT:Hid (eM l inp ps=iw l inp ps s.2.1 s.2.2):=by show _=_;rw[HBG.out,aaT h0]
   have HFL:Hid (CJ 17 #[pX b 0, .int .i64 s.2.1, .int .i64 s.2.2] w3 (YW w1.heap.size b (iw l inp ps s.2.1 s.2.2) w3)):=YU R3.out _ _;clear h0;go_wp2_with fail;refine HFL.out.mono ?_;rintro e4 wo ⟨⟨v4,rfl⟩,hr,hk⟩;obtain⟨T,hT⟩:=eX (iw l inp ps s.2.1 s.2.2);rw[<-hT]at hr HTT;obtain⟨G9,P9,e9,Q9,f9,R9,V9,H9,D9,hx9⟩:=hr.out;obtain⟨A9,c9,R9,d9,V9,v9,H9,h9,D9,g9,rfl,rfl,rfl,rfl,rfl⟩:=hx9.open_;have HX:=lH hx9;have KX:Hid (Below w1.heap.size w1 wo):=Below.trans K3.out hk.out;have BR:=lH (ZQ BO.out KX.out HBB.out);have KW:Hid (Kp W wo):=K1.out.tr KX.out;clear hT hr hx9;obtain⟨x0,x1,x2,x3,x4,x5,x6,x7,x8,x9⟩:=b10 HX.out.bx;obtain⟨y0,y1,y2,y3,y4,y5,y6,y7,y8,y9⟩:=b10 BR.out;have fz:=BR.out.frz;obtain⟨wz,hwz,kz,bz,kf⟩:=ZV (.slice A9 T.l.length c9) (.slice P9 T.inp.1.length e9) (.slice Q9 T.inp.2.length f9) (.slice R9 T.ps.length d9) (.int .i64 T.phase) (.int .i64 T.at_) (.slice V9 T.vals.length v9) (.slice H9 T.hang.length h9) (.slice D9 T.fD.length g9) (.int .i64 T.err) BR.out;have KZ:=lH kz;have BZ:=lH bz;have KF:=lH (kf W KW.out HRB.out);have HWZ:=lH hwz;clear hwz kz bz kf;have TZ:=lH (HX.out.ts.far KZ.out (fun j hj=>by have h1:j=W.heap.size+1:=hj;have h2:=HBB.out;omega) (fun j hj h1=>by have h3:j=W.heap.size+1:=h1;have h2:=HBB.out;have h4:=hj.1;omega));go_wp2_with fail;rw[<-HWZ.out];obtain⟨b0,b1,b2,b3,b4,b5,b6,b7,b8,b9⟩:=b10 BZ.out;clear x0 y0 x1 y1 x2 y2 x3 y3 x4 y4 x5 y5 x6 y6 x7 y7 x8 y8 x9 y9 fz;refine aaX (v:= .agg #[.slice A9 T.l.length c9, .slice P9 T.inp.1.length e9, .slice Q9 T.inp.2.length f9, .slice R9 T.ps.length d9, .int .i64 T.phase, .int .i64 T.at_, .slice V9 T.vals.length v9, .slice H9 T.hang.length h9, .slice D9 T.fD.length g9, .int .i64 T.err]) (by simp[results,Tryz.results6,go_sem,b0,b1,b2,b3,b4,b5,b6,b7,b8,b9];try rfl) rfl ?_;show L9 (eM l inp ps) W _ _;rw[HTT.out];exact⟨_,_,_,_,_,_,_,_,_,_,_,_,_,_,_,_,rfl,⟨HBW.out,TZ.out⟩,KF.out⟩
end Go.Proofs.YtokeebkaamjliaaGreat.Ez
namespace Go.Proofs.YtokeebkaamjliaaGreat
open RowKit ShM cF GrM InM ImM EvM
theorem tpc:TpC where
 begin:=fun A P Q R c m a b e f k d l t ps W h1 h2 h3 h4 hm h5 h6 ha hb h7 h8 h9 h10 hk=>by
  subst hm ha hb hk;exact(Ez.ZS A P Q R c e f d l t ps W h1 h2 h3 h4 h5 h6 h7 h8 h9 h10).mono fun _ _ h=>h.tl
 run:=fun A P Q R V H D c e f d vc hc dc l inp ps k t n W h ht hl hi hp hn=>(Ez.ZW t n A P Q R V H D c e f d vc hc dc W h (by rw[ht];exact Ez.Yx k (Ez.YE hl hi hp)) hn).mono fun _ _ h=>h.tl
 step:=fun A P Q R V H D c e f d vc hc dc l inp ps k t W h ht hl hi hp=>(Ez.ZU t A P Q R V H D c e f d vc hc dc W h (by rw[ht];exact Ez.Yx k (Ez.YE hl hi hp))).mono fun _ _ h=>h.tl
