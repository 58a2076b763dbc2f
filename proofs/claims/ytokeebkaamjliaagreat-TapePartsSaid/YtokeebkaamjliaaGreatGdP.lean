import Derived.Test.YtokeebkaamjliaaGreatR9A
set_option maxHeartbeats 16000000
set_option maxRecDepth 100000
set_option linter.unusedVariables false
set_option linter.unusedSimpArgs false
namespace Go.Proofs.EvM
open ShM cF GrM InM ImM
def WQ(l:List Nd)(vals:List T):BU->List T->List T->List T×Int×Int
 | [],_,g=>(g,-1,0)
 |x::r,h,g=>if(dD (l.getD x.toNat nd0) vals h g x.toNat).2=0 then WQ l vals r (dD (l.getD x.toNat nd0) vals h g x.toNat).1.1 (dD (l.getD x.toNat nd0) vals h g x.toNat).1.2
   else([],x,(dD (l.getD x.toNat nd0) vals h g x.toNat).2)
theorem Xi(l:List Nd)(vals:List T)(live:BU):∀(k:Nat) (h g:List T),gY l vals live k h g=WQ l vals (upTo k live).reverse h g
 |0,_,_=>rfl
 |k+1,h,g=>by
  rw[gY,ja,List.reverse_append]
  cases e:live.contains (k:Int)with
  |false=>
   rw[aaW rfl,aaT sC];exact Xi l vals live k h g
  |true=>
   rw[aaT sC,aaW rfl];show _=WQ l vals ((k:Int)::(upTo k live).reverse) h g;rw[WQ,aa2];split
   · exact Xi l vals live k _ _
   · rfl
theorem Xu(n:Nat)(a:BU):upTo n (upTo n a)=upTo n a:=by
 conv=>lhs;unfold upTo
 conv=>rhs;unfold upTo
 refine List.filter_congr fun x hx=>?_
 obtain⟨i,hi,rfl⟩:=abN.1 hx;rw[acD];simp only[List.contains_iff_mem];exact⟨fun h=>(List.mem_filter.1 h).2|>fun h=>by simpa using h,fun h=>List.mem_filter.2 ⟨hx,by simpa using h⟩⟩
theorem Xb{l:List Nd}(hc:aK l=true):upTo l.length (fW l)=fW l:=by
 have e:fW l=upTo l.length (uH l):=by unfold fW;rw[aaW hc]
 rw[e,Xu]
theorem Xj{l:List Nd}{vals:List T}(hc:aK l=true):dB l vals=WQ l vals (fW l).reverse (qx l vals) (List.replicate 8 eT):=by
 unfold dB;rw[Xi,Xb hc]
def Tq(t:T):Prop:=t=eT∨(bO t=true/\N64 t.2)
theorem WN{t:T}(h:bO t=true):t.2.length≠0:=by
 have h1:=Go.Proofs.ShM.aA.1 (show aB t.1 t.2=true from h);have:=bT h1.1;omega
theorem XU{t:T}(h:Tq t)(hn:t.2.length≠0):bO t=true/\N64 t.2:=h.resolve_left fun e=>hn (by rw[e];rfl)
theorem Xw{t:T}(h:Tq t):t.1.length<=100/\t.2.length<=100/\N64 t.1/\N64 t.2:=by
 rcases h with rfl|⟨h,g⟩
 · exact⟨dG,dG,aE,aE⟩
 · obtain⟨a,b,c⟩:=zF h
   exact⟨a,b,c,g⟩
theorem Xa{a b:T}(hb:bO b=true/\N64 b.2)(h:(iS a b).2=0):bO (iS a b).1=true/\N64 (iS a b).1.2:=by
 unfold iS at h⊢;split
 · exact hb
 · rename_i hn
   rw[aaT hn]at h;exact⟨(iy (Ka _ _ _ _ _)).2 h,gM _ _ _ _ _⟩
structure Hi(n:Nat)(h:List T):Prop where
 len:h.length=n
 tq:∀k,Tq (h.getD k eT)
theorem Hi.set{n:Nat}{h:List T}(H:Hi n h){t:T}(ht:bO t=true/\N64 t.2)(k:Nat):Hi n (h.set k t):=⟨by rw[abr,H.len],fun j=>by
 rw[aaS,List.getElem?_set];split
 · split
   · exact .inr ht
   · exact .inl rfl
 · have:=H.tq j
   rwa [aaS]at this⟩
theorem Hi.none(n:Nat):Hi n (List.replicate n eT):=⟨aa5,fun k=> .inl (by
 rw[aaS,abV];split<;>rfl)⟩
theorem WV{h:List T}{k:Nat}{t:T}(hk:k<h.length):(h.set k t).getD k eT=t:=by rw[aaS,abt hk];rfl
theorem WS{h:List T}{k j:Nat}{t:T}(hk:k≠j):(h.set k t).getD j eT=h.getD j eT:=by rw[aaS,ab2 hk,<-aaS]
theorem XV{h:List T}{k j:Nat}{t:T}(ht:t.2.length≠0)(hj:(h.getD j eT).2.length≠0):((h.set k t).getD j eT).2.length≠0:=by
 by_cases e:k=j
 · subst e
   by_cases hk:k<h.length
   · rw[WV hk];exact ht
   · exact absurd (by rw[aaS,abO oM];rfl) hj
 · rw[WS e];exact hj
theorem Xe{a:Int}{args:BU}{b:T}{bs h:List T}(h0:(iS (h.getD a.toNat eT) b).2=0):cI (a::args) (b::bs) h=cI args bs (h.set a.toNat (iS (h.getD a.toNat eT) b).1):=by rw[cI,aaW h0]
theorem Xl{a:Int}{args:BU}{b:T}{bs h:List T}(h0:(iS (h.getD a.toNat eT) b).2≠0):cI (a::args) (b::bs) h=([],(iS (h.getD a.toNat eT) b).2):=by rw[cI,aaT h0]
theorem Xk:∀(args:BU) (bs h:List T) (n:Nat),Hi n h->(∀b∈bs,bO b=true/\N64 b.2)->(∀a∈args,0<=a/\a<(n:Int))->args.length=bs.length->(cI args bs h).2=0->
   Hi n (cI args bs h).1/\(∀j,(h.getD j eT).2.length≠0->((cI args bs h).1.getD j eT).2.length≠0)/\∀a∈args,((cI args bs h).1.getD a.toNat eT).2.length≠0
 | [],bs,h,n,H,_,_,_,_=>by
  rw[cI];exact⟨H,fun _ h=>h,fun a ha=>by cases ha⟩
 |a::args,[],h,n,H,_,_,hl,_=>by cases hl
 |a::args,b::bs,h,n,H,hb,ha,hl,h0=>by
  by_cases hp:(iS (h.getD a.toNat eT) b).2=0
  · rw[Xe hp]at h0⊢
    have hq:=Xa (hb b sC) hp;obtain⟨i1,i2,i3⟩:=Xk args bs (h.set a.toNat (iS (h.getD a.toNat eT) b).1) n (H.set hq _) (fun b hb'=>hb b (ab1 _ hb')) (fun a ha'=>ha a (ab1 _ ha')) (by simpa using hl) h0;refine⟨i1,fun j hj=>i2 j (XV (WN hq.1) hj),fun x hx=>?_⟩;by_cases e:x=a
    · subst e
      exact i2 _ (by rw[WV (by have:=ha x sC;rw[H.len];omega)];exact WN hq.1)
    · exact i3 x ((abD.1 hx).resolve_left e)
  · rw[Xl hp]at h0
    exact absurd h0 hp
structure Gv(l:List Nd)(vals:List T)(inp:T)(ps:List T):Prop where
 ck:aK l=true
 len:vals.length=l.length
 node:∀(i:Nat) (n:Nd),l[i]?=some n->bq n.1 n.2.2 (cq vals n.2.1) inp ps=(vals.getD i eT,0)
 tok:∀t∈vals,bO t=true
 n64:∀t∈vals,N64 t.2
theorem Yh{l:List Nd}{vals:List T}{inp:T}{ps:List T}{a:Int}(h:fI l inp ps=(vals,a,0))(h2:N64 inp.2)(h3:∀t∈ps,N64 t.2)(h4:∀n∈l,N64 n.2.2):Gv l vals inp ps:=by
 rcases DA l inp ps with⟨t,e1,e2,e3,e4,e5⟩|⟨i,e,e1,e2,_⟩
 · rw[h]at e1
   obtain⟨rfl,_⟩:=Prod.mk.inj e1;have hn:∀(i:Nat) (n:Nd),l[i]?=some n->bq n.1 n.2.2 (cq vals n.2.1) inp ps=(vals.getD i eT,0):=fun i n hn=>Sz e3 e4 e2 hn
   refine⟨e3,e2,hn,fun t ht=>?_,fun t ht=>?_⟩
   · obtain⟨i,hi,rfl⟩:=acv.1 ht
     have h1:=hn i _ (aaV oM);have h9:=(Hj (l[i]' oM).1 (l[i]' oM).2.2 (cq vals (l[i]' oM).2.1) inp ps).2 (by rw[h1]);rw[h1,aaS,aaV hi]at h9;exact h9
   · have:=Ot h2 h3 l [] (fun _ h=>by cases h) h4
     rw[e4]at this;exact this t ht
 · rw[h]at e1
   injection e1 with _ e1
   injection e1 with _ e1
   exact absurd e1.symm e2
theorem Gv.few{l:List Nd}{vals:List T}{inp:T}{ps:List T}(G:Gv l vals inp ps):∀t∈vals,t.1.length<=100/\t.2.length<=100/\N64 t.1/\N64 t.2:=fun t ht=>Xw (.inr ⟨G.tok t ht,G.n64 t ht⟩)
theorem XQ(op:Int)(nums:BU)(out g:T):(cU op nums [] out g).1=[]:=by
 unfold cU;split
 · rfl
 · split
   · rfl
   · split
     · rfl
     · rw[aaW (show([]:List T).length=0 from rfl)]
theorem WL{l:List Nd}(hc:aK l=true){i:Nat}{n:Nd}(hn:l[i]?=some n):(n.2.1.length:Int)=ak n.1/\0<=ak n.1/\∀a∈n.2.1,0<=a/\a<(i:Int):=by
 have h:=bh.1 ((aO.1 hc).2.2 i n hn);exact⟨h.2.1,h.1,h.2.2.2.1⟩
theorem Yc{l:List Nd}{vals:List T}{inp:T}{ps:List T}(G:Gv l vals inp ps){i:Nat}{n:Nd}(hn:l[i]?=some n){hang:List T}(H:Hi l.length hang)(h0:(bkG n vals hang i).2=0):
  (bkG n vals hang i).1.length=n.2.1.length/\∀b∈(bkG n vals hang i).1,bO b=true/\N64 b.2:=by
 obtain⟨a1,a2,a3⟩:=WL G.ck hn;unfold bkG at h0⊢;by_cases hop:10<=n.1
 · obtain⟨f1,f2,_⟩:=(MU (g:=hang.getD i eT) hop (G.node i n hn)).2 h0
   refine⟨by rw[f1];unfold cq;rw[abA],fun b hb=>?_⟩;obtain⟨k,hk,rfl⟩:=acv.1 hb;exact⟨(f2 k _ (aaV hk)).1,Qq _ _ _ _ (Xw (H.tq i)).2.2.2 _ hb⟩
 · have e:n.2.1=[]:=by
    have:ak n.1=0:=by
     unfold ak at a2⊢
     repeat' split at a2
     all_goals first|omega|skip
     all_goals rw[aaW oM]
    exact abd oM
   have e2:(cU n.1 n.2.2 (cq vals n.2.1) (vals.getD i eT) (hang.getD i eT)).1=[]:=by rw[e];exact XQ _ _ _ _
   rw[e2,e];exact⟨rfl,fun b hb=>by cases hb⟩
theorem Xp{n:Nd}{vals hang fD:List T}{i:Nat}(h2:n.1=2):dD n vals hang fD i=if(Kq n hang fD i).2=0 then((hang,fD.set (n.2.2.getD 0 0).toNat (Kq n hang fD i).1),0)else(([],[]),(Kq n hang fD i).2):=by
 unfold dD;rw[aaW h2]
theorem Xq{n:Nd}{vals hang fD:List T}{i:Nat}(h2:n.1≠2)(hb:(bkG n vals hang i).2≠0):(dD n vals hang fD i).2=(bkG n vals hang i).2:=by
 unfold dD;rw[aaT h2,aaT hb]
theorem Xo{n:Nd}{vals hang fD:List T}{i:Nat}(h2:n.1≠2)(hb:(bkG n vals hang i).2=0):dD n vals hang fD i=if(cI n.2.1 (bkG n vals hang i).1 hang).2=0 then(((cI n.2.1 (bkG n vals hang i).1 hang).1,fD),0)else(([],[]),(cI n.2.1 (bkG n vals hang i).1 hang).2):=by
 unfold dD;rw[aaT h2,aaW hb]
structure Li(l:List Nd)(R:BU)(hang fD:List T):Prop where
 hh:Hi l.length hang
 hg:Hi 8 fD
 wt:∀x∈R,(hang.getD x.toNat eT).2.length≠0∨∃y∈R,∃n,l[y.toNat]?=some n/\x∈n.2.1
 nm:∀p:Nat,(fD.getD p eT).2.length≠0->(p:Int)∈gJ l
structure Dn(l:List Nd)(R:BU):Prop where
 ge:∀x∈R,0<=x/\x<(l.length:Int)
 desc:R.Pairwise (fun a b=>b<a)
theorem Dn.tail{l:List Nd}{x:Int}{R:BU}(h:Dn l (x::R)):Dn l R:=⟨fun y hy=>h.ge y (ab1 _ hy),(List.pairwise_cons.1 h.desc).2⟩
theorem Li.head{l:List Nd}(hc:aK l=true){x:Int}{R:BU}{hang fD:List T}(L:Li l (x::R) hang fD)(D:Dn l (x::R)):(hang.getD x.toNat eT).2.length≠0:=by
 rcases L.wt x sC with h|⟨y,hy,n,hn,hx⟩
 · exact h
 · have h1:=(WL hc hn).2.2 x hx
   have h2:=D.ge y hy;by_cases e:y=x
   · omega
   · have:=(List.pairwise_cons.1 D.desc).1 y ((abD.1 hy).resolve_left e)
     omega
theorem Li.step{l:List Nd}{vals:List T}{inp:T}{ps:List T}(G:Gv l vals inp ps){x:Int}{R:BU}{hang fD:List T}(L:Li l (x::R) hang fD)(D:Dn l (x::R)){n:Nd}(hn:l[x.toNat]?=some n)
  (h0:(dD n vals hang fD x.toNat).2=0):Li l R (dD n vals hang fD x.toNat).1.1 (dD n vals hang fD x.toNat).1.2:=by
 have hd:=L.head G.ck D;obtain⟨a1,a2,a3⟩:=WL G.ck hn;have hx:=D.ge x sC;by_cases h2:n.1=2
 · rw[Xp h2]at h0⊢
   by_cases hp:(Kq n hang fD x.toNat).2=0
   · rw[aaW hp]
     have hq:=Xa (XU (L.hh.tq _) hd) hp;have hpn:=Oa G.ck hn h2;refine⟨L.hh,L.hg.set hq _,fun y hy=>?_,fun p hp'=>?_⟩
     · rcases L.wt y (ab1 _ hy)with h|⟨z,hz,m,hm,hym⟩
       · exact .inl h
       · by_cases e:z=x
         · subst e
           rw[hn]at hm;injection hm with hm
           subst hm;have h20:ak 2=0:=by decide
           have:n.2.1=[]:=abd (by rw[h2]at a1;omega);rw[this]at hym
           cases hym
         · exact .inr ⟨z,(abD.1 hz).resolve_left e,m,hm,hym⟩
     · by_cases e:(n.2.2.getD 0 0).toNat=p
       · have h7:=(kx G.ck).1 hpn.2
         have:((p:Nat):Int)=n.2.2.getD 0 0:=by omega
         rw[this];exact hpn.2
       · have hp2:((fD.set (n.2.2.getD 0 0).toNat (Kq n hang fD x.toNat).1).getD p eT).2.length≠0:=hp'
         rw[WS e]at hp2;exact L.nm p hp2
   · rw[aaT hp]at h0
     exact absurd h0 hp
 · by_cases hb:(bkG n vals hang x.toNat).2=0
   · rw[Xo h2 hb]at h0⊢
     obtain⟨b1,b2⟩:=Yc G hn L.hh hb;by_cases hp:(cI n.2.1 (bkG n vals hang x.toNat).1 hang).2=0
     · rw[aaW hp]
       obtain⟨i1,i2,i3⟩:=Xk n.2.1 _ hang l.length L.hh b2 (fun a ha=>by have:=a3 a ha;omega) b1.symm hp;refine⟨i1,L.hg,fun y hy=>?_,L.nm⟩;rcases L.wt y (ab1 _ hy)with h|⟨z,hz,m,hm,hym⟩
       · exact .inl (i2 _ h)
       · by_cases e:z=x
         · subst e
           rw[hn]at hm;injection hm with hm
           subst hm;exact .inl (i3 y hym)
         · exact .inr ⟨z,(abD.1 hz).resolve_left e,m,hm,hym⟩
     · rw[aaT hp]at h0
       exact absurd h0 hp
   · rw[Xq h2 hb]at h0
     exact absurd h0 hb
theorem Xv(n:Nat)(a:BU):(upTo n a).Pairwise (· < ·):=by
 unfold upTo;refine List.Pairwise.filter _ (List.pairwise_map.2 ?_);exact List.pairwise_lt_range.imp fun h=>by omega
theorem Xh{l:List Nd}(hc:aK l=true):Dn l (fW l).reverse:=by
 refine⟨fun x hx=>?_,List.pairwise_reverse.2 ?_⟩
 · rw[List.mem_reverse,<-Xb hc]at hx
   obtain⟨⟨i,hi,rfl⟩,_⟩:=Gd.1 hx;omega
 · rw[<-Xb hc]
   exact Xv _ _
theorem XA{l:List Nd}{vals:List T}{inp:T}{ps:List T}(G:Gv l vals inp ps):∃s t:BU,dm (vals.getD (l.length-1) eT).1 4294967296=(s,t,0)/\bO (s,t)=true/\N64 t/\qx l vals=(List.replicate l.length eT).set (l.length-1) (s,t):=by
 have h1:=(aO.1 G.ck).1;have hm:vals.getD (l.length-1) eT∈vals:=by
  rw[aaS,aaV (by rw[G.len];omega)];exact List.getElem_mem _
 have ht:=(Go.Proofs.ShM.aA.1 (show aB _ _=true from G.tok _ hm)).1;obtain⟨f1⟩:Nonempty (dm (vals.getD (l.length-1) eT).1 4294967296=((vals.getD (l.length-1) eT).1,List.replicate (au (vals.getD (l.length-1) eT).1).toNat 4294967296,0)):=⟨by unfold dm;rw[aaW ht]⟩
 refine⟨_,_,f1,wB _ ht,Bq (by unfold In64;omega),?_⟩;unfold qx;rw[f1];rfl
theorem Xm{l:List Nd}{vals:List T}{inp:T}{ps:List T}(G:Gv l vals inp ps):Li l (fW l).reverse (qx l vals) (List.replicate 8 eT):=by
 obtain⟨s,t,_,h2,h3,h4⟩:=XA G;have h1:=(aO.1 G.ck).1;rw[h4];refine⟨(Hi.none _).set ⟨h2,h3⟩ _,Hi.none _,fun x hx=>?_,fun p hp=>?_⟩
 · have hD:=(Xh G.ck).ge x hx
   rw[List.mem_reverse]at hx;obtain⟨i,rfl⟩:∃i:Nat,x=(i:Int):=⟨x.toNat,oM⟩
   rcases(qi G.ck oM).1 hx with e|⟨u,hu,hl⟩
   · subst e
     rw[aa2,WV (by rw[aa5];omega)];exact .inl (WN h2)
   · right
     unfold tL at hu;rw[aaW G.ck]at hu;obtain⟨j,n,hj,hm,rfl⟩:=lU.1 hu;refine⟨_,List.mem_reverse.2 hl,n,?_,hm⟩;have:(((0:Nat):Int)+(j:Int)).toNat=j:=by omega
     rw[this];exact hj
 · have h0:((List.replicate 8 eT).getD p eT).2.length=0:=by
    rw[aaS,abV];split<;>rfl
   exact absurd h0 hp
theorem Xf{l:List Nd}{vals:List T}{inp:T}{ps:List T}(G:Gv l vals inp ps){i:Nat}{n:Nd}(hn:l[i]?=some n)(h2:n.1=2):0<=n.2.2.getD 0 0/\n.2.2.getD 0 0<=7/\vals.getD i eT=ps.getD (n.2.2.getD 0 0).toNat eT/\(n.2.2.getD 0 0).toNat<ps.length/\okS (ps.getD (n.2.2.getD 0 0).toNat eT).1=true:=by
 have hp:=(kx G.ck).1 (Oa G.ck hn h2).2;have h:=(Qn (G.node i n hn)).2;rw[h2]at h;unfold aV at h;rw[aaT dG,aaW rfl]at h;unfold bL at h;split at h
 · rename_i hc
   injection h with h _
   unfold xX at h hc;rw[aaW hp.1.1]at h hc;refine⟨hp.1.1,hp.1.2,h.symm,?_,(Go.Proofs.ShM.aA.1 (show aB _ _=true from hc.1)).1⟩;by_cases e:(n.2.2.getD 0 0).toNat<ps.length
   · exact e
   · rw[aaS,abO oM]at hc
     exact absurd hc.1 dG
 · injection h with _ h
   cases h
theorem Dn.drop{l:List Nd}{R:BU}(h:Dn l R)(k:Nat):Dn l (R.drop k):=⟨fun x hx=>h.ge x (List.mem_of_mem_drop hx),h.desc.sublist (List.drop_sublist k R)⟩
