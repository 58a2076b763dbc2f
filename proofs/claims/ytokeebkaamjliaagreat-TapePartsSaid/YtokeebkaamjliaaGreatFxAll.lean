import Derived.Test.YtokeebkaamjliaaGreatTk
import Derived.WalkSpells
import Derived.WalkLawsBesides
import Derived.Handy
import Derived.Lib.Mul64
import Derived.Lib.ItoaNum
import Derived.Lib.Strings
import Derived.Deep.CutBlock
import Derived.BigQuiet
set_option maxHeartbeats 16000000
set_option maxRecDepth 100000
set_option linter.unusedVariables false
set_option linter.unusedSimpArgs false
namespace Go.Proofs.YtokeebkaamjliaaGreat.Fx
open RowKit cF
def I64(a:Int):Prop:= -9223372036854775808<=a/\a<=9223372036854775807
theorem lQ{k l:IntKind}{a b c d:Int}(h:a=c)(h':b=d):Ending.returned (.tuple #[.int k a, .int l b])= .returned (.tuple #[.int k c, .int l d]):=by rw[h,h']
theorem lR{k:IntKind}{a c:Int}(h:a=c):Ending.returned (.int k a)= .returned (.int k c):=by rw[h]
theorem je{k l:IntKind}{a b:Int}{p:Int×Int}(h:p=(a,b)):Ending.returned (.tuple #[.int k a, .int l b])= .returned (.tuple #[.int k p.1, .int l p.2]):=by rw[h]
namespace Qh
theorem qK{a b:Int}(ha:I64 a)(hb:I64 b)(h:(!(decide (wrap64 (a+b)<a)==decide (b<0)))=true):cY a b=(0,10):=by
 unfold I64 at ha hb;by_cases c:b<0<;>by_cases d:wrap64 (a+b)<a<;>simp[c,d]at h<;>(unfold wrap64 at d;exact fw oM)
theorem qL{a b:Int}(ha:I64 a)(hb:I64 b)(h:(!(decide (wrap64 (a+b)<a)==decide (b<0)))=false):cY a b=(wrap64 (a+b),0):=by
 unfold I64 at ha hb;by_cases c:b<0<;>by_cases d:wrap64 (a+b)<a<;>simp[c,d]at h<;>(unfold wrap64 at d⊢;unfold cY;rw[cO oM oM];congr 1;omega)
theorem Eo{a b:Int}(ha:I64 a)(hb:I64 b)(h:(!(decide (a<wrap64 (a-b))==decide (b<0)))=true):DK a b=(0,10):=by
 unfold I64 at ha hb;by_cases c:b<0<;>by_cases d:a<wrap64 (a-b)<;>simp[c,d]at h<;>(unfold wrap64 at d;exact fw oM)
theorem Ep{a b:Int}(ha:I64 a)(hb:I64 b)(h:(!(decide (a<wrap64 (a-b))==decide (b<0)))=false):DK a b=(wrap64 (a-b),0):=by
 unfold I64 at ha hb;by_cases c:b<0<;>by_cases d:a<wrap64 (a-b)<;>simp[c,d]at h<;>(unfold wrap64 at d⊢;unfold DK;rw[cO oM oM];congr 1;omega)
end Qh
theorem bC(a:Int)(h1:I64 a)(w:World):
  CJ 169 #[.int .i64 a] w fun e w'=>e= .returned (.int .u64 (a.natAbs:Nat))/\w=w':=by
 have H:=lH h1;clear h1;by_cases h:a<0
 all_goals
  go_enter Tryz.func169,Tryz.ntmps169;go_wp2;go_ret;refine⟨lR ?_,rfl⟩;have h1:=H.out;unfold I64 at h1
  go_arith
theorem nA(a b:Int)(ha:I64 a)(hb:I64 b)(w:World):
  CJ 127 #[.int .i64 a, .int .i64 b] w fun e w'=>e= .returned (.tuple #[.int .i64 (cY a b).1, .int .i64 (cY a b).2])/\w=w':=by
 go_enter Tryz.func127,Tryz.ntmps127;go_wp2
 all_goals go_ret2
 ·exact⟨je (Qh.qK ha hb (by assumption)),rfl⟩
 ·exact⟨je (Qh.qL ha hb (by assumption)),rfl⟩
theorem zN(a b:Int)(ha:I64 a)(hb:I64 b)(w:World):
  CJ 155 #[.int .i64 a, .int .i64 b] w fun e w'=>e= .returned (.tuple #[.int .i64 (DK a b).1, .int .i64 (DK a b).2])/\w=w':=by
 go_enter Tryz.func155,Tryz.ntmps155;go_wp2
 all_goals go_ret2
 ·exact⟨je (Qh.Eo ha hb (by assumption)),rfl⟩
 ·exact⟨je (Qh.Ep ha hb (by assumption)),rfl⟩
theorem KH(a:Int)(ha:I64 a)(w:World):
  CJ 157 #[.int .i64 a] w fun e w'=>e= .returned (.tuple #[.int .i64 (DK 0 a).1, .int .i64 (DK 0 a).2])/\w=w':=by
 go_enter Tryz.func157,Tryz.ntmps157;go_wp2_with (go_at_call 155;refine(zN 0 a (by unfold I64;omega) ha _).mono ?_;rintro e w' ⟨rfl,rfl⟩);go_ret2;exact⟨rfl,rfl⟩
theorem tmod_one(a:Int):a.tmod 4294967296=if a<0/\a%4294967296≠0 then a%4294967296-4294967296 else a%4294967296:=by
 rw[Int.tmod_eq_emod];have:(4294967296:Int)∣a↔a%4294967296=0:=Int.dvd_iff_emod_eq_zero;simp only[this];split<;>split<;>omega
theorem tdiv_one(a:Int):a.tdiv 4294967296=if a<0/\a%4294967296≠0 then a/4294967296+1 else a/4294967296:=by
 have hs:Int.sign 4294967296=1:=rfl;rw[Int.tdiv_eq_ediv,hs];have:(4294967296:Int)∣a↔a%4294967296=0:=Int.dvd_iff_emod_eq_zero;simp only[this];split<;>split<;>omega
theorem rz(a:Int)(ha:I64 a)(w:World):
  CJ 180 #[.int .i64 a] w fun e w'=>e= .returned (.tuple #[.int .i64 (a/4294967296), .int .i64 (a%4294967296)])/\w=w':=by
 unfold I64 at ha;go_enter Tryz.func180,Tryz.ntmps180;go_wp2
 all_goals
  go_ret2;refine⟨lQ ?_ ?_,rfl⟩
  all_goals
   simp only[tmod_one,tdiv_one]at *
   go_arith
open RowKit cF
namespace dh
theorem mask(a:Nat)(ha:a<18446744073709551616):bits .and .u64 (a:Int) 4294967295=((a%4294967296:Nat):Int):=by
 have h:=bits_and_u64_nat a 4294967295 ha oM;rw[show a&&&4294967295=a%4294967296 from Nat.and_two_pow_sub_one_eq_mod a 32]at h;exact h
theorem SE(a:Nat):(a:Int)/4294967296=((a/4294967296:Nat):Int):=by omega
theorem uy(a b:Nat):(a:Int)*(b:Int)=((a*b:Nat):Int):=(ab4 a b).symm
theorem QI(a b:Nat):(a:Int)+(b:Int)=((a+b:Nat):Int):=(Int.natCast_add a b).symm
theorem fX(a:Nat)(ha:a<18446744073709551616):IntKind.u64.wrap (a:Int)=(a:Int):=by rw[IntKind.wrap_u64];omega
theorem DU(a:Nat):IntKind.u64.wrap (a:Int)=((a%18446744073709551616:Nat):Int):=by rw[IntKind.wrap_u64];omega
end dh
theorem mP(x y:Nat)(hx:x<18446744073709551616)(hy:y<18446744073709551616)(w:World):
  CJ 171 #[.int .u64 x, .int .u64 y] w fun e w'=>e= .returned (.tuple #[.int .u64 ((x*y/18446744073709551616:Nat):Int), .int .u64 ((x*y%18446744073709551616:Nat):Int)])/\w=w':=by
 obtain⟨bd,bt,bw,hhi⟩:=Lib.mul64_hi x y hx hy;have ba:=Lib.half_mul_le (a:=x/4294967296) (b:=y/4294967296) oM oM;have bb:=Lib.half_mul_le (a:=x/4294967296) (b:=y%4294967296) oM oM;have bc:=Lib.half_mul_le (a:=x%4294967296) (b:=y/4294967296) oM oM;have ba':x/4294967296*(y/4294967296)<18446744073709551616:=by omega
 have bb':x/4294967296*(y%4294967296)<18446744073709551616:=by omega
 have bc':x%4294967296*(y/4294967296)<18446744073709551616:=by omega
 have b1:x/4294967296*(y/4294967296)+(x/4294967296*(y%4294967296)+x%4294967296*(y%4294967296)/4294967296)/4294967296<18446744073709551616:=by omega
 have b2:x/4294967296*(y/4294967296)+(x/4294967296*(y%4294967296)+x%4294967296*(y%4294967296)/4294967296)/4294967296+((x/4294967296*(y%4294967296)+x%4294967296*(y%4294967296)/4294967296)%4294967296+x%4294967296*(y/4294967296))/4294967296<18446744073709551616:=by omega
 go_enter Tryz.func171,Tryz.ntmps171;go_wp2;simp only[dh.mask x hx,dh.mask y hy,dh.SE,dh.uy,dh.QI,dh.fX _ bd,dh.fX _ bb',dh.fX _ bt,dh.mask _ bt,dh.fX _ bc',dh.fX _ bw,dh.fX _ ba',dh.fX _ b1,dh.fX _ b2,dh.DU (x*y)];rw[hhi];go_ret2;exact⟨rfl,rfl⟩
namespace dh
theorem ext1:(Tryz.f198.name== "runtime.NumGoroutine")=false:=by kernel_rfl
theorem Vx:Tryz.f198.body.isNone=true:=by kernel_rfl
theorem Vw:Extern.findNext Tryz.f198=none:=by kernel_rfl
theorem Vv:Extern.find Tryz.f198=some add64Entry:=by kernel_rfl
end dh
theorem tq(args:Array Value)(w:World):
  (callFunc 198 args).run Tryz.prog w=((add64Entry args).run Tryz.prog w).andThen fun v w'=> .ok (.value v) w':=
 run_callFunc_extern Tryz.func198 dh.ext1 dh.Vx dh.Vw dh.Vv args w
theorem DF(x y:Nat)(w:World):
  (callFunc 198 #[.int .u64 (x:Int), .int .u64 (y:Int), .int .u64 (0:Int)]).run Tryz.prog w=
   .ok (.value (.tuple #[.int .u64 (((x+y)%18446744073709551616:Nat):Int), .int .u64 (((x+y)/18446744073709551616:Nat):Int)])) w:=by
 have e1:((x:Int)+(y:Int)+0)%18446744073709551616=(((x+y)%18446744073709551616:Nat):Int):=by omega
 have e2:((x:Int)+(y:Int)+0)/18446744073709551616=(((x+y)/18446744073709551616:Nat):Int):=by omega
 have h:=run_add64 (P:=Tryz.prog) x y 0 oM oM oM oM w;rw[e1,e2]at h;rw[tq,h];simp only[Result.andThen]
namespace dh
theorem Gv:∀i:Fin 256,Lib.len8tab[i.val]?=some (UInt8.ofNat (Lib.bitLen i.val)):=by decide+kernel
theorem sw:Lib.len8tab.size=256:=by decide+kernel
theorem yB:(256:Int)<=(Lib.len8tab.size:Int):=by rw[sw];omega
theorem Lb:∀i:Fin 256,Lib.bitLen i.val<=8:=by decide+kernel
theorem l8{y:Int}(h:y.toNat<Lib.len8tab.size):(((Lib.len8tab[y.toNat]'h).toNat:Nat):Int)=Lib.bitLen y.toNat/\Lib.bitLen y.toNat<=8:=by
 have h':y.toNat<256:=by rw[<-sw];exact h
 have e:=Gv ⟨y.toNat,h'⟩;have l:=Lb ⟨y.toNat,h'⟩;simp only at e l;rw[getElem?_pos Lib.len8tab y.toNat h]at e;rw[abR e];refine⟨?_,l⟩;have:(UInt8.ofNat (Lib.bitLen y.toNat)).toNat=Lib.bitLen y.toNat:=by
  rw[UInt8.toNat_ofNat'];omega
 omega
theorem Ch{k q m:Nat}{T:Int}(e:T=(q:Int))(l:q<=8)(hk:k<=56)(hm:m=k+q):wrap64 ((k:Int)+wrap64 T)=(m:Int):=by
 subst e hm;unfold wrap64;omega
theorem iU{x:Int}(h1:x<=18446744073709551615)(k:Nat){y:Int}{g:y.toNat<Lib.len8tab.size}(hk:2^k<=x.toNat)(hy:y.toNat=x.toNat/2^k)(hk':k<=56):
  wrap64 ((k:Int)+wrap64 ((Lib.len8tab[y.toNat]'g).toNat:Int))=(Lib.bitLen x.toNat:Int):=
 Ch (l8 g).1 (l8 g).2 hk' (by rw[hy];exact Lib.bitLen_shift k x.toNat hk (by clear hk hy g;omega))
theorem Gu{x:Int}{g:x.toNat<Lib.len8tab.size}:
  wrap64 (wrap64 ((Lib.len8tab[x.toNat]'g).toNat:Int))=(Lib.bitLen x.toNat:Int):=by
 have:=Ch (k:=0) (l8 g).1 (l8 g).2 oM (abw _).symm;simpa using this
end dh
theorem Ci(x:Int)(w:World)(h0:0<=x)(h1:x<=18446744073709551615):
  CJ 201 #[.int .u64 x] w fun e w'=>e= .returned (.int .i64 (Lib.bitLen x.toNat))/\w=w':=by
 have hs:=dh.yB;go_enter Tryz.func201,Tryz.ntmps201;go_wp2
 all_goals go_ret
 all_goals refine⟨lR ?_,rfl⟩
 all_goals first
  |exact dh.iU h1 56 oM oM oM
  |exact dh.iU h1 48 oM oM oM
  |exact dh.iU h1 40 oM oM oM
  |exact dh.iU h1 32 oM oM oM
  |exact dh.iU h1 24 oM oM oM
  |exact dh.iU h1 16 oM oM oM
  |exact dh.iU h1 8 oM oM oM
  |exact dh.Gu
theorem oq(x:Int)(w:World)(h0:0<=x)(h1:x<=18446744073709551615):
  CJ 194 #[.int .u64 x] w fun e w'=>e= .returned (.int .i64 (64-(Lib.bitLen x.toNat:Int)))/\w=w':=by
 have l:Lib.bitLen x.toNat<=64:=Lib.bitLen_le x.toNat 64 oM oM;generalize hq:Lib.bitLen x.toNat=q at l⊢;have H:=lH hq;clear hq;go_enter Tryz.func194,Tryz.ntmps194;go_wp2_with (go_at_call 201;refine(Ci x _ h0 h1).mono ?_;rw[H.out];rintro e w' ⟨rfl,rfl⟩);go_ret;exact⟨lR (by go_arith),rfl⟩
end Go.Proofs.YtokeebkaamjliaaGreat.Fx
namespace Go.Proofs.cF
structure Ip(U u1 n1 n0:Nat):Prop where
 lt:U<n1*4294967296+n0
 hu:u1<4294967296
 h0:n0<4294967296
 hl:2147483648<=n1
 hh:n1<4294967296
structure Io(U u1 n1 n0 q r:Nat):Prop where
 sum:q*n1+r=U
 up:U*4294967296+u1<(q+1)*(n1*4294967296+n0)
 rb:r<4294967296
 qb:q<=4294967297
structure DI(U u1 n1 n0 q:Nat):Prop where
 lo:q*(n1*4294967296+n0)<=U*4294967296+u1
 up:U*4294967296+u1<(q+1)*(n1*4294967296+n0)
theorem Qr(q n1 n0:Nat):q*(n1*4294967296+n0)=q*n1*4294967296+q*n0:=by
 rw[Nat.mul_add,Nat.mul_assoc]
theorem OL{U u1 n1 n0:Nat}(e:Ip U u1 n1 n0):Io U u1 n1 n0 (U/n1) (U%n1):=by
 obtain⟨a,b,c,d,f⟩:=e;have h1:=Nat.div_add_mod' U n1;have h2:=Nat.mod_lt U (show 0<n1 by omega);have h3:U/n1<=4294967297:=by
  have:U/n1<4294967298:=by
   rw[Nat.div_lt_iff_lt_mul oM];omega
  omega
 generalize hq:U/n1=q at *;generalize hr:U%n1=r at *;refine⟨h1,?_,oM,h3⟩;rw[Qr];have h4:(q+1)*n1=q*n1+n1:=by rw[Nat.add_mul];omega
 have h5:0<=(q+1)*n0:=aa6 _;generalize (q+1)*n0=z at *;rw[h4];omega
theorem OG{U u1 n1 n0 q r:Nat}(i:Io U u1 n1 n0 q r)(h:q*n0<=4294967296*r+u1):DI U u1 n1 n0 q:=by
 obtain⟨a,b,c,d⟩:=i;refine⟨?_,b⟩;rw[Qr];omega
theorem kpos{u1 n0 q r:Nat}(h:4294967296<=q∨4294967296*r+u1<q*n0):0<q:=by
 rcases Nat.eq_zero_or_pos q with rfl|c
 ·rcases h with h|h
  ·omega
  ·rw[Nat.zero_mul]at h;omega
 ·exact c
theorem TG{U u1 n1 n0 q r:Nat}(e:Ip U u1 n1 n0)(i:Io U u1 n1 n0 q r)(h:4294967296<=q∨4294967296*r+u1<q*n0):
  U*4294967296+u1<q*(n1*4294967296+n0):=by
 obtain⟨a,b,c,d⟩:=i;obtain⟨e1,e2,e3,e4,e5⟩:=e;rcases h with h|h
 ·have:=acK (n1*4294967296+n0) h;omega
 ·rw[Qr];omega
theorem Gy{U u1 n1 n0 q r:Nat}(e:Ip U u1 n1 n0)(i:Io U u1 n1 n0 q r)(h:4294967296<=q∨4294967296*r+u1<q*n0)(hr:r+n1<4294967296):
  Io U u1 n1 n0 (q-1) (r+n1):=by
 have l:=TG e i h;have p:=kpos h;obtain⟨k,rfl⟩:∃k,q=k+1:=⟨q-1,oM⟩
 obtain⟨a,b,c,d⟩:=i;have h4:(k+1)*n1=k*n1+n1:=by rw[Nat.add_mul];omega
 simp only[Nat.add_sub_cancel];exact⟨oM,l,hr,oM⟩
theorem vW{U u1 n1 n0 q r:Nat}(e:Ip U u1 n1 n0)(i:Io U u1 n1 n0 q r)(h:4294967296<=q∨4294967296*r+u1<q*n0)(hr:4294967296<=r+n1):
  DI U u1 n1 n0 (q-1):=by
 have l:=TG e i h;have p:=kpos h;obtain⟨k,rfl⟩:∃k,q=k+1:=⟨q-1,oM⟩
 obtain⟨a,b,c,d⟩:=i;obtain⟨e1,e2,e3,e4,e5⟩:=e;have h4:(k+1)*n1=k*n1+n1:=by rw[Nat.add_mul];omega
 have h5:k*n0<=4294967296*4294967295:=acf oM oM;simp only[Nat.add_sub_cancel];refine⟨?_,l⟩;rw[Qr];omega
theorem Co{U u1 n1 n0 q r:Nat}(e:Ip U u1 n1 n0)(i:Io U u1 n1 n0 q r):q*n0<=4294967297*4294967295/\q<=4294967297/\r<4294967296/\n0<4294967296/\n1<4294967296/\u1<4294967296:=by
 obtain⟨a,b,c,d⟩:=i;obtain⟨e1,e2,e3,e4,e5⟩:=e;have:=acf d (show n0<=4294967295 by omega);exact⟨this,d,c,e3,e5,e2⟩
theorem OI{U u1 u0 n1 n0 q:Nat}(e:Ip U u1 n1 n0)(d:DI U u1 n1 n0 q)(h0:u0<4294967296):Ip (U*4294967296+u1-q*(n1*4294967296+n0)) u0 n1 n0:=by
 obtain⟨a,b⟩:=d;obtain⟨e1,e2,e3,e4,e5⟩:=e;have:(q+1)*(n1*4294967296+n0)=q*(n1*4294967296+n0)+(n1*4294967296+n0):=by rw[Nat.add_mul];omega
 exact⟨oM,h0,e3,e4,e5⟩
theorem Ry{U u1 u0 n1 n0 q p:Nat}(e:Ip U u1 n1 n0)(d:DI U u1 n1 n0 q)(h0:u0<4294967296)(d':DI (U*4294967296+u1-q*(n1*4294967296+n0)) u0 n1 n0 p):
  q*4294967296+p=(U*18446744073709551616+(u1*4294967296+u0))/(n1*4294967296+n0)/\q<4294967296/\p<4294967296:=by
 have e':=OI e d h0;obtain⟨a,b⟩:=d;obtain⟨a',b'⟩:=d';obtain⟨e1,e2,e3,e4,e5⟩:=e;obtain⟨f1,_,_,_,_⟩:=e';obtain⟨Y,hY⟩:=eX (n1*4294967296+n0);rw[<-hY]at a b a' b' f1 e1⊢;have g1:(q+1)*Y=q*Y+Y:=by rw[Nat.add_mul];omega
 have g2:(p+1)*Y=p*Y+Y:=by rw[Nat.add_mul];omega
 have g3:(q*4294967296+p)*Y=q*Y*4294967296+p*Y:=by rw[Nat.add_mul];congr 1;rw[Nat.mul_assoc,Nat.mul_comm 4294967296 Y,<-Nat.mul_assoc]
 refine⟨?_,?_,?_⟩
 ·symm
  rw[Nat.div_eq_iff oM];rw[g3];generalize q*Y=x at *;generalize p*Y=z at *;omega
 ·rcases Nat.lt_or_ge q 4294967296 with c|c
  ·exact c
  ·have:=acK Y c;omega
 ·rcases Nat.lt_or_ge p 4294967296 with c|c
  ·exact c
  ·have:=acK Y c;omega
theorem tU{hi lo y s:Nat}(h1:hi<y)(h3:lo<18446744073709551616)(hs:s<=63)(hy:y*2^s<18446744073709551616):
  hi*2^s<18446744073709551616/\hi*2^s%2^s=0/\lo/2^(64-s)<2^s/\
  (hi*2^s+lo/2^(64-s))*18446744073709551616+lo*2^s%18446744073709551616=(hi*18446744073709551616+lo)*2^s/\
  hi*2^s+lo/2^(64-s)<y*2^s/\
  (hi*18446744073709551616+lo)*2^s/(y*2^s)=(hi*18446744073709551616+lo)/y:=by
 have hp:0<2^s:=Nat.two_pow_pos s;have hle:2^(64-s)*2^s=18446744073709551616:=by rw[<-Nat.pow_add,show 64-s+s=64 by omega]
 have hlt:hi*2^s<y*2^s:=Nat.mul_lt_mul_of_pos_right h1 hp;have hlo:lo/2^(64-s)<2^s:=by
  rw[Nat.div_lt_iff_lt_mul (Nat.two_pow_pos _),Nat.mul_comm,hle];exact h3
 have hl2:lo*2^s/18446744073709551616=lo/2^(64-s):=by
  rw[<-hle];exact Nat.mul_div_mul_right _ _ hp
 have hl3:=acM (lo*2^s) 18446744073709551616;rw[hl2]at hl3;refine⟨oM,Nat.mul_mod_left _ _,hlo,?_,?_,Nat.mul_div_mul_right _ _ hp⟩
 ·rw[Nat.add_mul (hi*18446744073709551616)];have:hi*18446744073709551616*2^s=hi*2^s*18446744073709551616:=by rw[Nat.mul_assoc,Nat.mul_comm 18446744073709551616,<-Nat.mul_assoc]
  rw[this];generalize lo*2^s%18446744073709551616=m at *;generalize lo/2^(64-s)=z at *;generalize lo*2^s=b at *;generalize hi*2^s=a at *;omega
 ·have h4:(hi+1)*2^s<=y*2^s:=acK _ h1;have h5:(hi+1)*2^s=hi*2^s+2^s:=by rw[Nat.add_mul];omega
  omega
theorem Aa{y L:Nat}(h1:1<=L)(h2:2^(L-1)<=y)(h3:y<2^L)(h4:L<=64):9223372036854775808<=y*2^(64-L)/\y*2^(64-L)<18446744073709551616:=by
 have e1:2^(L-1)*2^(64-L)=9223372036854775808:=by rw[<-Nat.pow_add,show L-1+(64-L)=63 by omega]
 have e2:2^L*2^(64-L)=18446744073709551616:=by rw[<-Nat.pow_add,show L+(64-L)=64 by omega]
 have a:=acK (2^(64-L)) h2;have b:=Nat.mul_lt_mul_of_pos_right h3 (Nat.two_pow_pos (64-L));omega
end Go.Proofs.cF
namespace Go.Proofs.YtokeebkaamjliaaGreat.Fx
open RowKit cF
def MH(q:Nat)(w:World)(e:Ending)(w':World):Prop:=∃r:Int,e= .returned (.tuple #[.int .u64 (q:Int), .int .u64 r])/\w=w'
namespace zi
theorem shl{x s X:Nat}(h:X=x*2^s)(hX:X<18446744073709551616):IntKind.u64.wrap ((x:Int)*2^s)=(X:Int):=by
 have:(x:Int)*2^s=(X:Int):=by rw[h,ab4,Int.natCast_pow];rfl
 rw[this];exact dh.fX X hX
theorem UH{x s X:Nat}(h:X=x*2^s%18446744073709551616):IntKind.u64.wrap ((x:Int)*2^s)=(X:Int):=by
 have:(x:Int)*2^s=((x*2^s:Nat):Int):=by rw[ab4,Int.natCast_pow];rfl
 rw[this,dh.DU,h]
theorem shr{x s X:Nat}(h:X=x/2^s):(x:Int)/2^s=(X:Int):=by
 rw[h,Int.natCast_ediv,Int.natCast_pow];rfl
theorem orp{x y s:Nat}(hx:x%2^s=0)(hy:y<2^s)(h1:x<18446744073709551616)(h2:y<18446744073709551616):bits .or .u64 (x:Int) (y:Int)=((x+y:Nat):Int):=by
 rw[bits_or_u64_nat x y h1 h2,nat_join s x y hx hy]
theorem quo{x d X:Nat}(h:X=x/d)(hx:x<18446744073709551616):IntKind.u64.wrap ((x:Int)/(d:Int))=(X:Int):=by
 rw[<-Int.natCast_ediv,<-h];refine dh.fX X ?_;have:=Nat.div_le_self x d;omega
theorem rem{U q n r:Nat}(h:q*n+r=U)(hU:U<18446744073709551616):IntKind.u64.wrap ((U:Int)-IntKind.u64.wrap ((q:Int)*(n:Int)))=(r:Int):=by
 rw[dh.uy,IntKind.wrap_u64,IntKind.wrap_u64];generalize q*n=a at *;omega
theorem left{U u1 q Y T:Nat}(h:T=U*4294967296+u1-q*Y)(h1:q*Y<=U*4294967296+u1)(hT:T<18446744073709551616):
  IntKind.u64.wrap (IntKind.u64.wrap (IntKind.u64.wrap ((U:Int)*4294967296)+(u1:Int))-IntKind.u64.wrap ((q:Int)*(Y:Int)))=(T:Int):=by
 rw[dh.uy,IntKind.wrap_u64,IntKind.wrap_u64,IntKind.wrap_u64,IntKind.wrap_u64];generalize q*Y=a at *;omega
end zi
theorem Df(hi lo y:Nat)(h0:0<hi)(h1:hi<y)(h2:y<18446744073709551616)(h3:lo<18446744073709551616)(w:World):
  CJ 191 #[.int .u64 hi, .int .u64 lo, .int .u64 y] w (MH ((hi*18446744073709551616+lo)/y) w):=by
 obtain⟨l1,l2,l3⟩:=Lib.bitLenAux_bounds 64 y h2 oM;have l4:Lib.bitLen y<=64:=Lib.bitLen_le y 64 oM oM;have HL:∀w',CJ 194 #[.int .u64 y] w' fun e w''=>e= .returned (.int .i64 (64-(Lib.bitLen y:Int)))/\w'=w'':=fun w'=>by
  have:=oq (y:Int) w' oM oM
  rwa [aa2]at this
 change 1<=Lib.bitLen y at l1
 change 2^(Lib.bitLen y-1)<=y at l2
 change y<2^Lib.bitLen y at l3
 obtain⟨t1,t2⟩:=Aa l1 l2 l3 l4;generalize Lib.bitLen y=L at *;obtain⟨s,hs⟩:=eX (64-L);rw[<-hs]at t1 t2;rw[show(64-(L:Int))=(s:Int) by omega]at HL;have hs1:s<=63:=by omega
 obtain⟨f1,f2,f3,f4,f5,f6⟩:=tU h1 h3 hs1 t2;clear hs l1 l2 l3 l4;obtain⟨Y,hY⟩:=eX (y*2^s);obtain⟨A,hA⟩:=eX (hi*2^s);obtain⟨C,hC⟩:=eX (lo/2^(64-s));obtain⟨U,hU⟩:=eX (A+C);obtain⟨V,hV⟩:=eX (lo*2^s%18446744073709551616);have EY:=zi.shl hY oM;have EA:=zi.shl hA oM;have EC:=zi.shr hC;have EV:=zi.UH hV;have hp:2^s<=9223372036854775808:=by
  have:=acT (show 0<2 by omega) hs1;omega
 have EU:bits .or .u64 (A:Int) (C:Int)=(U:Int):=by
  rw[hU];exact zi.orp (s:=s) (by rw[hA];exact f2) oM oM oM
 have hV1:V<18446744073709551616:=by omega
 have hY1:Y<18446744073709551616:=by omega
 have hY2:9223372036854775808<=Y:=by omega
 have hUY:U<Y:=by omega
 have hfin:(hi*18446744073709551616+lo)/y=(U*18446744073709551616+V)/Y:=by rw[<-f6,hU,hA,hC,hV,f4,hY]
 rw[hfin];clear hfin f1 f2 f3 f4 f5 f6 hp t1 t2 hY hA hC hU hV;obtain⟨n1,hn1⟩:∃n,n=Y/4294967296:=⟨_,rfl⟩
 obtain⟨n0,hn0⟩:∃n,n=Y%4294967296:=⟨_,rfl⟩
 obtain⟨u1,hu1⟩:∃n,n=V/4294967296:=⟨_,rfl⟩
 obtain⟨u0,hu0⟩:∃n,n=V%4294967296:=⟨_,rfl⟩
 have D1:(Y:Int)/4294967296=(n1:Int):=by omega
 have D0:bits .and .u64 (Y:Int) 4294967295=(n0:Int):=by rw[dh.mask Y hY1,hn0]
 have C1:(V:Int)/4294967296=(u1:Int):=by omega
 have C0:bits .and .u64 (V:Int) 4294967295=(u0:Int):=by rw[dh.mask V hV1,hu0]
 have hYs:Y=n1*4294967296+n0:=by omega
 have hVs:V=u1*4294967296+u0:=by omega
 have env:Ip U u1 n1 n0:=⟨oM,oM,oM,oM,oM⟩
 have b0:u0<4294967296:=by omega
 have inv:=OL env;obtain⟨q,hq⟩:=eX (U/n1);obtain⟨r,hr⟩:=eX (U%n1);rw[<-hq,<-hr]at inv;have EQ:=zi.quo hq oM;have ER:=zi.rem inv.sum oM;clear hn1 hn0 hu1 hu0 hq hr;have HYs:=lH hYs;clear hYs;have HVs:=lH hVs;clear hVs;have hn:2147483648<=n1:=env.hl;have HE:=lH env;clear env;have HLh:=lH HL;clear HL;have Us:=lH inv;clear inv;have hz:((hi:Int)==0)=false:=by rw[acq];omega
 go_enter Tryz.func191,Tryz.ntmps191;go_wp2_with (go_at_call 194;refine(HLh.out _).mono ?_;rintro e w' ⟨rfl,rfl⟩);clear EY EA EC EV EU D1 D0 C1 C0 EQ ER;have env:=HE.out;have HB:=lH (And.intro h2 (And.intro h3 (And.intro hV1 (And.intro hY1 hY2))));clear h2 h3 hV1 hY1 hY2 hUY HLh hz h0 h1;have inv:=Us.out;clear Us
 go_loop [15,16] (fun a b=>∃q r:Nat,a= .int .u64 q/\b= .int .u64 r/\Io U u1 n1 n0 q r) (fun a _=>(intOf a).toNat)
 case atStart=>exact⟨q,r,rfl,rfl,inv⟩
 case round=>
  rename_i hw;clear hw inv;obtain⟨q,r,rfl,rfl,inv⟩:=hrel;obtain⟨g1,g2,g3,g4,g5,g6⟩:=Co env inv;have p1:(q:Int)*(n0:Int)<=4294967297*4294967295:=by rw[dh.uy];omega
  have p0:0<=(q:Int)*(n0:Int):=by rw[dh.uy];omega
  have i1:(q:Int)<=4294967297:=by omega
  have i2:(r:Int)<4294967296:=by omega
  have i3:(n1:Int)<4294967296:=by omega
  have i4:(u1:Int)<4294967296:=by omega
  clear g1 g2 g3 g4 g5 g6;have ex:(4294967296<=(q:Int)/\4294967296<=(r:Int)+(n1:Int))∨(¬4294967296<=(q:Int)/\4294967296*(r:Int)+(u1:Int)<(q:Int)*(n0:Int)/\4294967296<=(r:Int)+(n1:Int))∨
    (¬4294967296<=(q:Int)/\¬4294967296*(r:Int)+(u1:Int)<(q:Int)*(n0:Int))∨
    (4294967296<=(q:Int)/\¬4294967296<=(r:Int)+(n1:Int))∨(¬4294967296<=(q:Int)/\4294967296*(r:Int)+(u1:Int)<(q:Int)*(n0:Int)/\¬4294967296<=(r:Int)+(n1:Int)):=by omega
  rcases ex with⟨c1,c3⟩|⟨c1,c2,c3⟩|⟨c1,c2⟩|⟨c1,c3⟩|⟨c1,c2,c3⟩
  case inr.inr.inr.inl=>
   have cp:(0:Int)<(q:Int):=by omega
   have R:=lH (Gy env inv (.inl oM) oM);clear inv env hn;go_wp2
   go_round
   case rel=>exact⟨q-1,r+n1,by go_num,by go_num,R.out⟩
   case measure=>simp[intOf];omega
  case inr.inr.inr.inr=>
   have cc:4294967296<=q∨4294967296*r+u1<q*n0:= .inr (by rw[dh.uy]at c2;omega);have cp:(0:Int)<(q:Int):=by have:=kpos cc;omega
   have R:=lH (Gy env inv cc oM);clear inv env hn cc;go_wp2
   go_round
   case rel=>exact⟨q-1,r+n1,by go_num,by go_num,R.out⟩
   case measure=>simp[intOf];omega
  case' inl=>
   have cp:(0:Int)<(q:Int):=by omega
   have R:=lH (vW env inv (.inl oM) oM);clear inv env hn
   go_upto_region 21 with(fail)
   rw[show(q:Int)-1=((q-1:Nat):Int) by omega];generalize q-1=q2 at R⊢;generalize (r:Int)+(n1:Int)=rr;clear p1 p0 i1 i2 cp c1 c3
  case' inr.inl=>
   have cc:4294967296<=q∨4294967296*r+u1<q*n0:= .inr (by rw[dh.uy]at c2;omega);have cp:(0:Int)<(q:Int):=by have:=kpos cc;omega
   have R:=lH (vW env inv cc oM);clear inv env hn cc
   go_upto_region 21 with(fail)
   rw[show(q:Int)-1=((q-1:Nat):Int) by omega];generalize q-1=q2 at R⊢;generalize (r:Int)+(n1:Int)=rr;clear p1 p0 i1 i2 cp c1 c2 c3
  case' inr.inr.inl=>
   have R:=lH (OG inv (by rw[dh.uy]at c2;omega));have d1:decide ((4294967296:Int)<=(q:Int))=false:=abQ c1;have d2:decide (4294967296*(r:Int)+(u1:Int)<(q:Int)*(n0:Int))=false:=abQ c2;clear inv env hn c1 c2
   go_upto_region 21 with(fail)
   clear p1 p0 i1 i2 d1 d2;obtain⟨q2,hq2⟩:=eX (q);subst hq2
  all_goals
   have hYs:=HYs.out;have env:=HE.out;have D:=R.out;have sX:=OI (u0:=u0) env D b0;have D1:=D.lo;obtain⟨T,hT⟩:=eX (U*4294967296+u1-q2*Y);rw[<-hYs,<-hT]at sX;rw[<-hYs]at D1;have hTY:=sX.lt;rw[<-hYs]at hTY;obtain⟨h2,h3,hV1,hY1,hY2⟩:=HB.out;have EL:=zi.left hT D1 oM;have inv:=OL sX;obtain⟨q,hq⟩:=eX (T/n1);obtain⟨r,hr⟩:=eX (T%n1);rw[<-hq,<-hr]at inv;have EQ:=zi.quo hq oM;have ER:=zi.rem inv.sum oM;have hn:=env.hl;have HT:=lH hT;clear hT;have HI:=lH (And.intro inv sX);clear hYs env D sX D1 hTY h2 h3 hV1 hY1 hY2 hq hr inv;go_wp2;clear EL EQ ER hn;obtain⟨inv,sX⟩:=HI.out
   go_loop [18,16] (fun a b=>∃q r:Nat,a= .int .u64 q/\b= .int .u64 r/\Io T u0 n1 n0 q r) (fun a _=>(intOf a).toNat)
   case atStart=>exact⟨q,r,rfl,rfl,inv⟩
   case round=>
    rename_i hw;clear hw inv;obtain⟨q,r,rfl,rfl,inv⟩:=hrel;obtain⟨g1,g2,g3,g4,g5,g6⟩:=Co sX inv;have hn:=sX.hl;have p1:(q:Int)*(n0:Int)<=4294967297*4294967295:=by rw[dh.uy];omega
    have p0:0<=(q:Int)*(n0:Int):=by rw[dh.uy];omega
    have i1:(q:Int)<=4294967297:=by omega
    have i2:(r:Int)<4294967296:=by omega
    have i3:(n1:Int)<4294967296:=by omega
    have i4:(u0:Int)<4294967296:=by omega
    clear g1 g2 g3 g4 g5 g6;have ex:(4294967296<=(q:Int)/\4294967296<=(r:Int)+(n1:Int))∨(¬4294967296<=(q:Int)/\4294967296*(r:Int)+(u0:Int)<(q:Int)*(n0:Int)/\4294967296<=(r:Int)+(n1:Int))∨
      (¬4294967296<=(q:Int)/\¬4294967296*(r:Int)+(u0:Int)<(q:Int)*(n0:Int))∨
      (4294967296<=(q:Int)/\¬4294967296<=(r:Int)+(n1:Int))∨(¬4294967296<=(q:Int)/\4294967296*(r:Int)+(u0:Int)<(q:Int)*(n0:Int)/\¬4294967296<=(r:Int)+(n1:Int)):=by omega
    rcases ex with⟨c1,c3⟩|⟨c1,c2,c3⟩|⟨c1,c2⟩|⟨c1,c3⟩|⟨c1,c2,c3⟩
    case inr.inr.inr.inl=>
     have cp:(0:Int)<(q:Int):=by omega
     have R':=lH (Gy sX inv (.inl oM) oM);clear inv sX hn;go_wp2
     go_round
     case rel=>exact⟨q-1,r+n1,by go_num,by go_num,R'.out⟩
     case measure=>simp[intOf];omega
    case inr.inr.inr.inr=>
     have cc:4294967296<=q∨4294967296*r+u0<q*n0:= .inr (by rw[dh.uy]at c2;omega);have cp:(0:Int)<(q:Int):=by have:=kpos cc;omega
     have R':=lH (Gy sX inv cc oM);clear inv sX hn cc;go_wp2
     go_round
     case rel=>exact⟨q-1,r+n1,by go_num,by go_num,R'.out⟩
     case measure=>simp[intOf];omega
    case' inl=>
     have cp:(0:Int)<(q:Int):=by omega
     have R':=lH (vW sX inv (.inl oM) oM);clear inv sX hn
     go_upto_region 28 with(fail)
     rw[show(q:Int)-1=((q-1:Nat):Int) by omega];generalize q-1=q3 at R'⊢;clear p1 p0 i1 i2 cp c1 c3
    case' inr.inl=>
     have cc:4294967296<=q∨4294967296*r+u0<q*n0:= .inr (by rw[dh.uy]at c2;omega);have cp:(0:Int)<(q:Int):=by have:=kpos cc;omega
     have R':=lH (vW sX inv cc oM);clear inv sX hn cc
     go_upto_region 28 with(fail)
     rw[show(q:Int)-1=((q-1:Nat):Int) by omega];generalize q-1=q3 at R'⊢;clear p1 p0 i1 i2 cp c1 c2 c3
    case' inr.inr.inl=>
     have R':=lH (OG inv (by rw[dh.uy]at c2;omega));have d1:decide ((4294967296:Int)<=(q:Int))=false:=abQ c1;have d2:decide (4294967296*(r:Int)+(u0:Int)<(q:Int)*(n0:Int))=false:=abQ c2;clear inv sX hn c1 c2
     go_upto_region 28 with(fail)
     clear p1 p0 i1 i2 d1 d2;obtain⟨q3,hq3⟩:=eX (q);subst hq3
    all_goals
     have hYs:=HYs.out;have hVs:=HVs.out;have hT:=HT.out;have D:=R.out;have D':=R'.out;rw[hT,hYs]at D';obtain⟨k1,k2,k3⟩:=Ry HE.out D b0 D';rw[<-hYs,<-hVs]at k1;have k4:IntKind.u64.wrap (IntKind.u64.wrap ((q2:Int)*4294967296)+(q3:Int))=(((U*18446744073709551616+V)/Y:Nat):Int):=by
      rw[<-k1,IntKind.wrap_u64,IntKind.wrap_u64];omega
     have K4:=lH k4;clear hYs hVs hT D D' k1 k2 k3 k4;go_wp2;go_ret2;exact⟨_,abP (fun z=>Ending.returned (.tuple #[.int .u64 z, .int .u64 _])) K4.out,rfl⟩
open RowKit cF
structure Gr(w w':World):Prop where
 below:Below w.heap.size w w'
 grown:Grown w w'
theorem Gr.refl(w:World):Gr w w:=⟨abu _ _,Grown.refl _⟩
theorem Gr.trans{a b c:World}(h:Gr a b)(k:Gr b c):Gr a c:=
 ⟨h.below.trans (k.below.mono h.below.size),⟨World.keptBut_trans h.grown.1 (World.keptBut_mono (fun _ f=>f.elim) k.grown.1),fun p=>(k.grown.2.1 p).trans (h.grown.2.1 p),ab3 h.grown.2.2 k.grown.2.2⟩⟩
theorem Gr.alloc{a b:World}(h:Gr a b)(c:Array Value)(t:TypeId):Gr a (b.alloc (.cells c t)):=⟨h.below.alloc h.below.size _,h.grown.alloc c t⟩
theorem Gr.setCell{a b:World}(h:Gr a b){p:Addr}(hp:a.heap.size<=p.block)(v:Value):Gr a (b.setCell p v):=⟨h.below.setCell hp v,h.grown.setCell hp v⟩
theorem Gr.cell{a b:World}(h:Gr a b){p:Addr}{v:Value}(hp:p.block<a.heap.size)(hc:a.cell? p=some v):b.cell? p=some v:=(h.below.cell hp).trans hc
theorem Gr.rT{w w1:World}{c:Array Value}{t:TypeId}(h:Gr (w.alloc (.cells c t)) w1)(i:Nat){v:Value}(hv:c[i]?=some v):w1.cell? ⟨w.heap.size,i,none⟩=some v:=
 h.cell sC ((abB c t _ i rfl).trans hv)
theorem Gr.yc{w w1:World}{c:Array Value}{t:TypeId}(h:Gr (w.alloc (.cells c t)) w1)(i:Nat):w1.frozen? ⟨w.heap.size,i,none⟩=false:=
 (h.below.frozen (p:=⟨w.heap.size,i,none⟩) sC).trans (World.frozen?_alloc_at c t _ i rfl)
theorem Gr.qV{a b:World}(h:Gr a.drew b):Gr a b:=⟨⟨h.below.os,h.below.tape,h.below.output,h.below.size,h.below.block⟩,h.grown⟩
theorem Gr.drewN{a b:World}(h:Gr a b)(n:Nat):Gr a (b.drewN n):=⟨⟨h.below.os,h.below.tape,h.below.output,h.below.size,h.below.block⟩,h.grown⟩
def UC(q:Nat)(w:World)(e:Ending)(w':World):Prop:=∃r:Int,e= .returned (.tuple #[.int .u64 (q:Int), .int .u64 r])/\Gr w w'
theorem rH{a c:Bool}(h:a=c):Ending.returned (.bool a)= .returned (.bool c):=by rw[h]
def wv(n:Nat):Value:= .agg #[.int .u64 ((n/18446744073709551616:Nat):Int), .int .u64 ((n%18446744073709551616:Nat):Int)]
theorem yT(lo y:Nat)(h1:0<y)(h3:lo<18446744073709551616)(w:World):
  CJ 191 #[.int .u64 0, .int .u64 lo, .int .u64 y] w (UC (lo/y) w):=by
 have hq:IntKind.u64.wrap ((lo:Int)/(y:Int))=((lo/y:Nat):Int):=zi.quo rfl h3;generalize lo/y=q at *;have HQ:=lH hq;clear hq;have hz:((y:Int)==0)=false:=by rw[acq];omega
 have hz':¬(y:Int)<=0:=by omega
 go_enter Tryz.func191,Tryz.ntmps191;go_wp2;go_quiet (fail);go_wp2;go_ret2;exact⟨_,abP (fun z=>Ending.returned (.tuple #[.int .u64 z, .int .u64 _])) HQ.out,by repeat (first|exact Gr.refl _|apply Gr.drew|apply Gr.drewN)⟩
theorem s8(hi lo y:Nat)(h1:hi<y)(h2:y<18446744073709551616)(h3:lo<18446744073709551616)(w:World):
  CJ 191 #[.int .u64 hi, .int .u64 lo, .int .u64 y] w (UC ((hi*18446744073709551616+lo)/y) w):=by
 by_cases h0:0<hi
 ·exact(Df hi lo y h0 h1 h2 h3 w).mono fun e w' ⟨r,he,hw⟩=>⟨r,he,hw▸Gr.refl _⟩
 ·obtain rfl:hi=0:=by omega
  rw[show(0*18446744073709551616+lo)=lo by omega];exact yT lo y h1 h3 w
theorem jc(x y:Nat)(hx:x<18446744073709551616)(hy:y<18446744073709551616)(w:World):
  CJ 168 #[.int .u64 x, .int .u64 y] w fun e w'=>e= .returned (wv (x*y))/\Gr w w':=by
 have HC:∀w',CJ 171 #[.int .u64 x, .int .u64 y] w' fun e w''=>e= .returned (.tuple #[.int .u64 ((x*y/18446744073709551616:Nat):Int), .int .u64 ((x*y%18446744073709551616:Nat):Int)])/\w'=w'':=fun w'=>mP x y hx hy w'
 unfold wv;generalize x*y/18446744073709551616=p at *;generalize x*y%18446744073709551616=q at *;have H:=lH HC;clear HC;go_enter Tryz.func168,Tryz.ntmps168;go_wp2_with (go_at_call 171;refine(H.out _).mono ?_;rintro e w' ⟨rfl,rfl⟩)
 go_returns
 exact⟨rfl,(Gr.refl _).alloc _ _⟩
namespace Tq
theorem PL{a1 a0 b1 b0 a b:Nat}(H:(18446744073709551616*a1+a0=a)/\(18446744073709551616*b1+b0=b)/\a0<18446744073709551616/\b0<18446744073709551616)(h:((a1:Int) !=(b1:Int))=true):
  decide (b1<a1)=decide (b<a):=by
 rw[bne_iff_ne]at h;rw[decide_eq_decide];omega
theorem PN{a1 a0 b1 b0 a b:Nat}(H:(18446744073709551616*a1+a0=a)/\(18446744073709551616*b1+b0=b)/\a0<18446744073709551616/\b0<18446744073709551616)(h:((a1:Int) !=(b1:Int))=false):
  decide (b0<a0)=decide (b<a):=by
 have:(a1:Int)=(b1:Int):=by simpa using h
 rw[decide_eq_decide];omega
end Tq
theorem DG(a b:Nat)(w:World):
  CJ 196 #[wv a,wv b] w fun e w'=>e= .returned (.bool (decide (b<a)))/\Gr w w':=by
 unfold wv;have e1:=acM a 18446744073709551616;have e2:=acM b 18446744073709551616;have m1:=Nat.mod_lt a (show 0<18446744073709551616 by omega);have m2:=Nat.mod_lt b (show 0<18446744073709551616 by omega);generalize a/18446744073709551616=a1 at *;generalize b/18446744073709551616=b1 at *;generalize a%18446744073709551616=a0 at *;generalize b%18446744073709551616=b0 at *;have H:=lH (And.intro e1 (And.intro e2 (And.intro m1 m2)));clear e1 e2 m1 m2;go_enter Tryz.func196,Tryz.ntmps196;go_wp2
 all_goals go_ret
 ·exact⟨rH (Tq.PL H.out (by assumption)),((Gr.refl _).alloc _ _).alloc _ _⟩
 ·exact⟨rH (Tq.PN H.out (by assumption)),((Gr.refl _).alloc _ _).alloc _ _⟩
theorem Fw(a n:Nat)(ha:a+n<340282366920938463463374607431768211456)(w:World):
  CJ 190 #[wv a, .int .u64 n] w fun e w'=>e= .returned (wv (a+n))/\Gr w w':=by
 unfold wv;have e1:=acM a 18446744073709551616;have m1:=Nat.mod_lt a (show 0<18446744073709551616 by omega);have q1:(a+n)/18446744073709551616=a/18446744073709551616+(a%18446744073709551616+n)/18446744073709551616:=by omega
 have q2:(a+n)%18446744073709551616=(a%18446744073709551616+n)%18446744073709551616:=by omega
 have q3:a/18446744073709551616+(a%18446744073709551616+n)/18446744073709551616<18446744073709551616:=by omega
 rw[q1,q2];have hr:=fun w'=>DF (a%18446744073709551616) n w'
 generalize a/18446744073709551616=a1 at *;generalize a%18446744073709551616=a0 at *;generalize (a0+n)/18446744073709551616=c at *;generalize (a0+n)%18446744073709551616=s at *;have hw:IntKind.u64.wrap ((a1:Int)+(c:Int))=((a1+c:Nat):Int):=by rw[dh.QI];exact dh.fX _ q3
 generalize a1+c=z at *;clear e1 m1 q1 q2 q3 ha;go_enter Tryz.func190,Tryz.ntmps190;go_wp2_with (simp only[hr])
 go_returns
 exact⟨rfl,((Gr.refl _).alloc _ _).alloc _ _⟩
open RowKit cF
def oW(below:Bool)(n d:Nat):Int×Int:=if below=true then put (-(((n+(d-1))/d:Nat):Int))else put ((n/d:Nat):Int)
def Two(p:Int×Int)(w:World)(e:Ending)(w':World):Prop:=e= .returned (.tuple #[.int .i64 p.1, .int .i64 p.2])/\Gr w w'
namespace Qg
theorem CB{n d:Nat}(hd:0<d)(h:d<=n/18446744073709551616):18446744073709551616<=n/d:=by
 rw[Nat.le_div_iff_mul_le hd];have:=acM n 18446744073709551616;have:18446744073709551616*d<=n:=by
  have:=Nat.mul_le_mul_left 18446744073709551616 h;omega
 omega
theorem CC{n d:Nat}(hd:0<d)(h:n/18446744073709551616<d):n/d<18446744073709551616:=by
 rw[Nat.div_lt_iff_lt_mul hd];have:=acM n 18446744073709551616;have:=Nat.mul_le_mul_left 18446744073709551616 (show n/18446744073709551616+1<=d from h);have:n<18446744073709551616*d:=by omega
 omega
end Qg
theorem zI(n d:Nat)(hd:0<d)(hd2:d<18446744073709551616)(w:World)(pb pm:Addr)(hb:w.cell? pb=some (.bool false))(hm:w.cell? pm=some (.int .u64 9223372036854775807))
  (hb1:pb.block<w.heap.size)(hm1:pm.block<w.heap.size):
  CJ 189 #[wv n, .int .u64 d, .pointer (some pb), .pointer (some pm)] w (Two (oW false n d) w):=by
 have hdiv:=fun(c:n/18446744073709551616<d) w'=>s8 (n/18446744073709551616) (n%18446744073709551616) d c hd2 oM w'
 rw[show n/18446744073709551616*18446744073709551616+n%18446744073709551616=n by omega]at hdiv;by_cases c1:n/18446744073709551616<d
 ·have hD:=hdiv c1;have hq:=Qg.CC hd c1;have ht:oW false n d=put ((n/d:Nat):Int):=rfl;rw[ht];unfold wv;generalize n/d=q at *;generalize n/18446744073709551616=n1 at *;generalize n%18446744073709551616=n0 at *;have H:=lH hD;clear hD hdiv ht;by_cases c2:(9223372036854775807:Int)<(q:Int)
  ·have hP:put (q:Int)=(0,10):=fw oM;rw[hP];clear hP hq;go_enter Tryz.func189,Tryz.ntmps189;go_wp2_with (go_at_call 191;refine(H.out _).mono ?_;rintro e w1 ⟨r,rfl,hg⟩;have hg':=Gr.trans ((Gr.refl w).alloc _ _) hg;have hb':=hg'.cell hb1 hb;have hm':=hg'.cell hm1 hm;clear hb hm);go_ret2;exact⟨rfl,hg'⟩
  ·have hP:put (q:Int)=((q:Int),0):=cO oM oM;rw[hP];clear hP hq;have hi:(q:Int)<=9223372036854775807:=by omega
   go_enter Tryz.func189,Tryz.ntmps189;go_wp2_with (go_at_call 191;refine(H.out _).mono ?_;rintro e w1 ⟨r,rfl,hg⟩;have hg':=Gr.trans ((Gr.refl w).alloc _ _) hg;have hb':=hg'.cell hb1 hb;have hm':=hg'.cell hm1 hm;clear hb hm);go_ret2;exact⟨lQ (by first|rfl|go_arith) rfl,hg'⟩
 ·have hP:oW false n d=(0,10):=by
   have:=Qg.CB hd (show d<=n/18446744073709551616 by omega);exact fw oM
  rw[hP];unfold wv;generalize n/18446744073709551616=n1 at *;generalize n%18446744073709551616=n0 at *;clear hdiv hP;go_enter Tryz.func189,Tryz.ntmps189;go_wp2;go_ret2;exact⟨rfl,(Gr.refl _).alloc _ _⟩
theorem vl(n d:Nat)(hd:0<d)(hd2:d<18446744073709551616)(hn:n+(d-1)<340282366920938463463374607431768211456)(w:World)(pb pm:Addr)(hb:w.cell? pb=some (.bool true))(hm:w.cell? pm=some (.int .u64 9223372036854775808))
  (hb1:pb.block<w.heap.size)(hm1:pm.block<w.heap.size):
  CJ 189 #[wv n, .int .u64 d, .pointer (some pb), .pointer (some pm)] w (Two (oW true n d) w):=by
 have Lm:=fun w'=>Fw n (d-1) hn w'
 have hd1:((d-1:Nat):Int)=(d:Int)-1:=by omega
 rw[hd1]at Lm;have ht:oW true n d=put (-(((n+(d-1))/d:Nat):Int)):=rfl;rw[ht];clear ht hd1 hn;generalize n+(d-1)=m at *;have hdiv:=fun(c:m/18446744073709551616<d) w'=>s8 (m/18446744073709551616) (m%18446744073709551616) d c hd2 oM w'
 rw[show m/18446744073709551616*18446744073709551616+m%18446744073709551616=m by omega]at hdiv;unfold wv at *;generalize n/18446744073709551616=n1 at *;generalize n%18446744073709551616=n0 at *;have HP:=lH Lm;clear Lm;have HBM:=lH (And.intro hb hm);by_cases c1:m/18446744073709551616<d
 ·have hD:=hdiv c1;have hq:=Qg.CC hd c1;generalize m/d=q at *;generalize m/18446744073709551616=m1 at *;generalize m%18446744073709551616=m0 at *;have H:=lH hD;clear hD hdiv;by_cases c2:(9223372036854775808:Int)<(q:Int)
  ·have hP:put (-(q:Int))=(0,10):=fw oM;rw[hP];clear hP hq;go_enter Tryz.func189,Tryz.ntmps189;go_wp2_with first|(go_at_call 190;refine(HP.out _).mono ?_;rintro e w1 ⟨rfl,hg⟩;have hg':=Gr.trans ((Gr.refl w).alloc _ _) hg;have hb':=hg'.cell hb1 hb;have hm':=hg'.cell hm1 hm;have hz:=hg.below.size;have z0:=hg.rT 0 rfl;have z1:=hg.rT 1 rfl;have y0:=hg.yc 0;have y1:=hg.yc 1;clear hb hm hg)|(go_at_call 191;refine(H.out _).mono ?_;rintro e w2 ⟨r,rfl,hg⟩;have hg2:=Gr.trans (Gr.setCell (Gr.setCell hg' (p:=⟨w.heap.size,0,none⟩) sC _) (p:=⟨w.heap.size,1,none⟩) sC _) hg;have hb2:=hg2.cell hb1 HBM.out.1;have hm2:=hg2.cell hm1 HBM.out.2;clear hb' hm' hg z0 z1 y0 y1 hg')
   go_ret2;exact⟨rfl,hg2⟩
  ·have hP:put (-(q:Int))=(-(q:Int),0):=cO oM oM;rw[hP];clear hP hq;have hi:(q:Int)<=9223372036854775808:=by omega
   go_enter Tryz.func189,Tryz.ntmps189;go_wp2_with first|(go_at_call 190;refine(HP.out _).mono ?_;rintro e w1 ⟨rfl,hg⟩;have hg':=Gr.trans ((Gr.refl w).alloc _ _) hg;have hb':=hg'.cell hb1 hb;have hm':=hg'.cell hm1 hm;have hz:=hg.below.size;have z0:=hg.rT 0 rfl;have z1:=hg.rT 1 rfl;have y0:=hg.yc 0;have y1:=hg.yc 1;clear hb hm hg)|(go_at_call 191;refine(H.out _).mono ?_;rintro e w2 ⟨r,rfl,hg⟩;have hg2:=Gr.trans (Gr.setCell (Gr.setCell hg' (p:=⟨w.heap.size,0,none⟩) sC _) (p:=⟨w.heap.size,1,none⟩) sC _) hg;have hb2:=hg2.cell hb1 HBM.out.1;have hm2:=hg2.cell hm1 HBM.out.2;clear hb' hm' hg z0 z1 y0 y1 hg')
   go_ret2;exact⟨lQ (by first|rfl|go_arith) rfl,hg2⟩
 ·have hP:put (-((m/d:Nat):Int))=(0,10):=by
   have:=Qg.CB hd (show d<=m/18446744073709551616 by omega);exact fw oM
  rw[hP];generalize m/18446744073709551616=m1 at *;generalize m%18446744073709551616=m0 at *;clear hdiv hP;go_enter Tryz.func189,Tryz.ntmps189;go_wp2_with (go_at_call 190;refine(HP.out _).mono ?_;rintro e w1 ⟨rfl,hg⟩;have hg':=Gr.trans ((Gr.refl w).alloc _ _) hg;have hb':=hg'.cell hb1 hb;have hm':=hg'.cell hm1 hm;have hz:=hg.below.size;have z0:=hg.rT 0 rfl;have z1:=hg.rT 1 rfl;have y0:=hg.yc 0;have y1:=hg.yc 1;clear hb hm hg);go_ret2;exact⟨rfl,(hg'.setCell (p:=⟨w.heap.size,0,none⟩) sC _).setCell (p:=⟨w.heap.size,1,none⟩) sC _⟩
open RowKit cF
namespace Tp
theorem Ek(a b:Int):oW (decide (a<0) !=decide (b<0)) (a.natAbs*b.natAbs) 4294967296=dX a b:=by
 unfold oW dX;rw[Bu a b];split
 ·rw[show(4294967296:Int)=((4294967296:Nat):Int)from rfl,jo _ _ oM]
 ·rw[show(4294967296:Int)=((4294967296:Nat):Int)from rfl,<-Int.natCast_ediv]
theorem wJ(x:Int)(d:Nat):Int.fdiv x (d:Int)=x/(d:Int):=Int.fdiv_eq_ediv_of_nonneg _ oM
theorem El(a b:Int)(hb:b≠0):oW (decide (a<0) !=decide (b<0)) (a.natAbs*4294967296) b.natAbs=nE a b:=by
 unfold oW nE;rw[aaT hb];have hz:0<b.natAbs:=by omega
 have hx:Int.fdiv (a*4294967296) b=(if(decide (a<0) !=decide (b<0))=true then -((a.natAbs*4294967296:Nat):Int)else((a.natAbs*4294967296:Nat):Int))/(b.natAbs:Int):=by
  rcases Int.lt_or_lt_of_ne hb with h|h
  ·have e:b= -(b.natAbs:Int):=by omega
   have e2:decide (b<0)=true:=by simpa using h
   rw[e2];have e3:Int.fdiv (a*4294967296) b=Int.fdiv (-(a*4294967296)) (b.natAbs:Int):=by
    rw[show(b.natAbs:Int)= -b by omega,Int.neg_fdiv_neg]
   rw[e3,wJ];congr 1;by_cases c:a<0<;>simp[c]<;>omega
  ·have e:b=(b.natAbs:Int):=by omega
   have e2:decide (b<0)=false:=by simp;omega
   rw[e2];have e3:Int.fdiv (a*4294967296) b=Int.fdiv (a*4294967296) (b.natAbs:Int):=by rw[<-e]
   rw[e3,wJ];congr 1;by_cases c:a<0<;>simp[c]<;>omega
 rw[hx];split
 ·rw[jo _ _ hz]
 ·rw[<-Int.natCast_ediv]
end Tp
theorem zA{w w1:World}{a b:Value}{s t:TypeId}(hg:Gr ((w.alloc (.cells #[a] s)).alloc (.cells #[b] t)) w1):
  w1.cell? ⟨w.heap.size,0,none⟩=some a/\w1.cell? ⟨w.heap.size+1,0,none⟩=some b/\w.heap.size<w1.heap.size/\w.heap.size+1<w1.heap.size:=by
 have hz:=hg.below.size;simp only[aaY]at hz;refine⟨hg.cell (p:=⟨w.heap.size,0,none⟩) ?_ ?_,hg.cell (p:=⟨w.heap.size+1,0,none⟩) ?_ ?_,oM,oM⟩
 ·simp only[aaY];omega
 ·rw[World.cell?_alloc_past _ _ _ sC,abB _ _ _ _ rfl];rfl
 ·simp only[aaY];omega
 ·rw[abB _ _ _ _ sC];rfl
theorem tu{a:Int}(h:I64 a):a.natAbs<=9223372036854775808:=by unfold I64 at h;omega
theorem Mw{a b:Nat}(ha:a<=9223372036854775808)(hb:b<=9223372036854775808):a*b<=85070591730234615865843651857942052864:=acf ha hb
theorem qd(a b:Int)(ha:I64 a)(hb:I64 b)(w:World):
  CJ 156 #[.int .i64 a, .int .i64 b] w (Two (dX a b) w):=by
 have la:=tu ha;have lb:=tu hb;have lm:=Mw la lb;have Ht:=fun w'=>jc a.natAbs b.natAbs oM oM w'
 rw[<-Tp.Ek];have HN:=fun w' pb pm h1 h2 h3 h4=>zI (a.natAbs*b.natAbs) 4294967296 oM oM w' pb pm h1 h2 h3 h4
 have HY:=fun w' pb pm h1 h2 h3 h4=>vl (a.natAbs*b.natAbs) 4294967296 oM oM oM w' pb pm h1 h2 h3 h4
 rw[show((4294967296:Nat):Int)=4294967296 from rfl]at HN HY;generalize a.natAbs*b.natAbs=n at *;generalize wv n=v at *;have H:=lH (And.intro Ht (And.intro HN HY));clear Ht HN HY la lb lm;by_cases c1:a<0<;>by_cases c2:b<0
 all_goals first
  |(have ze:(decide (a<0) !=decide (b<0))=true:=by simp[c1,c2])
  |(have ze:(decide (a<0) !=decide (b<0))=false:=by simp[c1,c2])
 all_goals
  rw[ze];clear ze;go_enter Tryz.func156,Tryz.ntmps156;go_wp2_with first
   |(go_at_call 169;refine(bC _ (by first|exact ha|exact hb) _).mono ?_;rintro e w1 ⟨rfl,rfl⟩)
   |(go_at_call 168;refine(H.out.1 _).mono ?_;rintro e w1 ⟨rfl,hg⟩)
   |(go_at_call 167;go_in)
  have T:=zA hg
  first
   |refine(H.out.2.1 _ _ _ T.1 T.2.1 T.2.2.1 T.2.2.2).mono ?_
   |refine(H.out.2.2 _ _ _ T.1 T.2.1 T.2.2.1 T.2.2.2).mono ?_
  rintro e w2 ⟨rfl,hg2⟩;go_wp2;go_ret2;exact⟨rfl,(((Gr.refl _).alloc _ _).alloc _ _).trans (hg.trans hg2)⟩
theorem div_zero(a:Int)(w:World):CJ 128 #[.int .i64 a, .int .i64 0] w (Two (nE a 0) w):=by
 rw[show nE a 0=(0,11)from aaW rfl];go_enter Tryz.func128,Tryz.ntmps128;go_wp2;go_ret2;exact⟨rfl,Gr.refl _⟩
theorem div_pos(a b:Int)(ha:I64 a)(hb:I64 b)(hz:b≠0)(w:World):
  CJ 128 #[.int .i64 a, .int .i64 b] w (Two (nE a b) w):=by
 have la:=tu ha;have lb:=tu hb;have lz:0<b.natAbs:=by omega
 have Ht:=fun w'=>jc a.natAbs 4294967296 oM oM w'
 rw[<-Tp.El a b hz];have HN:=fun w' pb pm h1 h2 h3 h4=>zI (a.natAbs*4294967296) b.natAbs oM oM w' pb pm h1 h2 h3 h4
 have HY:=fun w' pb pm h1 h2 h3 h4=>vl (a.natAbs*4294967296) b.natAbs oM oM oM w' pb pm h1 h2 h3 h4
 rw[show((4294967296:Nat):Int)=4294967296 from rfl]at Ht;generalize a.natAbs*4294967296=n at *;generalize wv n=v at *;have H:=lH (And.intro Ht (And.intro HN HY));have hz':(b==0)=false:=by rw[acq];exact hz
 clear Ht HN HY la lb lz hz;by_cases c1:a<0<;>by_cases c2:b<0
 all_goals first
  |(have ze:(decide (a<0) !=decide (b<0))=true:=by simp[c1,c2])
  |(have ze:(decide (a<0) !=decide (b<0))=false:=by simp[c1,c2])
 all_goals
  rw[ze];clear ze;go_enter Tryz.func128,Tryz.ntmps128;go_wp2_with first
   |(go_at_call 169;refine(bC _ (by first|exact ha|exact hb) _).mono ?_;rintro e w1 ⟨rfl,rfl⟩)
   |(go_at_call 168;refine(H.out.1 _).mono ?_;rintro e w1 ⟨rfl,hg⟩)
   |(go_at_call 167;go_in)
  have T:=zA hg
  first
   |refine(H.out.2.1 _ _ _ T.1 T.2.1 T.2.2.1 T.2.2.2).mono ?_
   |refine(H.out.2.2 _ _ _ T.1 T.2.1 T.2.2.1 T.2.2.2).mono ?_
  rintro e w2 ⟨rfl,hg2⟩;go_wp2;go_ret2;exact⟨rfl,(((Gr.refl _).alloc _ _).alloc _ _).trans (hg.trans hg2)⟩
theorem Dd(a b:Int)(ha:I64 a)(hb:I64 b)(w:World):
  CJ 128 #[.int .i64 a, .int .i64 b] w (Two (nE a b) w):=by
 by_cases hz:b=0
 ·subst hz;exact div_zero a w
 ·exact div_pos a b ha hb hz w
open RowKit cF
theorem iI(W n:Nat)(hn:n<18446744073709551616)(b:Nat)(w:World)(hb:b<w.heap.size)
  (h0:w.cell? ⟨b,0,none⟩=some (.int .u64 ((W/18446744073709551616:Nat):Int)))(h1:w.cell? ⟨b,1,none⟩=some (.int .u64 ((W%18446744073709551616:Nat):Int))):
  CJ 195 #[.int .u64 n, pX b 0] w fun e w'=>e= .returned (.bool (!decide (W<n*n)))/\Gr w w':=by
 have Ht:=fun w'=>jc n n hn hn w'
 have Ha:=fun w'=>DG (n*n) W w'
 generalize decide (W<n*n)=z at *;generalize wv (n*n)=v at *;unfold wv at Ha;generalize ((W/18446744073709551616:Nat):Int)=x at *;generalize ((W%18446744073709551616:Nat):Int)=y at *;have H:=lH (And.intro Ht Ha);clear Ht Ha;go_enter Tryz.func195,Tryz.ntmps195;go_wp2
 go_region_with first
  |(go_at_call 168;refine(H.out.1 _).mono ?_;rintro e w1 ⟨rfl,hg⟩;have h0':=hg.cell hb h0;have h1':=hg.cell hb h1;have hG:=lH hg)
  |(go_at_call 196;refine(H.out.2 _).mono ?_;rintro e w2 ⟨rfl,hg2⟩)
 all_goals
  go_wp2;go_ret;refine⟨rfl,?_⟩;exact(hg.trans hg2).qV
theorem EZ(W:Nat)(hW:W<79228162514264337593543950336)(w:World):
  CJ 182 #[wv W] w fun e w'=>e= .returned (.int .i64 (sqR W:Nat))/\Gr w w':=by
 have Hf:=fun n hn w' hb h0 h1=>iI W n hn w.heap.size w' hb h0 h1
 have TY:=Q7 W;have hlt:=IB hW;unfold wv;generalize ((W/18446744073709551616:Nat):Int)=x at *;generalize ((W%18446744073709551616:Nat):Int)=y at *;have H:=lH Hf;clear Hf;have HI:=lH TY;clear TY;have HL:=lH (And.intro hlt hW);clear hlt hW;go_enter Tryz.func182,Tryz.ntmps182;go_wp2
 go_loopw [4,5] (fun a c wr=>∃k n b:Nat,a= .int .u64 n/\c= .int .u64 b/\Hid (b=2^k/2)/\JA W k n/\Gr (w.alloc (.cells #[.int .u64 x, .int .u64 y] 171)) wr) (fun _ c _=>(intOf c).toNat)
 case atStart=>exact⟨48,0,140737488355328,rfl,rfl,lH dG,HI.out,Gr.refl _⟩
 case round=>
  obtain⟨k,n,b,rfl,rfl,hb,inv,hg⟩:=hrel
  cases k with
  |zero=>
   obtain rfl:b=0:=hb.out;have he:n=sqR W:=inv.eq;have HE:=lH he;clear he inv hb;go_wp2;go_ret;refine⟨lR ?_,((Gr.refl _).alloc _ _).trans hg⟩;have:=HE.out;have:=HL.out.1
   go_arith
  |succ k=>
   have e2:b=2^k:=by have:=hb.out;rw[Nat.pow_succ]at this;omega
   have hb0:0<b:=by rw[e2];exact Nat.two_pow_pos k
   have hm1:n+b<281474976710656:=by have:=inv.lt;rw[Nat.pow_succ,<-e2]at this;omega
   have EO:bits .or .u64 (n:Int) (b:Int)=((n+b:Nat):Int):=by
    rw[bits_or_u64_nat n b oM oM,e2,Od inv.mod]
   have h0:=hg.rT 0 rfl;have h1:=hg.rT 1 rfl;have hz:=hg.below.size;simp only[aaY]at hz;have HF:=H.out (n+b) oM wr oM h0 h1;have h2:(b:Int)/2=((b/2:Nat):Int):=by omega
   by_cases hc:W<(n+b)*(n+b)
   ·have RH:JA W k n:=rno inv (by rw[<-e2];exact hc);simp only[hc,decide_true,Bool.not_true]at HF;have hb':Hid (b/2=2^k/2):=by rw[e2];exact lH rfl
    have HF':=lH HF;have hlt:n<281474976710656:=by omega
    clear HF inv hb e2 hc h0 h1 hz hm1;generalize b/2=b2 at *;generalize n+b=m at *;go_wp2_with (go_at_call 195;refine HF'.out.mono ?_;rintro e w1 ⟨rfl,hg1⟩);go_roundw
    case rel=>exact⟨k,n,b2,rfl,rfl,hb',RH,hg.trans hg1⟩
    case measure=>simp[intOf];omega
   ·have RH:JA W k (n+b):=by have:=UI inv (by rw[<-e2];exact hc);rwa [<-e2]at this
    simp only[hc,decide_false,Bool.not_false]at HF;have hb':Hid (b/2=2^k/2):=by rw[e2];exact lH rfl
    have HF':=lH HF;clear HF inv hb e2 hc h0 h1 hz;generalize b/2=b2 at *;generalize n+b=m at *;go_wp2_with (go_at_call 195;refine HF'.out.mono ?_;rintro e w1 ⟨rfl,hg1⟩);go_roundw
    case rel=>exact⟨k,m,b2,rfl,rfl,hb',RH,hg.trans hg1⟩
    case measure=>simp[intOf];omega
theorem Eu(a:Int)(ha:I64 a)(w:World):
  CJ 160 #[.int .i64 a] w (Two (zV a) w):=by
 by_cases c:a<0
 ·rw[show zV a=(0,12)from aaW c];go_enter Tryz.func160,Tryz.ntmps160;go_wp2;go_ret2;exact⟨rfl,Gr.refl _⟩
 ·rw[show zV a=(((sqR (a.natAbs*4294967296):Nat):Int),(0:Int))from aaT c];have la:=tu ha;have Hs:=fun w'=>bC a ha w'
  have Ht:=fun w'=>jc a.natAbs 4294967296 oM oM w'
  have Hr:=fun w'=>EZ (a.natAbs*4294967296) oM w'
  rw[show((4294967296:Nat):Int)=4294967296 from rfl]at Ht;generalize sqR (a.natAbs*4294967296)=r at *;generalize wv (a.natAbs*4294967296)=v at *;generalize a.natAbs=x at *;have H:=lH (And.intro Hs (And.intro Ht Hr));clear Hs Ht Hr la;go_enter Tryz.func160,Tryz.ntmps160;go_wp2_with first
   |(go_at_call 169;refine(H.out.1 _).mono ?_;rintro e w1 ⟨rfl,rfl⟩)
   |(go_at_call 168;refine(H.out.2.1 _).mono ?_;rintro e w1 ⟨rfl,hg⟩)
   |(go_at_call 182;refine(H.out.2.2 _).mono ?_;rintro e w2 ⟨rfl,hg2⟩)
  go_ret2;exact⟨rfl,hg.trans hg2⟩
namespace JB
theorem EI{n k:Int}(h:k<0):gV n k=(n/((2^(-k).toNat:Nat):Int),0):=aaW h
theorem pu{n k:Int}(h:¬k<0):gV n k=put (n*((2^k.toNat:Nat):Int)):=aaT h
theorem JX{n:Int}(h1:0<n)(h2:n<8589934592)(m:Nat):n/2^min m 64=n/((2^m:Nat):Int):=by
 by_cases h:m<=64
 ·rw[Nat.min_eq_left h,Int.natCast_pow];rfl
 ·have hp:2^64<=2^m:=acT oM oM;rw[Nat.min_eq_right oM,acO oM oM,acO oM];generalize 2^m=z at *;omega
theorem over{n:Int}{L:Nat}{k:Int}(hn:0<n)(l1:1<=L)(l2:2^(L-1)<=n.toNat)(hk:0<=k)(h:64-(L:Int)<=k):put (n*((2^k.toNat:Nat):Int))=(0,10):=by
 have a:=acK (2^k.toNat) l2;rw[<-Nat.pow_add]at a;have b:2^63<=2^(L-1+k.toNat):=acT oM oM;have e:n*((2^k.toNat:Nat):Int)=((n.toNat*2^k.toNat:Nat):Int):=by rw[ab4,acB oM]
 rw[e];generalize n.toNat*2^k.toNat=z at *;exact fw oM
theorem fits{n:Int}{L:Nat}{k:Int}(hn:0<n)(l3:n.toNat<2^L)(hk:0<=k)(h:k<64-(L:Int)):put (n*((2^k.toNat:Nat):Int))=(wrap64 (n*2^k.toNat),0):=by
 have a:=Nat.mul_lt_mul_of_pos_right l3 (Nat.two_pow_pos k.toNat);rw[<-Nat.pow_add]at a;have b:2^(L+k.toNat)<=2^63:=acT oM oM;have e:n*((2^k.toNat:Nat):Int)=((n.toNat*2^k.toNat:Nat):Int):=by rw[ab4,acB oM]
 have e2:n*2^k.toNat=((n.toNat*2^k.toNat:Nat):Int):=by rw[<-e,Int.natCast_pow];rfl
 rw[e2,e];clear e e2 l3;obtain⟨z,hz⟩:=eX (n.toNat*2^k.toNat);rw[<-hz]at a⊢;clear hz;have hw:wrap64 (z:Int)=(z:Int):=by unfold wrap64;omega
 rw[hw];exact cO oM oM
end JB
theorem rF(n k:Int)(h1:0<n)(h2:n<8589934592)(h3: -2147483648<=k)(h4:k<=2147483647)(w:World):
  CJ 181 #[.int .i64 n, .int .i64 k] w (Two (gV n k) w):=by
 by_cases c:k<0
 ·rw[JB.EI c];have hk:k<=0:=by omega
  have hk':0<= -k:=by omega
  have e:=JB.JX h1 h2 (-k).toNat;generalize ((2^(-k).toNat:Nat):Int)=z at *;have E:=lH e;clear e;go_enter Tryz.func181,Tryz.ntmps181;go_wp2;go_ret2;exact⟨lQ E.out rfl,Gr.refl _⟩
 ·rw[JB.pu c];have Hl:=fun w'=>oq n w' oM oM
  have lb:=Lib.bitLen_le n.toNat 64 oM oM;have lb2:=Lib.bitLenAux_bounds 64 n.toNat oM oM
  change 1<=Lib.bitLen n.toNat/\2^(Lib.bitLen n.toNat-1)<=n.toNat/\n.toNat<2^Lib.bitLen n.toNat at lb2
  generalize Lib.bitLen n.toNat=L at *;have H:=lH (And.intro Hl lb2);clear Hl lb2;by_cases c2:(64-(L:Int))<=k
  ·have hP:=JB.over h1 H.out.2.1 H.out.2.2.1 oM c2;rw[hP];clear hP;go_enter Tryz.func181,Tryz.ntmps181;go_wp2_with (go_at_call 194;refine(H.out.1 _).mono ?_;rintro e w1 ⟨rfl,rfl⟩);go_ret2;exact⟨rfl,Gr.refl _⟩
  ·have hP:=JB.fits h1 H.out.2.2.2 oM (show k<64-(L:Int) by omega);rw[hP];clear hP;have l1:=H.out.2.1;go_enter Tryz.func181,Tryz.ntmps181;go_wp2_with (go_at_call 194;refine(H.out.1 _).mono ?_;rintro e w1 ⟨rfl,rfl⟩);go_ret2;exact⟨rfl,Gr.refl _⟩
theorem Kj(a:Int)(ha:I64 a)(w:World):
  CJ 159 #[.int .i64 a] w (Two (NU a) w):=by
 have Hs:=fun w'=>rz a ha w'
 unfold I64 at ha;have Hc:=fun w'=>rF (4294967296+a%4294967296) (a/4294967296) oM oM oM oM w'
 change∀w',CJ 181 #[.int .i64 (4294967296+a%4294967296), .int .i64 (a/4294967296)] w' (Two (NU a) w')at Hc
 generalize NU a=p at *;have b1:0<=a%4294967296:=by omega
 have b2:a%4294967296<4294967296:=by omega
 generalize a%4294967296=f at *;generalize a/4294967296=k at *;have H:=lH (And.intro Hs Hc);clear Hs Hc;go_enter Tryz.func159,Tryz.ntmps159;go_wp2_with first
  |(go_at_call 180;refine(H.out.1 _).mono ?_;rintro e w1 ⟨rfl,rfl⟩)
  |(go_at_call 181;refine(H.out.2 _).mono ?_;rintro e w1 ⟨rfl,hg⟩)
 go_ret2;exact⟨rfl,hg⟩
theorem zZ(a:Int)(ha:I64 a)(w:World):
  CJ 172 #[.int .i64 a] w (Two (fu a) w):=by
 have Hs:=fun w'=>rz a ha w'
 unfold I64 at ha;have Hc:=fun w'=>rF 4294967296 (a/4294967296) oM oM oM oM w'
 change∀w',CJ 181 #[.int .i64 4294967296, .int .i64 (a/4294967296)] w' (Two (fu a) w')at Hc
 generalize fu a=p at *;generalize a%4294967296=f at *;generalize a/4294967296=k at *;have H:=lH (And.intro Hs Hc);clear Hs Hc;go_enter Tryz.func172,Tryz.ntmps172;go_wp2_with first
  |(go_at_call 180;refine(H.out.1 _).mono ?_;rintro e w1 ⟨rfl,rfl⟩)
  |(go_at_call 181;refine(H.out.2 _).mono ?_;rintro e w1 ⟨rfl,hg⟩)
 go_ret2;exact⟨rfl,hg⟩
end Go.Proofs.YtokeebkaamjliaaGreat.Fx
namespace Go.Proofs.cF
end Go.Proofs.cF
namespace Go.Proofs.YtokeebkaamjliaaGreat.Fx
open RowKit cF
namespace Tm
end Tm
open RowKit cF
namespace Tm
end Tm
namespace Wg
end Wg
open RowKit cF
namespace Wf
end Wf
open RowKit cF
namespace Wd
end Wd
open RowKit cF
namespace Wc
end Wc
open RowKit cF
namespace V8
end V8
open RowKit cF
namespace VZ
end VZ
end Go.Proofs.YtokeebkaamjliaaGreat.Fx
namespace Go.Proofs.cF
