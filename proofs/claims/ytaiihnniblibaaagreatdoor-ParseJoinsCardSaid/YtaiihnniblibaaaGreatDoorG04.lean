import Derived.Test.YtaiihnniblibaaaGreatDoorG02
import Derived.Test.YtaiihnniblibaaaGreatDoorG03
import Derived.Laws.Rows
import Derived.Shelf.Bytes.SlIndexSmall
import Derived.Shelf.Bytes.SlSmallAll
import Derived.Shelf.Bytes.SlCut
import Derived.Shelf.Bytes.SlTrim
import Derived.Test.YtaiihnniblibaaaGreatDoorProg
set_option maxHeartbeats 2000000
set_option linter.unusedVariables false
open Go.Proofs.Tryz Go.ChangeShapes Go.WideShapes Go.ChangeAt Go.RowKit Go.Shelf
open Go.Lib renaming hid→QA
open Go.Value renaming string→σ,int→ι,slice→ς,bool→τ,agg→ξ
open Go.IntKind renaming i64→κ
open Go.Obj renaming cells→θ
open Go.Ending renaming returned→ρ
namespace Go.Proofs.YtaiihnniblibaaaGreatDoor
namespace Lex
open KL
theorem Qy{a b:Int}(h:a≠b):(a==b)=false:=beq_eq_false_iff_ne.2 h
theorem Zr(c:Int)(w:World)(h0:0≤c)(h1:c<256) :
  Calls prog 79 #[ι .u8 c] w fun e w'=>e=ρ (ι κ (kd c))∧w=w':=by
 by_cases DS:c=95
 ·subst DS;rw[show kd 95=1 from rfl];go_enter func79,ntmps79;go_wp2;go_ret;exact⟨rfl,rfl⟩
 by_cases jB:c=34
 ·subst jB;rw[show kd 34=3 from rfl];go_enter func79,ntmps79;go_wp2;go_ret;exact⟨rfl,rfl⟩
 by_cases jA:c=59
 ·subst jA;rw[show kd 59=6 from rfl];go_enter func79,ntmps79;go_wp2;go_ret;exact⟨rfl,rfl⟩
 by_cases jC:c=32
 ·subst jC;rw[show kd 32=7 from rfl];go_enter func79,ntmps79;go_wp2;go_ret;exact⟨rfl,rfl⟩
 by_cases c9:c=9
 ·subst c9;rw[show kd 9=7 from rfl];go_enter func79,ntmps79;go_wp2;go_ret;exact⟨rfl,rfl⟩
 by_cases c13:c=13
 ·subst c13;rw[show kd 13=7 from rfl];go_enter func79,ntmps79;go_wp2;go_ret;exact⟨rfl,rfl⟩
 by_cases c10:c=10
 ·subst c10;rw[show kd 10=8 from rfl];go_enter func79,ntmps79;go_wp2;go_ret;exact⟨rfl,rfl⟩
 have og:=Qy DS;have jE:=Qy jB;have DT:=Qy jA;have b32:=Qy jC;have b9:=Qy c9;have Ll:=Qy c13;have YT:=Qy c10;have hk:(c<48∧kd c=4)∨(48≤c∧c≤57∧kd c=2)∨(57<c∧c<65∧kd c=4)∨(65≤c∧c≤90∧kd c=1)∨(90<c∧c<97∧kd c=4)∨(97≤c∧c≤122∧kd c=1)∨(122<c∧kd c=4):=by
  unfold kd;repeat' split
  all_goals omega
 generalize kd c=q at *;clear DS jB jA jC c9 c13 c10;rcases hk with⟨d1,rfl⟩|⟨d1,d2,rfl⟩|⟨d1,d2,rfl⟩|⟨d1,d2,rfl⟩|⟨d1,d2,rfl⟩|⟨d1,d2,rfl⟩|⟨d1,rfl⟩
 all_goals
  go_enter func79,ntmps79;go_wp2;go_ret;exact⟨rfl,rfl⟩
theorem J1{p:Int→Bool}{l:List Int}{k:Nat}(h:k≤lead p l)(hk:k<l.length)(hp:p (l.getD k 0)=true):k+1≤lead p l:=by
 rcases Nat.lt_or_ge k (lead p l)with h' |h'
 ·exact h'
 ·have e:lead p l=k:=by omega
  have:=xW p l (by omega);rw[e,hp]at this;cases this
theorem Fx{p:Int→Bool}{l:List Int}{k:Nat}(h:k≤lead p l)(hp:p (l.getD k 0)=false):lead p l=k:=by
 rcases Nat.lt_or_ge k (lead p l)with h' |h'
 ·have:=Ev p l k h';rw[hp]at this;cases this
 ·omega
theorem qZ{p:Int→Bool}{l:List Int}{k:Nat}(h:k≤lead p l)(hk:l.length≤k):lead p l=k:=by
 have:=Kh p l;omega
theorem AH{w:World}{b off:Nat}{xs:List Int}{k:Nat}(hc:∀i,i<xs.length→w.cell? ⟨b,off+i,none⟩=some (ι .u8 (xs.getD i 0)))(hb:ZZ xs)(hk:k<xs.length) :
  ∃d,xs.getD k 0=d∧w.cell? ⟨b,off+k,none⟩=some (ι .u8 d)∧0≤d∧d<256 :=
 ⟨_,rfl,hc k hk,(hb.getD k).1,(hb.getD k).2⟩
theorem Qr7(A:Option Addr)(n cap:Nat)(xs:List Int)(w:World)(B:Nat)(h:RB w B A xs)(hn:xs.length=n)(hn0:0<n)(hcap:n≤cap)(ZF:cap≤maxLen) :
  Calls prog 80 #[ς A n cap] w fun e w'=>e=ρ (ι κ (K8 xs))∧w=w':=by
 obtain⟨b,off,rfl,_,hc⟩:=h.cell (by intro e;rw[e]at hn;simp at hn;omega);have HC:=QA hc;clear hc;have HB:=QA h.Ha;clear h;have Hn:=QA hn;clear hn;unfold maxLen at ZF;have hL:K8 xs=lead Ka xs:=rfl;go_enter func80,ntmps80;go_wp2
 go_loop [3,4,5,8] (fun _ _ _ i=>∃k:Nat,k≤n∧i=ι κ k∧Hid (k≤lead Ka xs)) (fun _ _ _ i=>n-(intOf i).toNat)
 case atStart=>exact⟨0,by omega,rfl,Nat.zero_le _⟩
 case round =>
  obtain⟨k,hk,rfl,hle⟩:=hrel;by_cases hlt:k<n
  ·obtain⟨d,hd,hcell,hd0,hd1⟩:=AH HC.out HB.out (k:=k) (by rw[Hn.out];exact hlt);have UK:=QA (Zr d w hd0 hd1);have HS:Hid (Ka d=true→k+1≤lead Ka xs):=fun hp=>J1 hle.out (by rw[Hn.out];exact hlt) (by rw[hd];exact hp)
   have HE:Hid (Ka d=false→K8 xs=k):=fun hp=>Fx hle.out (by rw[hd];exact hp)
   have hl:Ka d=(kd d==1||kd d==2):=rfl;rw[hl]at HS HE;generalize kd d=q at *;clear hl hd hle hL;by_cases q1:q=1
   ·subst q1;have UG:=QA (HS.out rfl);clear HS HE;go_wp2_with (go_at_call 79;refine UK.out.mono ?_;rintro e w' ⟨rfl,rfl⟩)
    go_round
    case rel=>exact⟨k+1,by omega,by go_num,UG.out⟩
    case measure=>simp[intOf];omega
   by_cases q2:q=2
   ·subst q2;have UG:=QA (HS.out rfl);clear HS HE;go_wp2_with (go_at_call 79;refine UK.out.mono ?_;rintro e w' ⟨rfl,rfl⟩)
    go_round
    case rel=>exact⟨k+1,by omega,by go_num,UG.out⟩
    case measure=>simp[intOf];omega
   ·have EJ:=QA (HE.out (by rw[Qy q1,Qy q2];rfl));clear HS HE;have n1:(q != 1)=true:=by rw[bne_iff_ne];exact q1
    have n2:(q != 2)=true:=by rw[bne_iff_ne];exact q2
    clear q1 q2;go_wp2_with (go_at_call 79;refine UK.out.mono ?_;rintro e w' ⟨rfl,rfl⟩);go_ret;rw[EJ.out];exact⟨rfl,rfl⟩
  ·have HE:=QA (qZ hle.out (by rw[Hn.out];omega));obtain rfl:n=k:=by omega
   clear hL hle;go_wp2;go_ret;exact⟨Q24 (by unfold K8;rw[HE.out]),rfl⟩
theorem Qm9(A:Option Addr)(n cap:Nat)(xs:List Int)(w:World)(B:Nat)(h:RB w B A xs)(hn:xs.length=n)(hn0:0<n)(hd0:YD (xs.getD 0 0)=true)(hcap:n≤cap)(ZF:cap≤maxLen) :
  Calls prog 81 #[ς A n cap] w fun e w'=>e=ρ (ι κ (PA xs))∧w=w':=by
 obtain⟨b,off,rfl,_,hc⟩:=h.cell (by intro e;rw[e]at hn;simp at hn;omega);have HC:=QA hc;clear hc;have HB:=QA h.Ha;clear h;have H1:Hid (1≤lead YD xs):=J1 (Nat.zero_le _) (by omega) hd0;obtain⟨z,hz,hz0,hz1,hz2⟩:=AH HC.out HB.out (k:=0) (by omega);rw[Nat.add_zero]at hz0;have HN:Hid (PA xs=if 1<lead YD xs∧z=48 then 0 else lead YD xs):=by rw[←hz];rfl
 have Hn:=QA hn;clear hn hd0 hz;unfold maxLen at ZF;go_enter func81,ntmps81;go_wp2
 go_loop [3] (fun i=>∃k:Nat,1≤k∧k≤n∧i=ι κ k∧Hid (k≤lead YD xs)) (fun i=>n-(intOf i).toNat)
 case atStart=>exact⟨1,by omega,by omega,rfl,H1.out⟩
 case round =>
  obtain⟨k,hk1,hk,rfl,hle⟩:=hrel;have EG:Hid (lead YD xs=k→PA xs=if 1<k∧z=48 then 0 else k):=fun e=>by rw[HN.out,e]
  by_cases hlt:k<n
  ·obtain⟨d,hd,hcell,hd0,hd1⟩:=AH HC.out HB.out (k:=k) (by rw[Hn.out];exact hlt);have UK:=QA (Zr d w hd0 hd1);have HS:Hid (kd d=2→k+1≤lead YD xs):=fun hp=>J1 hle.out (by rw[Hn.out];exact hlt) (by rw[hd];unfold YD;rw[hp];rfl)
   have HE:Hid (kd d≠2→lead YD xs=k):=fun hp=>Fx hle.out (by rw[hd];unfold YD;exact Qy hp)
   generalize kd d=q at *;clear hd hle;by_cases q2:q=2
   ·subst q2;have UG:=QA (HS.out rfl);clear HS HE;go_wp2_with (go_at_call 79;refine UK.out.mono ?_;rintro e w' ⟨rfl,rfl⟩)
    go_round
    case rel=>exact⟨k+1,by omega,by omega,by go_num,UG.out⟩
    case measure=>simp[intOf];omega
   ·have EJ:=QA (EG.out (HE.out q2));clear HS HE EG;have n2:=Qy q2;clear q2;by_cases hk2:1<k
    ·by_cases NY:z=48
     ·subst NY;rw[if_pos ⟨hk2,rfl⟩]at EJ;go_wp2_with (go_at_call 79;refine UK.out.mono ?_;rintro e w' ⟨rfl,rfl⟩);go_ret;rw[EJ.out];exact⟨rfl,rfl⟩
     ·rw[if_neg (fun h=>NY h.2)]at EJ;have zb:=Qy NY;clear NY;go_wp2_with (go_at_call 79;refine UK.out.mono ?_;rintro e w' ⟨rfl,rfl⟩);go_ret;rw[EJ.out];exact⟨rfl,rfl⟩
    ·rw[if_neg (fun h=>hk2 h.1)]at EJ;go_wp2_with (go_at_call 79;refine UK.out.mono ?_;rintro e w' ⟨rfl,rfl⟩);go_ret;rw[EJ.out];exact⟨rfl,rfl⟩
  ·have EJ:=QA (EG.out (qZ hle.out (by rw[Hn.out];omega)));clear hle EG HN H1;by_cases hk2:1<k
   ·by_cases NY:z=48
    ·subst NY;rw[if_pos ⟨hk2,rfl⟩]at EJ;go_wp2;go_ret;rw[EJ.out];exact⟨rfl,rfl⟩
    ·rw[if_neg (fun h=>NY h.2)]at EJ;have zb:=Qy NY;clear NY;go_wp2;go_ret;rw[EJ.out];exact⟨rfl,rfl⟩
   ·rw[if_neg (fun h=>hk2 h.1)]at EJ;go_wp2;go_ret;rw[EJ.out];exact⟨rfl,rfl⟩
def LP(xs:List Int)(i:Nat):Prop:=Yt xs=if Vy (xs.drop i)=0 then 0 else i+Vy (xs.drop i)
theorem Qmj(r:List Int):Vy (34::r)=1:=by unfold Vy;rw[if_pos rfl]
theorem Qsq(r:List Int):Vy (92::10::r)=0:=by unfold Vy;rfl
theorem Qpm:Vy [92]=0:=by unfold Vy;rfl
theorem Q0z{d:Int}(r:List Int)(h:d≠10):Vy (92::d::r)=if Vy r=0 then 0 else Vy r+2:=by
 conv=>lhs;unfold Vy
 rw[if_neg (by omega),if_neg (by omega),if_pos rfl];simp only[if_neg h]
theorem Qsr{c:Int}(r:List Int)(h1:c≠34)(h2:c≠10)(h3:c≠92):Vy (c::r)=if Vy r=0 then 0 else Vy r+1:=by
 conv=>lhs;unfold Vy
 rw[if_neg h1,if_neg h2,if_neg h3]
theorem wy{xs:List Int}(h:xs≠[]):LP xs 1:=by
 cases xs with
 |nil=>exact absurd rfl h
 |cons c r=>show(if Vy r=0 then 0 else Vy r+1)=_;simp only[List.drop_succ_cons,List.drop_zero];split <;> omega
theorem drop_at{xs:List Int}{i:Nat}(h:i<xs.length):xs.drop i=xs.getD i 0::xs.drop (i+1):=by
 rw[List.drop_eq_getElem_cons h];simp[List.getD,h]
theorem wu{xs:List Int}{i:Nat}(h:LP xs i)(hi:i<xs.length)(hc:xs.getD i 0=34):Yt xs=i+1:=by
 have e:Vy (xs.drop i)=1:=by rw[drop_at hi,hc,Qmj]
 unfold LP at h;rw[e]at h;exact h
theorem Q25{xs:List Int}{i:Nat}(h:LP xs i)(hi:i<xs.length)(hc:xs.getD i 0=10):Yt xs=0:=by
 have e:Vy (xs.drop i)=0:=by rw[drop_at hi,hc,tF]
 unfold LP at h;rw[e]at h;exact h
theorem Q06{xs:List Int}{i:Nat}(h:LP xs i)(hi:xs.length≤i):Yt xs=0:=by
 unfold LP at h;rw[List.drop_eq_nil_of_le hi]at h;exact h
theorem Q07{xs:List Int}{i:Nat}(h:LP xs i)(hi:i<xs.length)(h1:xs.getD i 0≠34)(h2:xs.getD i 0≠10)(h3:xs.getD i 0≠92):LP xs (i+1):=by
 have e:=Qsr (xs.drop (i+1)) h1 h2 h3;rw[←drop_at hi]at e;unfold LP at h⊢;rw[h,e];generalize Vy (xs.drop (i+1))=k;by_cases hk:k=0
 ·simp[hk]
 ·simp[hk];omega
theorem Qp4{xs:List Int}{i:Nat}(h:LP xs i)(hi:i+1<xs.length)(h3:xs.getD i 0=92)(h4:xs.getD (i+1) 0=10):Yt xs=0:=by
 have e:Vy (xs.drop i)=0:=by rw[drop_at (show i<xs.length by omega),h3,drop_at hi,h4,Qsq]
 unfold LP at h;rw[e]at h;exact h
theorem Q08{xs:List Int}{i:Nat}(h:LP xs i)(hi:i+1<xs.length)(h3:xs.getD i 0=92)(h4:xs.getD (i+1) 0≠10):LP xs (i+1+1):=by
 have e:=Q0z (xs.drop (i+1+1)) h4;rw[←drop_at hi,←h3,←drop_at (show i<xs.length by omega)]at e;unfold LP at h⊢;rw[h,e];generalize Vy (xs.drop (i+1+1))=k;by_cases hk:k=0
 ·simp[hk]
 ·simp[hk];omega
theorem Qm3{xs:List Int}{i:Nat}(h:LP xs i)(hi:i+1=xs.length)(h3:xs.getD i 0=92):LP xs (i+1+1):=by
 have e:Vy (xs.drop i)=0:=by rw[drop_at (show i<xs.length by omega),h3,List.drop_eq_nil_of_le (show xs.length≤i+1 by omega),Qpm]
 unfold LP at h⊢;rw[e]at h;rw[List.drop_eq_nil_of_le (show xs.length≤i+1+1 by omega)];exact h
theorem Qm0(A:Option Addr)(n cap:Nat)(xs:List Int)(w:World)(B:Nat)(h:RB w B A xs)(hn:xs.length=n)(hn0:0<n)(hcap:n≤cap)(ZF:cap≤maxLen)(hsm:n≤1000000) :
  Calls prog 82 #[ς A n cap] w fun e w'=>e=ρ (ι κ (Yt xs))∧w=w':=by
 have hne:xs≠[]:=by intro e;rw[e]at hn;simp at hn;omega
 obtain⟨b,off,rfl,_,hc⟩:=h.cell hne;have HC:=QA hc;clear hc;have HB:=QA h.Ha;clear h;have H1:=QA (wy hne);clear hne;have Hn:=QA hn;clear hn;unfold maxLen at ZF;go_enter func82,ntmps82;go_wp2
 go_loop [3] (fun i=>∃k:Nat,1≤k∧k≤n+1∧i=ι κ k∧Hid (LP xs k)) (fun i=>n+1-(intOf i).toNat)
 case atStart=>exact⟨1,by omega,by omega,rfl,H1.out⟩
 case round =>
  obtain⟨k,hk1,hk,rfl,hq⟩:=hrel;by_cases hlt:k<n
  ·obtain⟨d,hd,hcell,hd0,hd1⟩:=AH HC.out HB.out (k:=k) (by rw[Hn.out];exact hlt);have HD:=QA hd;clear hd;by_cases d34:d=34
   ·have HE:=QA (wu hq.out (by rw[Hn.out];exact hlt) (by rw[HD.out,d34]));subst d34;clear HD hq;go_wp2;go_ret;rw[HE.out];exact⟨rfl,rfl⟩
   by_cases d10:d=10
   ·have HE:=QA (Q25 hq.out (by rw[Hn.out];exact hlt) (by rw[HD.out,d10]));subst d10;clear HD hq;go_wp2;go_ret;rw[HE.out];exact⟨rfl,rfl⟩
   by_cases d92:d=92
   ·by_cases LJ:k+1<n
    ·obtain⟨d',hd',PX,iu,DG⟩:=AH HC.out HB.out (k:=k+1) (by rw[Hn.out];exact LJ);have zS:=QA hd';clear hd';by_cases e10:d'=10
     ·have HE:=QA (Qp4 hq.out (by rw[Hn.out];exact LJ) (by rw[HD.out,d92]) (by rw[zS.out,e10]));subst d92;subst e10;clear HD zS hq d34 d10;go_wp2;go_ret;rw[HE.out];exact⟨rfl,rfl⟩
     ·have HE:=QA (Q08 hq.out (by rw[Hn.out];exact LJ) (by rw[HD.out,d92]) (by rw[zS.out];exact e10));have YT:=Qy e10;subst d92;clear HD zS hq d34 d10 e10;go_wp2
      go_round
      case rel=>exact⟨k+1+1,by omega,by omega,by go_num,HE.out⟩
      case measure=>simp[intOf];omega
    ·have HE:=QA (Qm3 hq.out (by rw[Hn.out];omega) (by rw[HD.out,d92]));subst d92;clear HD hq d34 d10;go_wp2
     go_round
     case rel=>exact⟨k+1+1,by omega,by omega,by go_num,HE.out⟩
     case measure=>simp[intOf];omega
   ·have HE:=QA (Q07 hq.out (by rw[Hn.out];exact hlt) (by rw[HD.out];exact d34) (by rw[HD.out];exact d10) (by rw[HD.out];exact d92));have jE:=Qy d34;have YT:=Qy d10;have oh:=Qy d92;clear HD hq d34 d10 d92;go_wp2
    go_round
    case rel=>exact⟨k+1,by omega,by omega,by go_num,HE.out⟩
    case measure=>simp[intOf];omega
  ·have HE:=QA (Q06 hq.out (by rw[Hn.out];omega));clear hq;go_wp2;go_ret;rw[HE.out];exact⟨rfl,rfl⟩
def XV:List (List Int):=Vw++V2
def Dh(k:Nat):ByteArray:=strOfNums (XV.getD k [])
def mkV:Array Value:=(XV.map fun m=>σ (strOfNums m)).toArray
def LO(w:World):Prop:=∃t fr,w.heap[0]?=some (θ mkV t fr)
theorem LO.below{w w':World}{B:Nat}(h:LO w)(hb:Below B w w')(hB:0<B):LO w':=by
 obtain⟨t,fr,h⟩:=h;exact⟨t,fr,(hb.block 0 hB).trans h⟩
theorem LO.pos{w:World}(h:LO w):0<w.heap.size:=by
 obtain⟨t,fr,h⟩:=h;rcases Nat.lt_or_ge 0 w.heap.size with h' |h'
 ·exact h'
 ·rw[Array.getElem?_eq_none h']at h;cases h
theorem qN:XV.length=37:=by decide +kernel
theorem ze:mkV.size=37:=by simp[mkV,qN]
theorem Qu1:∀k:Fin 37,((XV.getD k.val []).length=if k.val<17 then 2 else 1):=by decide +kernel
theorem qM{k:Nat}(h:k<37):(XV.getD k []).length=if k<17 then 2 else 1:=Qu1 ⟨k,h⟩
theorem ay:∀m∈XV,∀x∈m,0≤x∧x<256:=by decide +kernel
theorem strOfNums_size(m:List Int):(strOfNums m).size=m.length:=by simp[strOfNums,ByteArray.size]
theorem Qis{m:List Int}(hb:ZZ m){i:Nat}(hi:i<m.length)(h':i<(strOfNums m).size):(((strOfNums m)[i]'h').toNat:Int)=m.getD i 0:=by
 have hx:=hb m[i] (List.getElem_mem hi);have e:(strOfNums m)[i]'h'=UInt8.ofNat (m[i]).toNat:=by show(strOfNums m).data[i]=_;simp[strOfNums]
 rw[e,Au _ (by omega)];simp[List.getD,hi];omega
theorem Jq{P:Program}(t:TypeId)(ht:P.underlying t=some .string){m:List Int}(hb:ZZ m){i:Nat}(hi:i<m.length)(w:World) :
  (Instr.index t (σ (strOfNums m)) (ι κ (i:Int))).run P w=.ok (ι .u8 (m.getD i 0)) w:=by
 rw[run_index_string w t _ _ _ ht,dif_pos ⟨by omega,by rw[strOfNums_size];omega⟩];have:=Qis hb hi (by rw[strOfNums_size];omega);simp only[Int.toNat_natCast];rw[this]
theorem Qke{P:Program}(t e:TypeId)(n:Nat)(cs:Array Value)(ht:P.underlying t=some (.array n e))(hs:∀w,(sizeOf e).run P w=.ok 1 w)(ha:∀w,(isAgg e).run P w=.ok false w){i:Nat}(hi:i<cs.size)(hn:cs.size=n)(w:World) :
  (Instr.index t (ξ cs) (ι κ (i:Int))).run P w=.ok cs[i] w:=by
 have hx:cs[i*1]?=some cs[i]:=by rw[Nat.mul_one];exact Array.getElem?_eq_getElem hi
 simp[Instr.index,run_underlying ht,asIntOf,go_sem,hs,ha,show i<n by omega,hi]
theorem Q1i{k:Nat}(hk:k<mkV.size):mkV[k]=σ (Dh k):=by
 have h37:k<XV.length:=by rw[qN];rw[ze]at hk;exact hk
 simp[mkV,Dh,List.getD,h37]
theorem run_mark{k:Nat}(hk:k<37)(w:World):(Instr.index 111 (ξ mkV) (ι κ (k:Int))).run prog w=.ok (σ (Dh k)) w:=by
 rw[Qke 111 9 37 mkV underlying111 Tryz.sizeOf9 Tryz.isAgg9 (by rw[ze];exact hk) ze w,Q1i]
def Pre(xs:List Int)(k:Nat):Prop:=xs.take (XV.getD k []).length=XV.getD k []
theorem aA{k:Nat}(h:k<17):XV.getD k []∈Vw:=by
 have:∀k:Fin 17,XV.getD k.val []∈Vw:=by decide +kernel
 exact this ⟨k,h⟩
theorem az{k:Nat}(h1:17≤k)(h:k<37):XV.getD k []∈V2:=by
 have:∀k:Fin 37,17≤k.val→XV.getD k.val []∈V2:=by decide +kernel
 exact this ⟨k,h⟩ h1
theorem Qws{m:List Int}(h:m∈Vw):∃k,k<17∧XV.getD k []=m:=by
 have:∀m∈Vw,∃k:Fin 17,XV.getD k.val []=m:=by decide +kernel
 obtain⟨k,hk⟩:=this m h;exact⟨k.val,k.isLt,hk⟩
theorem aP{m:List Int}(h:m∈V2):∃k,17≤k∧k<37∧XV.getD k []=m:=by
 have:∀m∈V2,∃k:Fin 37,17≤k.val∧XV.getD k.val []=m:=by decide +kernel
 obtain⟨k,hk1,hk⟩:=this m h;exact⟨k.val,hk1,k.isLt,hk⟩
theorem lU{xs:List Int}(h:∀j,j<17→¬Pre xs j):xs.take 2 ∉ Vw:=by
 intro hm;obtain⟨k,hk,e⟩:=Qws hm;have hl:=qM (k:=k) (by omega);rw[if_pos hk]at hl;exact h k hk (by unfold Pre;rw[hl,e])
theorem au{xs:List Int}{k:Nat}(hk:k<37)(h:∀j,j<k→¬Pre xs j)(hp:Pre xs k):Ks xs=(XV.getD k []).length:=by
 have hl:=qM hk;unfold Pre at hp;unfold Ks;by_cases VB:k<17
 ·rw[if_pos VB]at hl;rw[hl]at hp⊢;rw[if_pos (by rw[hp];exact aA VB)]
 ·rw[if_neg VB]at hl;rw[hl]at hp⊢;rw[if_neg (lU (fun j hj=>h j (by omega))),if_pos (by rw[hp];exact az (by omega) hk)]
theorem Qqn{xs:List Int}(h:∀j,j<37→¬Pre xs j):Ks xs=0:=by
 unfold Ks;rw[if_neg (lU (fun j hj=>h j (by omega))),if_neg];intro hm;obtain⟨k,hk1,hk,e⟩:=aP hm;have hl:=qM hk;rw[if_neg (by omega)]at hl;exact h k hk (by unfold Pre;rw[hl,e])
theorem Qud{xs:List Int}{k:Nat}(h:xs.length<(XV.getD k []).length):¬Pre xs k:=by
 intro hp;have:=congrArg List.length hp;rw[List.length_take]at this;omega
theorem wj{xs:List Int}{k i:Nat}(hi:i<(XV.getD k []).length)(h:(XV.getD k []).getD i 0≠xs.getD i 0):¬Pre xs k:=by
 intro hp;unfold Pre at hp;apply h;have:=getD_take (l:=xs) hi;rw[hp]at this;exact this
theorem wh{xs:List Int}{k:Nat}(hl:(XV.getD k []).length≤xs.length)(h:∀i,i<(XV.getD k []).length→(XV.getD k []).getD i 0=xs.getD i 0):Pre xs k:=by
 unfold Pre;generalize XV.getD k []=m at *;refine List.ext_getElem (by rw[List.length_take];omega) (fun i h1 h2=>?_);have:=h i h2;simp only[List.getD,List.getElem?_eq_getElem h2,List.getElem?_eq_getElem (show i<xs.length by omega),Option.getD_some]at this;rw[List.getElem_take];exact this.symm
theorem Qu3(A:Option Addr)(n cap:Nat)(xs:List Int)(w:World)(B:Nat)(h:RB w B A xs)(hn:xs.length=n)(hn0:0<n)(hcap:n≤cap)(ZF:cap≤maxLen)(hsm:n≤1000000)(hT:LO w) :
  Calls prog 85 #[ς A n cap] w fun e w'=>e=ρ (ι κ (Ks xs))∧∃q,w.drewN q=w':=by
 obtain⟨b,off,rfl,_,hc⟩:=h.cell (by intro e;rw[e]at hn;simp at hn;omega);have HC:=QA hc;clear hc;have HB:=QA h.Ha;clear h;have Hn:=QA hn;clear hn;obtain⟨tt,fr,hg⟩:=hT;have MQ:∀q,(w.drewN q).heap[0]?=some (θ mkV tt fr):=fun q=>hg
 have Hl:=QA MQ;clear hg MQ;have HM:=QA (fun(k:Nat)(hk:k<37)(W:World)=>run_mark hk W);unfold maxLen at ZF;go_enter func85,ntmps85;go_wp2
 go_step3
 go_wp2
 go_step3
 go_wp2_with (refine wpList_load_row rfl _ _ rfl 0 rfl _ _ _ _ (Hl.out 0) underlying111 rfl (by kernel_rfl) ?_)
 go_loopw [4,5,7,17] (fun _ _ i _ wr=>∃k q:Nat,k≤37∧i=ι κ k∧wr=w.drewN q∧Hid (∀j,j<k→¬Pre xs j)) (fun _ _ i _ _=>37-(intOf i).toNat)
 case atStart=>exact⟨0,0,by omega,rfl,rfl,fun j hj=>absurd hj (by omega)⟩
 case round =>
  obtain⟨k,q,hk,rfl,rfl,hpre⟩:=hrel;by_cases hlt:k<37
  ·have GQ:=QA (HM.out k hlt);obtain⟨L,hL⟩:=Mem.ZB ((XV.getD k []).length);have hL2:1≤L∧L≤2:=by
    have:=qM hlt;rw[hL]at this;split at this <;> omega
   have WQ:ZZ (XV.getD k []):=fun x hx=>ay _ (by
    have:k<XV.length:=by rw[qN];exact hlt
    simp only[List.getD,List.getElem?_eq_getElem this,Option.getD_some];exact List.getElem_mem this) x hx
   have hs:(Dh k).size=L:=by rw[Dh,strOfNums_size,hL]
   have HX:Hid (∀(i:Nat),i<L→∀W:World,(Instr.index 9 (σ (Dh k)) (ι κ (i:Int))).run prog W=.ok (ι .u8 ((XV.getD k []).getD i 0)) W):=fun i hi W=>Jq 9 underlying9 WQ (by rw[hL];exact hi) W
   have NU:Hid (∀i,i<L→(XV.getD k []).getD i 0≠xs.getD i 0→∀j,j<k+1→¬Pre xs j):=fun i hi he j hj=>by
    by_cases e:j=k
    ·subst e;exact wj (by rw[hL];exact hi) he
    ·exact hpre.out j (by omega)
   have Nn:Hid (n<L→∀j,j<k+1→¬Pre xs j):=fun hi j hj=>by
    by_cases e:j=k
    ·subst e;exact Qud (by rw[hL,Hn.out];exact hi)
    ·exact hpre.out j (by omega)
   have MC:Hid (L≤n→(∀i,i<L→(XV.getD k []).getD i 0=xs.getD i 0)→Ks xs=L):=fun hi he=>by
    rw[au hlt hpre.out (wh (by rw[hL,Hn.out];exact hi) (fun i hi=>he i (by rw[←hL];exact hi))),hL]
   have yP:Hid (∀i,0≤(XV.getD k []).getD i 0∧(XV.getD k []).getD i 0<256):=fun i=>WQ.getD i
   obtain⟨hL1,hL2⟩:=hL2;clear hL WQ hpre;generalize XV.getD k []=m at *;generalize Dh k=s at *;have hi0:=GQ.out;clear GQ;have hk':(k:Int)<37:=by omega
   by_cases hLn:n<L
   ·have XC:=QA (Nn.out hLn);clear NU MC HX Nn;go_wp2
    go_roundw
    case rel=>exact⟨k+1,q,by omega,by go_num,rfl,XC.out⟩
    case measure=>simp[intOf];omega
   ·clear Nn;go_wp2
    go_loopw [5,17] (fun _ i wr=>∃p r:Nat,p≤L∧i=ι κ p∧wr=w.drewN r∧Hid (∀i,i<p→m.getD i 0=xs.getD i 0)) (fun _ i _=>L-(intOf i).toNat)
    case atStart=>exact⟨0,q,by omega,rfl,rfl,fun i hi=>absurd hi (by omega)⟩
    case round =>
     obtain⟨p,r,hp,rfl,rfl,heq⟩:=hrel;by_cases ur:p<L
     ·have Nv:=HX.out p ur;have WQ:=yP.out p;have hci:∀q,(w.drewN q).cell? ⟨b,off+p,none⟩=some (ι .u8 (xs.getD p 0)):=fun q=>HC.out p (by rw[Hn.out];omega)
      have QZ:=HB.out.getD p;have Bu:=QA (NU.out p ur)
      have Bk:Hid (m.getD p 0=xs.getD p 0→∀i,i<p+1→m.getD i 0=xs.getD i 0):=fun he i hi=>by
       by_cases e:i=p
       ·rw[e];exact he
       ·exact heq.out i (by omega)
      clear heq NU MC HX yP;generalize m.getD p 0=x at *;generalize xs.getD p 0=y at *;have SQ:(p:Int)<n:=by omega
      by_cases hxy:x=y
      ·subst hxy;have HY2:=QA (Bk.out rfl);clear Bu Bk;go_wp2
       go_quiet (fail)
       go_wp2
       go_roundw
       case rel=>exact⟨p+1,_,by omega,by go_num,rfl,HY2.out⟩
       case measure=>simp[intOf];omega
      ·have Lq:=QA (Bu.out hxy);have hne:(x != y)=true:=by rw[bne_iff_ne];exact hxy
       clear Bu Bk hxy;go_wp2
       go_quiet (fail)
       go_wp2
       go_roundw
       case rel=>exact⟨k+1,_,by omega,by go_num,rfl,Lq.out⟩
       case measure=>simp[intOf];omega
     ·have HE:=QA (MC.out (by omega) (fun i hi=>heq.out i (by omega)));clear heq NU MC HX yP;go_wp2;rw[Exit.noGoto_ret];go_wp2;go_ret;rw[HE.out];exact⟨rfl,r,rfl⟩
  ·have HE:=QA (Qqn (fun j hj=>hpre.out j (by omega)));have hnl:¬(k:Int)<37:=by omega
   clear hpre hlt;go_wp2;go_ret;rw[HE.out];exact⟨rfl,q,rfl⟩
end Lex
end Go.Proofs.YtaiihnniblibaaaGreatDoor
namespace Go.Proofs
def Tryz.Hd:Go.Shelf.Ren:=⟨fun|185=>105|187=>119|115=>97|253=>120|224=>121|254=>122|255=>128|291=>129|n=>n,fun|37=>30|3=>3|4=>4|0=>0|5=>5|46=>101|9=>9|146=>128|51=>127|n=>n,fun|1=>1|n=>n⟩
theorem Tryz.Mc:Go.Proofs.Lays.n185 prog Tryz.Hd:={
 mixed:=by kernel_rfl
 f115:=func97.trans (congrArg some (by kernel_rfl))
 f185:=func105.trans (congrArg some (by kernel_rfl))
 f187:=func119.trans (congrArg some (by kernel_rfl))
 f224:=func121.trans (congrArg some (by kernel_rfl))
 f253:=func120.trans (congrArg some (by kernel_rfl))
 f254:=func122.trans (congrArg some (by kernel_rfl))
 f255:=func128.trans (congrArg some (by kernel_rfl))
 f291:=func129.trans (congrArg some (by kernel_rfl))
 t0:=underlying0
 a0:=Tryz.isAgg0
 z0:=Tryz.sizeOf0
 v0:=Tryz.zeroValue0
 t3:=underlying3
 a3:=Tryz.isAgg3
 z3:=Tryz.sizeOf3
 v3:=Tryz.zeroValue3
 t4:=underlying4
 a4:=Tryz.isAgg4
 z4:=Tryz.sizeOf4
 v4:=Tryz.zeroValue4
 t5:=underlying5
 a5:=Tryz.isAgg5
 z5:=Tryz.sizeOf5
 v5:=Tryz.zeroValue5
 t9:=underlying9
 a9:=Tryz.isAgg9
 z9:=Tryz.sizeOf9
 v9:=Tryz.zeroValue9
 t37:=underlying30
 a37:=Tryz.isAgg30
 z37:=Tryz.sizeOf30
 v37:=Tryz.zeroValue30
 t46:=underlying101
 a46:=Tryz.isAgg101
 z46:=Tryz.sizeOf101
 v46:=Tryz.zeroValue101
 t51:=underlying127
 a51:=Tryz.isAgg127
 z51:=Tryz.sizeOf127
 v51:=Tryz.zeroValue127
 t146:=underlying128
 a146:=Tryz.isAgg128
 z146:=Tryz.sizeOf128
 v146:=Tryz.zeroValue128
 g1:=by kernel_rfl }
open Go.RowKit Go.Lib in
theorem Tryz.bytes_Index_one(b o n c b2 o2 d:Nat)(xs:List Int)(cv:Int)(w:World)(hx:xs.length=n)(hc:∀i,i<n→w.cell? ⟨b,o+i,none⟩=some (ι .u8 (xs.getD i 0)))(hc2:w.cell? ⟨b2,o2,none⟩=some (ι .u8 cv)) :
  Calls prog 105 #[ς (some ⟨b,o,none⟩) n c,ς (some ⟨b2,o2,none⟩) 1 d] w fun e w'=>e=ρ (ι κ (Lib.indexByte (Lib.bytesOf xs) cv.toNat.toUInt8))∧w'=w:=Any.bytes_Index_one Tryz.Mc b o n c b2 o2 d xs cv w hx hc hc2
def Tryz.EP:Go.Shelf.Ren:=⟨fun|116=>83|115=>97|n=>n,fun|37=>30|4=>4|3=>3|9=>9|5=>5|n=>n,fun|n=>n⟩
theorem Tryz.Sk:Go.Proofs.Lays.nb116 prog Tryz.EP:={
 mixed:=by kernel_rfl
 f115:=func97.trans (congrArg some (by kernel_rfl))
 f116:=func83.trans (congrArg some (by kernel_rfl))
 t3:=underlying3
 a3:=Tryz.isAgg3
 z3:=Tryz.sizeOf3
 v3:=Tryz.zeroValue3
 t4:=underlying4
 a4:=Tryz.isAgg4
 z4:=Tryz.sizeOf4
 v4:=Tryz.zeroValue4
 t9:=underlying9
 a9:=Tryz.isAgg9
 z9:=Tryz.sizeOf9
 v9:=Tryz.zeroValue9
 t37:=underlying30
 a37:=Tryz.isAgg30
 z37:=Tryz.sizeOf30
 v37:=Tryz.zeroValue30
 t5:=underlying5
 a5:=Tryz.isAgg5
 z5:=Tryz.sizeOf5
 v5:=Tryz.zeroValue5 }
theorem Tryz.bytes_HasPrefix_all(p1 p2:Option Addr)(n c m d:Nat)(xs ys:List Int)(w:World)(hx:xs.length=n)(hy:ys.length=m)(hnc:n≤c)(h1:Lib.BytesIn w p1 n xs)(h2:Lib.BytesIn w p2 m ys) :
  Calls prog 83 #[ς p1 n c,ς p2 m d] w fun e w'=>e=ρ (τ (Lib.hasPrefix (Lib.bytesOf xs) (Lib.bytesOf ys)))∧w'=w:=Any.bytes_HasPrefix_all Tryz.Sk p1 p2 n c m d xs ys w hx hy hnc h1 h2
def Tryz.LH:Go.Shelf.Ren:=⟨fun|4=>98|5=>105|6=>119|7=>97|8=>120|9=>121|10=>122|11=>128|12=>129|n=>n,fun|22=>30|4=>4|3=>3|0=>0|5=>5|29=>101|9=>9|31=>128|30=>127|n=>n,fun|0=>1|n=>n⟩
theorem Tryz.Tw:Go.Proofs.SlLaysT.n4 prog Tryz.LH:={
 mixed:=by kernel_rfl
 f4:=func98.trans (congrArg some (by kernel_rfl))
 f5:=func105.trans (congrArg some (by kernel_rfl))
 f6:=func119.trans (congrArg some (by kernel_rfl))
 f7:=func97.trans (congrArg some (by kernel_rfl))
 f8:=func120.trans (congrArg some (by kernel_rfl))
 f9:=func121.trans (congrArg some (by kernel_rfl))
 f10:=func122.trans (congrArg some (by kernel_rfl))
 f11:=func128.trans (congrArg some (by kernel_rfl))
 f12:=func129.trans (congrArg some (by kernel_rfl))
 t0:=underlying0
 a0:=Tryz.isAgg0
 z0:=Tryz.sizeOf0
 v0:=Tryz.zeroValue0
 t3:=underlying3
 a3:=Tryz.isAgg3
 z3:=Tryz.sizeOf3
 v3:=Tryz.zeroValue3
 t4:=underlying4
 a4:=Tryz.isAgg4
 z4:=Tryz.sizeOf4
 v4:=Tryz.zeroValue4
 t5:=underlying5
 a5:=Tryz.isAgg5
 z5:=Tryz.sizeOf5
 v5:=Tryz.zeroValue5
 t9:=underlying9
 a9:=Tryz.isAgg9
 z9:=Tryz.sizeOf9
 v9:=Tryz.zeroValue9
 t22:=underlying30
 a22:=Tryz.isAgg30
 z22:=Tryz.sizeOf30
 v22:=Tryz.zeroValue30
 t29:=underlying101
 a29:=Tryz.isAgg101
 z29:=Tryz.sizeOf101
 v29:=Tryz.zeroValue101
 t30:=underlying127
 a30:=Tryz.isAgg127
 z30:=Tryz.sizeOf127
 v30:=Tryz.zeroValue127
 t31:=underlying128
 a31:=Tryz.isAgg128
 z31:=Tryz.sizeOf128
 v31:=Tryz.zeroValue128
 g0:=by kernel_rfl }
theorem Tryz.bytes_Cut_of(p1 p2:Option Addr)(n c1 k c2:Nat)(i:Int)(w:World)(hcap:n≤c1)(hlo : -1≤i)(hroom:0≤i→i+k≤n)(hn:n≤4611686018427387904)(TF:Calls prog 105 #[ς p1 n c1,ς p2 k c2] w fun e w'=>e = ρ (ι κ i)∧∃q,w'=w.drewN q) :
  Calls prog 98 #[ς p1 n c1,ς p2 k c2] w fun e w'=>e=ρ (Lib.cutV p1 n c1 k i)∧∃q,w'=w.drewN q:=Any.bytes_Cut_of Tryz.Tw p1 p2 n c1 k c2 i w hcap hlo hroom hn TF
def Tryz.LG:Go.Shelf.Ren:=⟨fun|7=>99|10=>106|11=>107|13=>108|15=>109|16=>123|19=>124|18=>125|21=>130|17=>131|20=>132|n=>n,fun|22=>30|9=>9|3=>3|4=>4|5=>5|28=>116|27=>115|0=>0|31=>119|21=>21|33=>124|36=>130|37=>101|40=>133|39=>132|n=>n,fun|0=>2|1=>3|n=>n⟩
theorem Tryz.Tv:Go.Proofs.SlLaysV.n7 prog Tryz.LG:={
 mixed:=by kernel_rfl
 f7:=func99.trans (congrArg some (by kernel_rfl))
 f10:=func106.trans (congrArg some (by kernel_rfl))
 f11:=func107.trans (congrArg some (by kernel_rfl))
 f13:=func108.trans (congrArg some (by kernel_rfl))
 f15:=func109.trans (congrArg some (by kernel_rfl))
 f16:=func123.trans (congrArg some (by kernel_rfl))
 f17:=func131.trans (congrArg some (by kernel_rfl))
 f18:=func125.trans (congrArg some (by kernel_rfl))
 f19:=func124.trans (congrArg some (by kernel_rfl))
 f20:=func132.trans (congrArg some (by kernel_rfl))
 f21:=func130.trans (congrArg some (by kernel_rfl))
 t0:=underlying0
 a0:=Tryz.isAgg0
 z0:=Tryz.sizeOf0
 v0:=Tryz.zeroValue0
 t3:=underlying3
 a3:=Tryz.isAgg3
 z3:=Tryz.sizeOf3
 v3:=Tryz.zeroValue3
 t4:=underlying4
 a4:=Tryz.isAgg4
 z4:=Tryz.sizeOf4
 v4:=Tryz.zeroValue4
 t5:=underlying5
 a5:=Tryz.isAgg5
 z5:=Tryz.sizeOf5
 v5:=Tryz.zeroValue5
 t9:=underlying9
 a9:=Tryz.isAgg9
 z9:=Tryz.sizeOf9
 v9:=Tryz.zeroValue9
 t21:=underlying21
 a21:=Tryz.isAgg21
 z21:=Tryz.sizeOf21
 v21:=Tryz.zeroValue21
 t22:=underlying30
 a22:=Tryz.isAgg30
 z22:=Tryz.sizeOf30
 v22:=Tryz.zeroValue30
 t27:=underlying115
 a27:=Tryz.isAgg115
 z27:=Tryz.sizeOf115
 t28:=underlying116
 a28:=Tryz.isAgg116
 z28:=Tryz.sizeOf116
 v28:=Tryz.zeroValue116
 t31:=underlying119
 a31:=Tryz.isAgg119
 z31:=Tryz.sizeOf119
 v31:=Tryz.zeroValue119
 t33:=underlying124
 a33:=Tryz.isAgg124
 z33:=Tryz.sizeOf124
 v33:=Tryz.zeroValue124
 t36:=underlying130
 a36:=Tryz.isAgg130
 z36:=Tryz.sizeOf130
 t37:=underlying101
 a37:=Tryz.isAgg101
 z37:=Tryz.sizeOf101
 v37:=Tryz.zeroValue101
 t39:=underlying132
 a39:=Tryz.isAgg132
 z39:=Tryz.sizeOf132
 v39:=Tryz.zeroValue132
 t40:=underlying133
 a40:=Tryz.isAgg133
 z40:=Tryz.sizeOf133
 v40:=Tryz.zeroValue133 }
open Go.RowKit in
theorem Tryz.bytes_TrimRight_laid(p:Option Addr)(n c:Nat)(xs:List Int)(EB:ByteArray)(w:World)
  (hx:xs.length=n) (hnc:n≤c) (hbig:c≤9223372036854775807) (h1:Lib.BytesIn w p n xs) (hr:∀x∈xs,0≤x∧x<256) (hcs:EB.size<4294967281) (hascii:∀(j:Nat) b,EB.data.toList[j]?=some b→b.toNat<128) :
  Calls prog 99 #[ς p n c,σ EB] w fun e w'=>e=ρ (ς p (Lib.trimRightS (Lib.bytesOf xs) EB.data.toList).length c)∧Below w.heap.size w w':=Any.bytes_TrimRight_laid Tryz.Tv (by kernel_rfl) p n c xs EB w hx hnc hbig h1 hr hcs hascii
