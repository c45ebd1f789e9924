import Derived.Test.YtmepekognmlblaaGreatDoorP02
import Derived.Test.YtmepekognmlblaaGreatDoorP07
set_option maxHeartbeats 1000000
set_option linter.unusedVariables false
open Go.Proofs.Tryz Go.ChangeShapes Go.WideShapes Go.ChangeAt Go.RowKit
open Go.Lib renaming hid→QA
open Go.Value renaming int→ι,slice→ς
open Go.IntKind renaming i64→γ
open Go.Ending renaming returned→ρ
namespace Go.Proofs.YtmepekognmlblaaGreatDoor
namespace Lex
open Ro
theorem Zc{a b:Int}(h:a≠b):(a==b)=false:=beq_eq_false_iff_ne.2 h
theorem Jj(c:Int)(w:World)(h0:0≤c)(h1:c<256) :
 Calls prog 110 #[ι .u8 c] w fun e w'=>e=ρ (ι γ (kd c))∧w=w':=by
 by_cases dZ:c=95
 ·subst dZ;rw[show kd 95=1 from rfl];go_enter func110,ntmps110;go_wp2;go_ret;exact⟨rfl,rfl⟩
 by_cases bh:c=34
 ·subst bh;rw[show kd 34=3 from rfl];go_enter func110,ntmps110;go_wp2;go_ret;exact⟨rfl,rfl⟩
 by_cases bg:c=59
 ·subst bg;rw[show kd 59=6 from rfl];go_enter func110,ntmps110;go_wp2;go_ret;exact⟨rfl,rfl⟩
 by_cases bj:c=32
 ·subst bj;rw[show kd 32=7 from rfl];go_enter func110,ntmps110;go_wp2;go_ret;exact⟨rfl,rfl⟩
 by_cases c9:c=9
 ·subst c9;rw[show kd 9=7 from rfl];go_enter func110,ntmps110;go_wp2;go_ret;exact⟨rfl,rfl⟩
 by_cases c13:c=13
 ·subst c13;rw[show kd 13=7 from rfl];go_enter func110,ntmps110;go_wp2;go_ret;exact⟨rfl,rfl⟩
 by_cases c10:c=10
 ·subst c10;rw[show kd 10=8 from rfl];go_enter func110,ntmps110;go_wp2;go_ret;exact⟨rfl,rfl⟩
 have b95:=Zc dZ;have b34:=Zc bh;have b59:=Zc bg;have b32:=Zc bj;have b9:=Zc c9;have TN:=Zc c13;have Rn:=Zc c10;have hk:(c<48∧kd c=4)∨(48≤c∧c≤57∧kd c=2)∨(57<c∧c<65∧kd c=4)∨(65≤c∧c≤90∧kd c=1)∨(90<c∧c<97∧kd c=4)∨(97≤c∧c≤122∧kd c=1)∨(122<c∧kd c=4):=by
  unfold kd;repeat' split
  all_goals omega
 generalize kd c=q at *;clear dZ bh bg bj c9 c13 c10;rcases hk with⟨d1,rfl⟩|⟨d1,d2,rfl⟩|⟨d1,d2,rfl⟩|⟨d1,d2,rfl⟩|⟨d1,d2,rfl⟩|⟨d1,d2,rfl⟩|⟨d1,rfl⟩
 all_goals
  go_enter func110,ntmps110;go_wp2;go_ret;exact⟨rfl,rfl⟩
theorem iW{p:Int→Bool}{l:List Int}{k:Nat}(h:k≤lead p l)(hk:k<l.length)(hp:p (l.getD k 0)=true):k+1≤lead p l:=by
 rcases Nat.lt_or_ge k (lead p l)with h' |h'
 ·exact h'
 ·have e:lead p l=k:=ω
  have:=Qfr p l ω;rw[e,hp]at this;cases this
theorem Ľ{p:Int→Bool}{l:List Int}{k:Nat}(h:k≤lead p l)(hp:p (l.getD k 0)=false):lead p l=k:=by
 rcases Nat.lt_or_ge k (lead p l)with h' |h'
 ·have:=ŧ p l k h';rw[hp]at this;cases this
 ·omega
theorem Ũ{p:Int→Bool}{l:List Int}{k:Nat}(h:k≤lead p l)(hk:l.length≤k):lead p l=k:=by
 have:=Yd p l;omega
theorem yE{w:World}{b off:Nat}{xs:List Int}{k:Nat}(hc:∀i,i<xs.length→w.cell? ⟨b,off+i,none⟩=some (ι .u8 (xs.getD i 0)))(hb:KC xs)(hk:k<xs.length) :
 ∃d,xs.getD k 0=d∧w.cell? ⟨b,off+k,none⟩=some (ι .u8 d)∧0≤d∧d<256 :=
 ⟨_,rfl,hc k hk,(hb.getD k).1,(hb.getD k).2⟩
theorem ŷ(A:Option Addr)(n cap:Nat)(xs:List Int)(w:World)(B:Nat)(h:RB w B A xs)(hn:xs.length=n)(hn0:0<n)(hcap:n≤cap)(QT:cap≤maxLen) :
 Calls prog 111 #[ς A n cap] w fun e w'=>e=ρ (ι γ (Xu xs))∧w=w':=by
 obtain⟨b,off,rfl,_,hc⟩:=h.cell (by intro e;rw[e]at hn;simp at hn;omega);have HC:=QA hc;clear hc;have HB:=QA h.Bu;clear h;have Hn:=QA hn;clear hn;unfold maxLen at QT;have hL:Xu xs=lead qu xs:=rfl;go_enter func111,ntmps111;go_wp2
 go_loop [3,4,5,8] (fun _ _ _ i=>∃k:Nat,k≤n∧i=ι γ k∧Hid (k≤lead qu xs)) (fun _ _ _ i=>n-(intOf i).toNat)
 case atStart=>exact⟨0,ω,rfl,Nat.zero_le _⟩
 case round =>
  obtain⟨k,hk,rfl,hle⟩:=hrel;by_cases hlt:k<n
  ·obtain⟨d,hd,hcell,hd0,hd1⟩:=yE HC.out HB.out (k:=k) (by rw[Hn.out];exact hlt);have UZ:=QA (Jj d w hd0 hd1);have HS:Hid (qu d=true→k+1≤lead qu xs):=fun hp=>iW hle.out (by rw[Hn.out];exact hlt) (by rw[hd];exact hp)
   have HE:Hid (qu d=false→Xu xs=k):=fun hp=>Ľ hle.out (by rw[hd];exact hp)
   have hl:qu d=(kd d==1||kd d==2):=rfl;rw[hl]at HS HE;generalize kd d=q at *;clear hl hd hle hL;by_cases q1:q=1
   ·subst q1;have SA:=QA (HS.out rfl);clear HS HE;go_wp2_with (go_at_call 110;refine UZ.out.mono ?_;rintro e w' ⟨rfl,rfl⟩)
    go_round
    case rel=>exact⟨k+1,ω,by go_num,SA.out⟩
    case measure=>simp[intOf];omega
   by_cases q2:q=2
   ·subst q2;have SA:=QA (HS.out rfl);clear HS HE;go_wp2_with (go_at_call 110;refine UZ.out.mono ?_;rintro e w' ⟨rfl,rfl⟩)
    go_round
    case rel=>exact⟨k+1,ω,by go_num,SA.out⟩
    case measure=>simp[intOf];omega
   ·have Sq:=QA (HE.out (by rw[Zc q1,Zc q2];rfl));clear HS HE;have n1:(q != 1)=true:=by rw[bne_iff_ne];exact q1
    have n2:(q != 2)=true:=by rw[bne_iff_ne];exact q2
    clear q1 q2;go_wp2_with (go_at_call 110;refine UZ.out.mono ?_;rintro e w' ⟨rfl,rfl⟩);go_ret;rw[Sq.out];exact⟨rfl,rfl⟩
  ·have HE:=QA (Ũ hle.out (by rw[Hn.out];omega));obtain rfl:n=k:=ω
   clear hL hle;go_wp2;go_ret;exact⟨å (by unfold Xu;rw[HE.out]),rfl⟩
theorem Qk9(A:Option Addr)(n cap:Nat)(xs:List Int)(w:World)(B:Nat)(h:RB w B A xs)(hn:xs.length=n)(hn0:0<n)(hd0:NB (xs.getD 0 0)=true)(hcap:n≤cap)(QT:cap≤maxLen) :
 Calls Tryz.prog 161 #[ς A n cap] w fun e w'=>e=ρ (ι γ (OE xs))∧w=w':=by
 obtain⟨b,off,rfl,_,hc⟩:=h.cell (by intro e;rw[e]at hn;simp at hn;omega);have HC:=QA hc;clear hc;have HB:=QA h.Bu;clear h;have H1:Hid (1≤lead NB xs):=iW (Nat.zero_le _) ω hd0;obtain⟨z,hz,hz0,hz1,hz2⟩:=yE HC.out HB.out (k:=0) ω;rw[Nat.add_zero]at hz0;have HN:Hid (OE xs=if 1<lead NB xs∧z=48 then 0 else lead NB xs):=by rw[←hz];rfl
 have Hn:=QA hn;clear hn hd0 hz;unfold maxLen at QT;go_enter Tryz.func161,Tryz.ntmps161;go_wp2
 go_loop [3] (fun i=>∃k:Nat,1≤k∧k≤n∧i=ι γ k∧Hid (k≤lead NB xs)) (fun i=>n-(intOf i).toNat)
 case atStart=>exact⟨1,ω,ω,rfl,H1.out⟩
 case round =>
  obtain⟨k,hk1,hk,rfl,hle⟩:=hrel;have JM:Hid (lead NB xs=k→OE xs=if 1<k∧z=48 then 0 else k):=fun e=>by rw[HN.out,e]
  by_cases hlt:k<n
  ·obtain⟨d,hd,hcell,hd0,hd1⟩:=yE HC.out HB.out (k:=k) (by rw[Hn.out];exact hlt);have UZ:=QA (Jj d w hd0 hd1);have HS:Hid (kd d=2→k+1≤lead NB xs):=fun hp=>iW hle.out (by rw[Hn.out];exact hlt) (by rw[hd];unfold NB;rw[hp];rfl)
   have HE:Hid (kd d≠2→lead NB xs=k):=fun hp=>Ľ hle.out (by rw[hd];unfold NB;exact Zc hp)
   generalize kd d=q at *;clear hd hle;by_cases q2:q=2
   ·subst q2;have SA:=QA (HS.out rfl);clear HS HE;go_wp2_with (go_at_call 110;refine UZ.out.mono ?_;rintro e w' ⟨rfl,rfl⟩)
    go_round
    case rel=>exact⟨k+1,ω,ω,by go_num,SA.out⟩
    case measure=>simp[intOf];omega
   ·have Sq:=QA (JM.out (HE.out q2));clear HS HE JM;have n2:=Zc q2;clear q2;by_cases hk2:1<k
    ·by_cases BM:z=48
     ·subst BM;rw[if_pos ⟨hk2,rfl⟩]at Sq;go_wp2_with (go_at_call 110;refine UZ.out.mono ?_;rintro e w' ⟨rfl,rfl⟩);go_ret;rw[Sq.out];exact⟨rfl,rfl⟩
     ·rw[if_neg (fun h=>BM h.2)]at Sq;have zb:=Zc BM;clear BM;go_wp2_with (go_at_call 110;refine UZ.out.mono ?_;rintro e w' ⟨rfl,rfl⟩);go_ret;rw[Sq.out];exact⟨rfl,rfl⟩
    ·rw[if_neg (fun h=>hk2 h.1)]at Sq;go_wp2_with (go_at_call 110;refine UZ.out.mono ?_;rintro e w' ⟨rfl,rfl⟩);go_ret;rw[Sq.out];exact⟨rfl,rfl⟩
  ·have Sq:=QA (JM.out (Ũ hle.out (by rw[Hn.out];omega)));clear hle JM HN H1;by_cases hk2:1<k
   ·by_cases BM:z=48
    ·subst BM;rw[if_pos ⟨hk2,rfl⟩]at Sq;go_wp2;go_ret;rw[Sq.out];exact⟨rfl,rfl⟩
    ·rw[if_neg (fun h=>BM h.2)]at Sq;have zb:=Zc BM;clear BM;go_wp2;go_ret;rw[Sq.out];exact⟨rfl,rfl⟩
   ·rw[if_neg (fun h=>hk2 h.1)]at Sq;go_wp2;go_ret;rw[Sq.out];exact⟨rfl,rfl⟩
def PW(xs:List Int)(i:Nat):Prop:=DI xs=if Zb (xs.drop i)=0 then 0 else i+Zb (xs.drop i)
theorem Qkj(r:List Int):Zb (34::r)=1:=by unfold Zb;rw[if_pos rfl]
theorem Qq5(r:List Int):Zb (92::10::r)=0:=by unfold Zb;rfl
theorem Qn0:Zb [92]=0:=by unfold Zb;rfl
theorem Qxu{d:Int}(r:List Int)(h:d≠10):Zb (92::d::r)=if Zb r=0 then 0 else Zb r+2:=by
 conv=>lhs;unfold Zb
 rw[if_neg ω,if_neg ω,if_pos rfl];simp only[if_neg h]
theorem Qq6{c:Int}(r:List Int)(h1:c≠34)(h2:c≠10)(h3:c≠92):Zb (c::r)=if Zb r=0 then 0 else Zb r+1:=by
 conv=>lhs;unfold Zb
 rw[if_neg h1,if_neg h2,if_neg h3]
theorem Quv{xs:List Int}(h:xs≠[]):PW xs 1:=by
 cases xs with
 |nil=>exact absurd rfl h
 |cons c r=>show(if Zb r=0 then 0 else Zb r+1)=_;simp only[List.drop_succ_cons,List.drop_zero];split <;> omega
theorem drop_at{xs:List Int}{i:Nat}(h:i<xs.length):xs.drop i=xs.getD i 0::xs.drop (i+1):=by
 rw[List.drop_eq_getElem_cons h];simp[List.getD,h]
theorem Quw{xs:List Int}{i:Nat}(h:PW xs i)(hi:i<xs.length)(hc:xs.getD i 0=34):DI xs=i+1:=by
 have e:Zb (xs.drop i)=1:=by rw[drop_at hi,hc,Qkj]
 unfold PW at h;rw[e]at h;exact h
theorem Q0a{xs:List Int}{i:Nat}(h:PW xs i)(hi:i<xs.length)(hc:xs.getD i 0=10):DI xs=0:=by
 have e:Zb (xs.drop i)=0:=by rw[drop_at hi,hc,Qq4]
 unfold PW at h;rw[e]at h;exact h
theorem Qx2{xs:List Int}{i:Nat}(h:PW xs i)(hi:xs.length≤i):DI xs=0:=by
 unfold PW at h;rw[List.drop_eq_nil_of_le hi]at h;exact h
theorem Qx3{xs:List Int}{i:Nat}(h:PW xs i)(hi:i<xs.length)(h1:xs.getD i 0≠34)(h2:xs.getD i 0≠10)(h3:xs.getD i 0≠92):PW xs (i+1):=by
 have e:=Qq6 (xs.drop (i+1)) h1 h2 h3;rw[←drop_at hi]at e;unfold PW at h⊢;rw[h,e];generalize Zb (xs.drop (i+1))=k;by_cases hk:k=0
 ·simp[hk]
 ·simp[hk];omega
theorem Qoc{xs:List Int}{i:Nat}(h:PW xs i)(hi:i+1<xs.length)(h3:xs.getD i 0=92)(h4:xs.getD (i+1) 0=10):DI xs=0:=by
 have e:Zb (xs.drop i)=0:=by rw[drop_at (show i<xs.length by omega),h3,drop_at hi,h4,Qq5]
 unfold PW at h;rw[e]at h;exact h
theorem Qx4{xs:List Int}{i:Nat}(h:PW xs i)(hi:i+1<xs.length)(h3:xs.getD i 0=92)(h4:xs.getD (i+1) 0≠10):PW xs (i+1+1):=by
 have e:=Qxu (xs.drop (i+1+1)) h4;rw[←drop_at hi,←h3,←drop_at (show i<xs.length by omega)]at e;unfold PW at h⊢;rw[h,e];generalize Zb (xs.drop (i+1+1))=k;by_cases hk:k=0
 ·simp[hk]
 ·simp[hk];omega
theorem Qkz{xs:List Int}{i:Nat}(h:PW xs i)(hi:i+1=xs.length)(h3:xs.getD i 0=92):PW xs (i+1+1):=by
 have e:Zb (xs.drop i)=0:=by rw[drop_at (show i<xs.length by omega),h3,List.drop_eq_nil_of_le (show xs.length≤i+1 by omega),Qn0]
 unfold PW at h⊢;rw[e]at h;rw[List.drop_eq_nil_of_le (show xs.length≤i+1+1 by omega)];exact h
theorem Qky(A:Option Addr)(n cap:Nat)(xs:List Int)(w:World)(B:Nat)(h:RB w B A xs)(hn:xs.length=n)(hn0:0<n)(hcap:n≤cap)(QT:cap≤maxLen)(hsm:n≤1000000) :
 Calls Tryz.prog 162 #[ς A n cap] w fun e w'=>e=ρ (ι γ (DI xs))∧w=w':=by
 have hne:xs≠[]:=by intro e;rw[e]at hn;simp at hn;omega
 obtain⟨b,off,rfl,_,hc⟩:=h.cell hne;have HC:=QA hc;clear hc;have HB:=QA h.Bu;clear h;have H1:=QA (Quv hne);clear hne;have Hn:=QA hn;clear hn;unfold maxLen at QT;go_enter Tryz.func162,Tryz.ntmps162;go_wp2
 go_loop [3] (fun i=>∃k:Nat,1≤k∧k≤n+1∧i=ι γ k∧Hid (PW xs k)) (fun i=>n+1-(intOf i).toNat)
 case atStart=>exact⟨1,ω,ω,rfl,H1.out⟩
 case round =>
  obtain⟨k,hk1,hk,rfl,hq⟩:=hrel;by_cases hlt:k<n
  ·obtain⟨d,hd,hcell,hd0,hd1⟩:=yE HC.out HB.out (k:=k) (by rw[Hn.out];exact hlt);have HD:=QA hd;clear hd;by_cases d34:d=34
   ·have HE:=QA (Quw hq.out (by rw[Hn.out];exact hlt) (by rw[HD.out,d34]));subst d34;clear HD hq;go_wp2;go_ret;rw[HE.out];exact⟨rfl,rfl⟩
   by_cases d10:d=10
   ·have HE:=QA (Q0a hq.out (by rw[Hn.out];exact hlt) (by rw[HD.out,d10]));subst d10;clear HD hq;go_wp2;go_ret;rw[HE.out];exact⟨rfl,rfl⟩
   by_cases d92:d=92
   ·by_cases FA:k+1<n
    ·obtain⟨d',hd',cJ,Q27,Q26⟩:=yE HC.out HB.out (k:=k+1) (by rw[Hn.out];exact FA);have sP:=QA hd';clear hd';by_cases e10:d'=10
     ·have HE:=QA (Qoc hq.out (by rw[Hn.out];exact FA) (by rw[HD.out,d92]) (by rw[sP.out,e10]));subst d92;subst e10;clear HD sP hq d34 d10;go_wp2;go_ret;rw[HE.out];exact⟨rfl,rfl⟩
     ·have HE:=QA (Qx4 hq.out (by rw[Hn.out];exact FA) (by rw[HD.out,d92]) (by rw[sP.out];exact e10));have Rn:=Zc e10;subst d92;clear HD sP hq d34 d10 e10;go_wp2
      go_round
      case rel=>exact⟨k+1+1,ω,ω,by go_num,HE.out⟩
      case measure=>simp[intOf];omega
    ·have HE:=QA (Qkz hq.out (by rw[Hn.out];omega) (by rw[HD.out,d92]));subst d92;clear HD hq d34 d10;go_wp2
     go_round
     case rel=>exact⟨k+1+1,ω,ω,by go_num,HE.out⟩
     case measure=>simp[intOf];omega
   ·have HE:=QA (Qx3 hq.out (by rw[Hn.out];exact hlt) (by rw[HD.out];exact d34) (by rw[HD.out];exact d10) (by rw[HD.out];exact d92));have b34:=Zc d34;have Rn:=Zc d10;have b92:=Zc d92;clear HD hq d34 d10 d92;go_wp2
    go_round
    case rel=>exact⟨k+1,ω,ω,by go_num,HE.out⟩
    case measure=>simp[intOf];omega
  ·have HE:=QA (Qx2 hq.out (by rw[Hn.out];omega));clear hq;go_wp2;go_ret;rw[HE.out];exact⟨rfl,rfl⟩
