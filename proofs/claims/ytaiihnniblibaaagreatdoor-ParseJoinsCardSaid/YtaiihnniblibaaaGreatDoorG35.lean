import Derived.Test.YtaiihnniblibaaaGreatDoorG30
set_option maxHeartbeats 4000000
set_option linter.unusedVariables false
open Go.Proofs.Tryz Go.ChangeShapes Go.WideShapes Go.ChangeAt Go.RowKit
open Go.Lib renaming hid→QA
open Go.Value renaming string→σ,int→ι,bool→τ
open Go.IntKind renaming i64→κ
open Go.Ending renaming returned→ρ
namespace Go.Proofs.YtaiihnniblibaaaGreatDoor
namespace Lex
open KL ZR
theorem tY(c:Int)(w:World) :
  Calls prog 31 #[ι .u8 c] w fun e w'=>e=ρ (τ (blk c))∧w=w':=by
 by_cases c1:c=32
 ·subst c1;rw[show blk 32=true from rfl];go_enter func31,ntmps31;go_wp2;go_ret;exact⟨rfl,rfl⟩
 by_cases c2:c=9
 ·subst c2;rw[show blk 9=true from rfl];go_enter func31,ntmps31;go_wp2;go_ret;exact⟨rfl,rfl⟩
 by_cases c3:c=13
 ·subst c3;rw[show blk 13=true from rfl];go_enter func31,ntmps31;go_wp2;go_ret;exact⟨rfl,rfl⟩
 have hb:blk c=false:=by
  cases h:blk c
  ·rfl
  ·have:=RA.1 h;omega
 rw[hb];have b1:=Qy c1;have b2:=Qy c2;have b3:=Qy c3;clear hb c1 c2 c3;go_enter func31,ntmps31;go_wp2;go_ret;exact⟨rfl,rfl⟩
theorem AK{t:List Int}(ht:ZZ t):Hid (∀i,i<t.length→∀W:World,(Instr.index 9 (σ (strOfNums t)) (ι κ (i:Int))).run prog W=.ok (ι .u8 (t.getD i 0)) W):=fun i hi W=>Jq (P:=prog) 9 underlying9 ht hi W
theorem Y5{t:List Int}(ht:ZZ t)(h0:0<t.length)(W:World):(Instr.index 9 (σ (strOfNums t)) (ι κ 0)).run prog W=.ok (ι .u8 (t.getD 0 0)) W:=Jq (P:=prog) 9 underlying9 ht (i:=0) h0 W
theorem Quu(t:List Int)(ht:ZZ t)(h0:0<t.length)(hc:t.getD 0 0=59)(w:World) :
  Calls prog 32 #[σ (strOfNums t)] w fun e w'=>e=ρ (.tuple #[ι κ 6,ι κ 1])∧w=w':=by
 have GQ:=fun W=>Y5 ht h0 W
 have hsz:(strOfNums t).size=t.length:=strOfNums_size t;rw[hc]at GQ;clear hc ht;generalize strOfNums t=s at *;generalize t.length=n at *;by_cases hl:1<n
 ·have hl':(1:Int)<(n:Int):=by omega
  clear hl h0;go_enter func32,ntmps32;go_wp2
  go_ret2
  exact⟨rfl,rfl⟩
 ·obtain rfl:n=1:=by omega
  clear hl h0;go_enter func32,ntmps32;go_wp2
  go_ret2
  exact⟨rfl,rfl⟩
theorem aO(t:List Int)(ht:ZZ t)(h0:0<t.length)(hn:t.length≤100000000)(hc:kd (t.getD 0 0)=1)(w:World) :
  Calls prog 32 #[σ (strOfNums t)] w fun e w'=>e=ρ (.tuple #[ι κ 1,ι κ (K8 t:Int)])∧w=w':=by
 have GQ:=fun W=>Y5 ht h0 W
 have KE:=AK ht;have hsz:(strOfNums t).size=t.length:=strOfNums_size t;have hd:=ht.getD 0;have UH:=QA (Xp (t.getD 0 0) w hd.1 hd.2);have XE:Hid (∀i W,Calls prog 57 #[ι .u8 (t.getD i 0)] W fun e w'=>e=ρ (ι κ (Z7 (t.getD i 0)))∧W=w'):=fun i W=>Xp _ W (ht.getD i).1 (ht.getD i).2
 have hs1:Z7 (t.getD 0 0)=1:=by unfold Z7;rw[if_pos hc]
 have hl0:1≤lead Ka t:=by
  have:Ka (t.getD 0 0)=true:=by unfold Ka;rw[hc];rfl
  exact J1 (Nat.zero_le _) h0 this
 have yD:=QA hl0;have NW:=QA (Kh Ka t);have OW:(t.getD 0 0==47)=false:=Qy (fun e=>by rw[e]at hc;exact absurd hc (by decide));have DT:(t.getD 0 0==59)=false:=Qy (fun e=>by rw[e]at hc;exact absurd hc (by decide));rw[hs1]at UH;have HW:Hid (K8 t=lead Ka t):=rfl;obtain⟨n,hnn⟩:=Mem.ZB (t.length);have Hn:=QA hnn;rw[hnn]at KE hsz h0 hn NW;clear hd hc hs1 hl0 hnn ht;have hpre:(1:Int)<(n:Int)∨¬(1:Int)<(n:Int):=by omega
 generalize t.getD 0 0=d at *;generalize K8 t=wl at *;obtain⟨s,hs⟩:=Mem.ZB (strOfNums t);rw[hs]at KE hsz GQ⊢;clear hs;rcases hpre with hpre|hpre
 all_goals
  go_enter func32,ntmps32;go_wp2_with (first|(go_at_call 57;refine UH.out.mono ?_;rintro e w' ⟨rfl,rfl⟩))
  go_loop [5] (fun i=>∃k:Nat,1≤k∧k≤n∧i=ι κ k∧Hid (k≤lead Ka t)) (fun i=>n-(intOf i).toNat)
  case atStart=>exact⟨1,by omega,by omega,rfl,yD.out⟩
  case round =>
   obtain⟨k,hk1,hk,rfl,hle⟩:=hrel;by_cases hlt:k<n
   ·have Nv:=KE.out k hlt;have HC:=QA (XE.out k w)
    have HA:Hid (Z7 (t.getD k 0)=0→wl=k):=fun h=>by
     rw[HW.out];exact Fx hle.out ((E9 _).1 h)
    have HB:Hid (Z7 (t.getD k 0)≠0→k+1≤lead Ka t):=fun h=>J1 hle.out (by rw[Hn.out];exact hlt) (by
     cases hl:Ka (t.getD k 0)
     ·exact absurd ((E9 _).2 hl) h
     ·rfl)
    have hq:Z7 (t.getD k 0)=0∨0<Z7 (t.getD k 0):=by unfold Z7;split <;> (first|omega|(split <;> omega))
    have hlt':(k:Int)<n:=by omega
    clear hle GQ OW DT;generalize t.getD k 0=c at *;generalize Z7 c=q at *;rcases hq with hq|hq
    ·subst hq;have PE:=QA (HA.out rfl);clear HA HB;go_wp2_with (first|(go_at_call 57;refine HC.out.mono ?_;rintro e w' ⟨rfl,rfl⟩))
     go_ret2
     exact⟨by rw[PE.out];rfl,rfl⟩
    ·have QJ:=QA (HB.out (by omega));clear HA HB;go_wp2_with (first|(go_at_call 57;refine HC.out.mono ?_;rintro e w' ⟨rfl,rfl⟩))
     go_round
     case rel=>exact⟨k+1,by omega,by omega,by go_num,QJ.out⟩
     case measure=>simp[intOf];omega
   ·have HE:Hid (wl=k):=by
     show _=_;rw[HW.out];have:=hle.out;have:=NW.out;omega
    have hnl:¬(k:Int)<n:=by omega
    clear hle GQ OW DT;go_wp2
    go_ret2
    exact⟨by rw[HE.out];rfl,rfl⟩
theorem tQ(d:Int):Z7 d=2↔YD d=true:=by
 unfold Z7 YD;by_cases h1:kd d=1
 ·simp[h1]
 ·by_cases h2:kd d=2 <;> simp[h1,h2]
theorem wT(t:List Int)(ht:ZZ t)(h0:0<t.length)(hn:t.length≤100000000)(hc:kd (t.getD 0 0)=2)(K:Int)(hK:(if PA t=0 then 0 else 2)=K)(w:World) :
  Calls prog 32 #[σ (strOfNums t)] w fun e w'=>e=ρ (.tuple #[ι κ K,ι κ (PA t:Int)])∧w=w':=by
 have HK:=QA hK;clear hK;have GQ:=fun W=>Y5 ht h0 W
 have KE:=AK ht;have hsz:(strOfNums t).size=t.length:=strOfNums_size t;have hd:=ht.getD 0;have UH:=QA (Xp (t.getD 0 0) w hd.1 hd.2);have XE:Hid (∀i W,Calls prog 57 #[ι .u8 (t.getD i 0)] W fun e w'=>e=ρ (ι κ (Z7 (t.getD i 0)))∧W=w'):=fun i W=>Xp _ W (ht.getD i).1 (ht.getD i).2
 have hs1:Z7 (t.getD 0 0)=2:=by unfold Z7;rw[if_neg (by omega),if_pos hc]
 have hl0:1≤lead YD t:=by
  have:YD (t.getD 0 0)=true:=by unfold YD;rw[hc];rfl
  exact J1 (Nat.zero_le _) h0 this
 have yD:=QA hl0;have NW:=QA (Kh YD t);have OW:(t.getD 0 0==47)=false:=Qy (fun e=>by rw[e]at hc;exact absurd hc (by decide));have DT:(t.getD 0 0==59)=false:=Qy (fun e=>by rw[e]at hc;exact absurd hc (by decide));rw[hs1]at UH;have FU:Hid (PA t=if 1<lead YD t∧t.getD 0 0=48 then 0 else lead YD t):=rfl;obtain⟨n,hnn⟩:=Mem.ZB (t.length);have Hn:=QA hnn;rw[hnn]at KE hsz h0 hn NW;clear hd hc hs1 hl0 hnn ht;have hpre:(1:Int)<(n:Int)∨¬(1:Int)<(n:Int):=by omega
 have h48:t.getD 0 0=48∨¬t.getD 0 0=48:=by omega
 generalize t.getD 0 0=d at *;generalize PA t=nl at *;obtain⟨s,hs⟩:=Mem.ZB (strOfNums t);rw[hs]at KE hsz GQ⊢;clear hs;rcases hpre with hpre|hpre
 all_goals
  go_enter func32,ntmps32;go_wp2_with (first|(go_at_call 57;refine UH.out.mono ?_;rintro e w' ⟨rfl,rfl⟩))
  go_loop [6] (fun i=>∃k:Nat,1≤k∧k≤n∧i=ι κ k∧Hid (k≤lead YD t)) (fun i=>n-(intOf i).toNat)
  case atStart=>exact⟨1,by omega,by omega,rfl,yD.out⟩
  case round =>
   obtain⟨k,hk1,hk,rfl,hle⟩:=hrel;by_cases hlt:k<n
   ·have Nv:=KE.out k hlt;have HC:=QA (XE.out k w)
    have HA:Hid (Z7 (t.getD k 0)≠2→lead YD t=k):=fun h=>Fx hle.out (by
     cases hl:YD (t.getD k 0)
     ·rfl
     ·exact absurd ((tQ _).2 hl) h)
    have HB:Hid (Z7 (t.getD k 0)=2→k+1≤lead YD t):=fun h=>J1 hle.out (by rw[Hn.out];exact hlt) ((tQ _).1 h)
    have hlt':(k:Int)<n:=by omega
    clear hle OW DT;generalize t.getD k 0=c at *;generalize Z7 c=q at *;by_cases hq:q=2
    ·subst hq;have QJ:=QA (HB.out rfl);clear HA HB GQ;go_wp2_with (first|(go_at_call 57;refine HC.out.mono ?_;rintro e w' ⟨rfl,rfl⟩))
     go_round
     case rel=>exact⟨k+1,by omega,by omega,by go_num,QJ.out⟩
     case measure=>simp[intOf];omega
    ·have PE:=QA (HA.out hq);have bq:=Qy hq;clear HA HB hq;rcases h48 with h48|h48
     ·subst h48;by_cases hk2:1<k
      ·have Dy:(1:Int)<(k:Int):=by omega
       have HR:Hid (nl=0):=by show _=_;rw[FU.out,PE.out,if_pos ⟨hk2,rfl⟩]
       clear hk2;go_wp2_with (first|(go_at_call 57;refine HC.out.mono ?_;rintro e w' ⟨rfl,rfl⟩))
       go_ret2
       exact⟨by rw[←HK.out,HR.out];rfl,rfl⟩
      ·have Dy:decide ((1:Int)<(k:Int))=false:=by rw[decide_eq_false_iff_not];omega
       have PC:=QA hk1;have HR:Hid (nl=k):=by show _=_;rw[FU.out,PE.out,if_neg (by intro e;exact hk2 e.1)]
       go_wp2_with (first|(go_at_call 57;refine HC.out.mono ?_;rintro e w' ⟨rfl,rfl⟩))
       go_ret2
       exact⟨by rw[←HK.out,HR.out,if_neg (by have:=PC.out;omega)];rfl,rfl⟩
     ·have HR:Hid (nl=k):=by
       show _=_;rw[FU.out,PE.out,if_neg (by intro e;exact h48 e.2)]
      have om:=Qy h48;have PC:=QA hk1;go_wp2_with (first|(go_at_call 57;refine HC.out.mono ?_;rintro e w' ⟨rfl,rfl⟩))
      go_ret2
      exact⟨by rw[←HK.out,HR.out,if_neg (by have:=PC.out;omega)];rfl,rfl⟩
   ·have PE:Hid (lead YD t=k):=by
     show _=_;have:=hle.out;have:=NW.out;omega
    have hnl:¬(k:Int)<n:=by omega
    clear hle OW DT;rcases h48 with h48|h48
    ·subst h48;by_cases hk2:1<k
     ·have Dy:(1:Int)<(k:Int):=by omega
      have HR:Hid (nl=0):=by show _=_;rw[FU.out,PE.out,if_pos ⟨hk2,rfl⟩]
      clear hk2;go_wp2
      go_ret2
      exact⟨by rw[←HK.out,HR.out];rfl,rfl⟩
     ·have Dy:decide ((1:Int)<(k:Int))=false:=by rw[decide_eq_false_iff_not];omega
      have PC:=QA hk1;have HR:Hid (nl=k):=by show _=_;rw[FU.out,PE.out,if_neg (by intro e;exact hk2 e.1)]
      go_wp2
      go_ret2
      exact⟨by rw[←HK.out,HR.out,if_neg (by have:=PC.out;omega)];rfl,rfl⟩
    ·have HR:Hid (nl=k):=by
      show _=_;rw[FU.out,PE.out,if_neg (by intro e;exact h48 e.2)]
     have om:=Qy h48;have PC:=QA hk1;go_wp2
     go_ret2
     exact⟨by rw[←HK.out,HR.out,if_neg (by have:=PC.out;omega)];rfl,rfl⟩
theorem Q1h:(∀m∈Vv,m.length=2→m∈Vw)∧(∀m∈Vv,m.length=1→m∈V2)∧(∀m∈Vw,m∈Vv∧m.length=2)∧(∀m∈V2,m∈Vv):=by decide +kernel
theorem Qu4{t:List Int}(h0:0<t.length):Ks t=if 1<t.length∧decide (t.take 2∈Vv)=true then 2 else if decide (t.take 1∈Vv)=true then 1 else 0:=by
 obtain⟨a,b,c,d⟩:=Q1h;unfold Ks;have h1:(t.take 1).length=1:=by rw[List.length_take];omega
 have e1:(t.take 1∈V2)↔decide (t.take 1∈Vv)=true:=by rw[decide_eq_true_iff];exact⟨d _,fun h=>b _ h h1⟩
 have e2:(t.take 2∈Vw)↔(1<t.length∧decide (t.take 2∈Vv)=true):=by
  rw[decide_eq_true_iff]
  constructor
  ·intro h;have:=c _ h;refine⟨?_,this.1⟩;have h2:=this.2;rw[List.length_take]at h2;omega
  ·intro h;exact a _ h.2 (by rw[List.length_take];omega)
 simp only[e1,e2]
theorem Ij:∀(t:List Int),1<t.length→t.take 2=[t.getD 0 0,t.getD 1 0]
 |[],h=>by simp at h
 |[x],h=>by simp at h
 |x::y::r,_=>by simp
theorem Quv(t:List Int)(ht:ZZ t)(h0:0<t.length)(hn:t.length≤100000000)(hc:kd (t.getD 0 0)=4)(hr:t.take 2≠[47,47])(K:Int)(hK:(if Ks t=0 then 0 else 4)=K)(w:World) :
  Calls prog 32 #[σ (strOfNums t)] w fun e w'=>e=ρ (.tuple #[ι κ K,ι κ (Ks t:Int)])∧Below w.heap.size w w':=by
 have HK:=QA hK;clear hK;have GQ:=fun W=>Y5 ht h0 W
 have hsz:(strOfNums t).size=t.length:=strOfNums_size t;have hd:=ht.getD 0;have UH:=QA (fun W=>Xp (t.getD 0 0) W hd.1 hd.2);have hs1:Z7 (t.getD 0 0)=0:=by unfold Z7;rw[if_neg (by omega),if_neg (by omega)]
 rw[hs1]at UH;have DT:(t.getD 0 0==59)=false:=Qy (fun e=>by rw[e]at hc;exact absurd hc (by decide));have jE:(t.getD 0 0==34)=false:=Qy (fun e=>by rw[e]at hc;exact absurd hc (by decide))
 have Oi:∀k,(strOfNums t).extract 0 k=strOfNums (t.take k):=fun k=>by
  have:(strOfNums t).extract 0 k=strOfNums ((nums (strOfNums t)).take k):=by
   rw[←Xo ((strOfNums t).extract 0 k)]
   congr 1
   simp[nums,List.map_take]
  rw[this,Vz (Gy _) ht (Xo _)]
 have HM:Hid (∀k W,Calls prog 58 #[σ ((strOfNums t).extract 0 k)] W fun e w'=>e = ρ (τ (decide (t.take k∈Vv)))∧Below W.heap.size W w'):=fun k W=>by
  rw[Oi];exact Qkw _ (ht.take k) W
 obtain⟨b2,q2⟩:∃b,decide (t.take 2∈Vv)=b:=⟨_,rfl⟩;obtain⟨b1,q1⟩:∃b,decide (t.take 1∈Vv)=b:=⟨_,rfl⟩;have CN:Hid (∀W,Calls prog 58 #[σ ((strOfNums t).extract 0 2)] W fun e w'=>e=ρ (τ b2)∧Below W.heap.size W w'):=fun W=>(HM.out 2 W).mono fun e w' h=>⟨q2 ▸ h.1,h.2⟩
 have MI:Hid (∀W,Calls prog 58 #[σ ((strOfNums t).extract 0 1)] W fun e w'=>e=ρ (τ b1)∧Below W.heap.size W w'):=fun W=>(HM.out 1 W).mono fun e w' h=>⟨q1 ▸ h.1,h.2⟩
 have Du:=Qu4 h0;rw[q2,q1]at Du;have FW:=QA Du;clear q2 q1 Du
 have h47:1<t.length→t.getD 0 0=47→t.getD 1 0≠47:=fun h1 h2 h3=>by
  exact hr (by rw[Ij t h1,h2,h3])
 have Hj:1<t.length→∀W:World,(Instr.index 9 (σ (strOfNums t)) (ι κ 1)).run prog W=.ok (ι .u8 (t.getD 1 0)) W:=fun h1 W=>Jq (P:=prog) 9 underlying9 ht (i:=1) h1 W
 clear Oi HM ht hd hc hs1 hr;generalize Ks t=ml at *;generalize t.getD 0 0=d0 at *;generalize t.getD 1 0=d1 at *;generalize strOfNums t=s at *;generalize t.length=n at *;by_cases hl:1<n
 ·have hl':(1:Int)<(n:Int):=by omega
  have hl2:(2:Int)≤(n:Int):=by omega
  have hi1:=Hj hl;have bo:=QA (h47 hl);clear h47 Hj;have hd0:(d0==47)=false∨(d0=47∧(d1==47)=false):=by
   by_cases h:d0=47
   ·exact .inr ⟨h,Qy (bo.out h)⟩
   ·exact .inl (Qy h)
  have HL:=QA hl;clear bo hl;cases b2 with
  |true =>
   have HR:Hid (ml=2):=by show _=_;rw[FW.out,if_pos ⟨HL.out,rfl⟩]
   clear FW;rcases hd0 with hd0|⟨rfl,hd1⟩
   all_goals
    go_enter func32,ntmps32;go_wp2_with (first|(go_at_call 57;refine(UH.out _).mono ?_;rintro e w' ⟨rfl,rfl⟩)|(go_at_call 58;((with_reducible refine(CN.out _).mono ?_));rintro e w1 ⟨rfl,hb1⟩))
    go_ret2
    exact⟨by rw[←HK.out,HR.out];rfl,hb1⟩
  |false =>
   have HR:Hid (ml=if b1=true then 1 else 0):=by show _=_;rw[FW.out,if_neg (by intro e;cases e.2)]
   clear FW;cases b1 with
   |true =>
    rcases hd0 with hd0|⟨rfl,hd1⟩
    all_goals
     go_enter func32,ntmps32;go_wp2_with (first|(go_at_call 57;refine(UH.out _).mono ?_;rintro e w' ⟨rfl,rfl⟩)|(go_at_call 58;((with_reducible refine(CN.out _).mono ?_));rintro e w1 ⟨rfl,hb1⟩)|(go_at_call 58;((with_reducible refine(MI.out _).mono ?_));rintro e w2 ⟨rfl,hb2⟩))
     go_ret2
     exact⟨by rw[←HK.out,HR.out];rfl,hb1.trans (hb2.mono hb1.size)⟩
   |false =>
    rcases hd0 with hd0|⟨rfl,hd1⟩
    all_goals
     go_enter func32,ntmps32;go_wp2_with (first|(go_at_call 57;refine(UH.out _).mono ?_;rintro e w' ⟨rfl,rfl⟩)|(go_at_call 58;((with_reducible refine(CN.out _).mono ?_));rintro e w1 ⟨rfl,hb1⟩)|(go_at_call 58;((with_reducible refine(MI.out _).mono ?_));rintro e w2 ⟨rfl,hb2⟩))
     go_ret2
     exact⟨by rw[←HK.out,HR.out];rfl,hb1.trans (hb2.mono hb1.size)⟩
 ·obtain rfl:n=1:=by omega
  have HR:Hid (ml=if b1=true then 1 else 0):=by show _=_;rw[FW.out,if_neg (by intro e;omega)]
  clear FW h47 Hj hl;cases b1 with
  |true =>
   go_enter func32,ntmps32;go_wp2_with (first|(go_at_call 57;refine(UH.out _).mono ?_;rintro e w' ⟨rfl,rfl⟩)|(go_at_call 58;((with_reducible refine(MI.out _).mono ?_));rintro e w2 ⟨rfl,hb2⟩))
   go_ret2
   exact⟨by rw[←HK.out,HR.out];rfl,hb2⟩
  |false =>
   go_enter func32,ntmps32;go_wp2_with (first|(go_at_call 57;refine(UH.out _).mono ?_;rintro e w' ⟨rfl,rfl⟩)|(go_at_call 58;((with_reducible refine(MI.out _).mono ?_));rintro e w2 ⟨rfl,hb2⟩))
   go_ret2
   exact⟨by rw[←HK.out,HR.out];rfl,hb2⟩
theorem Qpl(c:Int)(r:List Int):Vy (c::r)=if c=34 then 1 else if c=10 then 0 else if c=92 then(match r with
  |[]=>0
  |d::r'=>if d=10 then 0 else if Vy r'=0 then 0 else Vy r'+2)else if Vy r=0 then 0 else Vy r+1:=by
 conv=>lhs;unfold Vy
 rfl
theorem xy{t:List Int}{k:Nat}(h:k<t.length):t.drop k=t.getD k 0::t.drop (k+1):=by
 rw[List.drop_eq_getElem_cons h];simp[List.getD,List.getElem?_eq_getElem h]
def QI(t:List Int)(k:Nat):Prop:=Yt t=if Vy (t.drop k)=0 then 0 else Vy (t.drop k)+k
theorem Quc:∀{t:List Int},0<t.length→QI t 1
 |[],h=>by simp at h
 |c::r,_=>by simp[QI,Yt]
theorem Q05{t:List Int}{k:Nat}(h:QI t k)(hk:t.length≤k):Yt t=0:=by
 rw[h,List.drop_eq_nil_of_le hk];rfl
theorem wA{t:List Int}{k:Nat}(h:QI t k)(hk:k<t.length) :
  (t.getD k 0=34→Yt t=k+1)∧(t.getD k 0=10→Yt t=0)∧
  (t.getD k 0=92→k+1<t.length→t.getD (k+1) 0≠10→QI t (k+2))∧
  (t.getD k 0=92→k+1<t.length→t.getD (k+1) 0=10→QI t (k+1))∧
  (t.getD k 0=92→¬k+1<t.length→QI t (k+1))∧
  (t.getD k 0≠34→t.getD k 0≠92→t.getD k 0≠10→QI t (k+1)):=by
 unfold QI at *;rw[xy hk,Qpl]at h;refine⟨fun e=>?_,fun e=>?_,fun e h1 h2=>?_,fun e h1 h2=>?_,fun e h1=>?_,fun e1 e2 e3=>?_⟩
 ·rw[h,if_pos e,if_neg (by omega)];omega
 ·rw[h,e];simp
 ·rw[h,e,xy h1];generalize t.getD (k+1) 0=d at h2⊢
  have hS:∀S:Nat,(if(if d=10 then 0 else if S=0 then 0 else S+2)=0 then 0 else(if d=10 then 0 else if S=0 then 0 else S+2)+k)=if S=0 then 0 else S+(k+2):=fun S=>by
   rw[if_neg h2];by_cases h0:S=0
   ·simp[h0]
   ·rw[if_neg h0,if_neg (by omega),if_neg h0];omega
  exact hS (Vy (t.drop (k+2)))
 ·rw[h,e,xy h1,h2,tF];simp
 ·rw[h,e,List.drop_eq_nil_of_le (by omega)];simp[Vy]
 ·rw[h,if_neg e1,if_neg e3,if_neg e2];by_cases h0:Vy (t.drop (k+1))=0
  ·simp[h0]
  ·simp[h0];omega
theorem aQ(t:List Int)(ht:ZZ t)(h0:0<t.length)(hn:t.length≤100000000)(hc:t.getD 0 0=34)(K:Int)(hK:(if Yt t=0 then 0 else 3)=K)(w:World) :
  Calls prog 32 #[σ (strOfNums t)] w fun e w'=>e=ρ (.tuple #[ι κ K,ι κ (Yt t:Int)])∧w=w':=by
 have HK:=QA hK;clear hK;have GQ:=fun W=>Y5 ht h0 W
 have KE:=AK ht;have hsz:(strOfNums t).size=t.length:=strOfNums_size t;have UH:=QA (Xp 34 w (by omega) (by omega));have hs1:Z7 34=0:=by decide
 rw[hs1]at UH;rw[hc]at GQ;have HQ0:=QA (Quc h0);have HST:Hid (∀k,QI t k→k<t.length→_):=fun k a b=>wA a b
 have Wt:Hid (∀k,QI t k→t.length≤k→Yt t=0):=fun k a b=>Q05 a b
 obtain⟨n,hnn⟩:=Mem.ZB (t.length);rw[hnn]at KE hsz h0 hn HST Wt;clear hc hs1 hnn ht;have hpre:(1:Int)<(n:Int)∨¬(1:Int)<(n:Int):=by omega
 obtain⟨s,hs⟩:=Mem.ZB (strOfNums t);rw[hs]at KE hsz GQ⊢;generalize Yt t=Q at *;clear hs;rcases hpre with hpre|hpre
 all_goals
  go_enter func32,ntmps32;go_wp2_with (first|(go_at_call 57;refine UH.out.mono ?_;rintro e w' ⟨rfl,rfl⟩))
  go_loop [7] (fun i=>∃k:Nat,1≤k∧k≤n∧i=ι κ k∧Hid (QI t k)) (fun i=>n-(intOf i).toNat)
  case atStart=>exact⟨1,by omega,by omega,rfl,HQ0.out⟩
  case round =>
   obtain⟨k,hk1,hk,rfl,uq⟩:=hrel;by_cases hlt:k<n
   ·have Nv:=KE.out k hlt;have hnx:=KE.out (k+1);obtain⟨De,GH,PI,PH,PG,Dd⟩:=HST.out k uq.out hlt;have hlt':(k:Int)<n:=by omega
    clear GQ;generalize t.getD k 0=c at *;generalize t.getD (k+1) 0=d at *;by_cases h10:c=10
    ·have HR:=QA (GH h10);subst h10;clear De GH PI PH PG Dd hnx;go_wp2
     go_ret2
     exact⟨by rw[←HK.out,HR.out];rfl,rfl⟩
    by_cases MW:c=34
    ·have HR:=QA (De MW);subst MW;clear De GH PI PH PG Dd hnx h10;go_wp2
     go_ret2
     exact⟨by rw[←HK.out,HR.out,if_neg (by omega)];rfl,rfl⟩
    have jE:(c==34)=false:=Qy MW;have n10:(c != 10)=true:=by rw[bne_iff_ne];exact h10
    by_cases Mr:c=92
    ·by_cases h1:k+1<n
     ·have hx1:=hnx h1;rw[show((k+1:Nat):Int)=(k:Int)+1 from by omega]at hx1;have h1':(k:Int)+1<(n:Int):=by omega
      by_cases hd:d=10
      ·have HR:=QA (PH Mr h1 hd);subst hd;subst Mr;clear De GH PI PH PG Dd hnx h10 MW;go_wp2
       go_round
       case rel=>exact⟨k+1,by omega,by omega,by go_num,HR.out⟩
       case measure=>simp[intOf];omega
      ·have HR:=QA (PI Mr h1 hd);have nd:(d != 10)=true:=by rw[bne_iff_ne];exact hd
       subst Mr;clear De GH PI PH PG Dd hnx h10 MW hd;go_wp2
       go_round
       case rel=>exact⟨k+2,by omega,by omega,by go_num,HR.out⟩
       case measure=>simp[intOf];omega
     ·have HR:=QA (PG Mr h1);have h1':¬(k:Int)+1<(n:Int):=by omega
      subst Mr;clear De GH PI PH PG Dd hnx h10 MW;go_wp2
      go_round
      case rel=>exact⟨k+1,by omega,by omega,by go_num,HR.out⟩
      case measure=>simp[intOf];omega
    ·have HR:=QA (Dd MW Mr h10);have oh:(c==92)=false:=Qy Mr;clear De GH PI PH PG Dd hnx h10 MW Mr;go_wp2
     go_round
     case rel=>exact⟨k+1,by omega,by omega,by go_num,HR.out⟩
     case measure=>simp[intOf];omega
   ·have HR:=QA (Wt.out k uq.out (by omega));have hnl:¬(k:Int)<n:=by omega
    clear GQ;go_wp2
    go_ret2
    exact⟨by rw[←HK.out,HR.out];rfl,rfl⟩
def Tc(c:Int):Bool:=c != 10
theorem nK:∀{t:List Int},t.take 2=[47,47]→1<t.length∧t.getD 0 0=47∧t.getD 1 0=47∧2≤lead Tc t
 |[],h=>by simp at h
 |[x],h=>by simp at h
 |x::y::r,h=>by
  simp only[List.take_succ_cons,List.take_zero,List.cons.injEq,and_true]at h;obtain⟨rfl,rfl⟩:=h;refine⟨by simp,by simp,by simp,?_⟩;simp[lead,Tc]
theorem Qt2{t:List Int}{L e:Nat}(hL:Zy t=L)(h1:t.getD 1 0=47)(he:2≤e)(hl:e≤L)(h:∀i,e≤i→i<L→blk (t.getD i 0)=true) :
  (blk (t.getD (e-1) 0)=true→3≤e∧∀i,e-1≤i→i<L→blk (t.getD i 0)=true)∧(blk (t.getD (e-1) 0)=false→X3 t=e):=by
 have hlen:L≤t.length:=by rw[←hL];exact Kh _ _
 constructor
 ·intro hb;refine⟨?_,fun i h2 h3=>?_⟩
  ·rcases Nat.lt_or_ge 2 e with h' |h'
   ·exact h'
   ·obtain rfl:e=2:=by omega
    rw[show 2-1=1 from rfl,h1]at hb;exact absurd hb (by decide)
  ·by_cases hi:i=e-1
   ·rw[hi];exact hb
   ·exact h i (by omega) h3
 ·intro hb;unfold X3;rw[hL];have hlt:(t.take L).length=L:=by rw[List.length_take];omega
  refine tI (t.take L) e (by omega) (fun _=>?_) (fun i h2 h3=>?_)
  ·rw[getD_take (by omega)];exact hb
  ·rw[getD_take (by omega)];exact h i h2 (by omega)
theorem aR(t:List Int)(ht:ZZ t)(hn:t.length≤100000000)(hc:t.take 2=[47,47])(w:World) :
  Calls prog 32 #[σ (strOfNums t)] w fun e w'=>e=ρ (.tuple #[ι κ 5,ι κ (X3 t:Int)])∧w=w':=by
 obtain⟨h1,c0,c1,hl2⟩:=nK hc;have GQ:=fun W=>Y5 ht (by omega) W
 have Hj:∀W:World,(Instr.index 9 (σ (strOfNums t)) (ι κ 1)).run prog W=.ok (ι .u8 (t.getD 1 0)) W:=fun W=>Jq (P:=prog) 9 underlying9 ht (i:=1) h1 W
 have KE:=AK ht;have hsz:(strOfNums t).size=t.length:=strOfNums_size t;rw[c0]at GQ;rw[c1]at Hj;have HB:Hid (∀c W,Calls prog 31 #[ι .u8 c] W fun e w'=>e=ρ (τ (blk c))∧W=w'):=tY;have Wh:Hid (∀L e,Zy t=L→2≤e→e≤L→(∀i,e≤i→i<L→blk (t.getD i 0)=true)→_):=fun L e a b c d=>Qt2 a c1 b c d
 have MJ:Hid (∀k,k≤lead Tc t→k<t.length→t.getD k 0≠10→k+1≤lead Tc t):=fun k a b c=>J1 (p:=Tc) a b (by unfold Tc;rw[bne_iff_ne];exact c)
 have HLA:Hid (∀k,k≤lead Tc t→t.getD k 0=10→Zy t=k):=fun k a c=>Fx (p:=Tc) a (by unfold Tc;rw[c];rfl)
 have NW:Hid (∀k,k≤lead Tc t→t.length≤k→Zy t=k):=fun k a c=>qZ (p:=Tc) a c
 have zO:=QA hl2;have yo:Hid (∀k,Zy t=k→k≤t.length):=fun k a=>by rw[←a];exact Kh _ _
 obtain⟨n,hnn⟩:=Mem.ZB (t.length);rw[hnn]at KE hsz h1 hn MJ NW yo;obtain⟨s,hs⟩:=Mem.ZB (strOfNums t);rw[hs]at KE hsz GQ Hj⊢;have h1':(1:Int)<(n:Int):=by omega
 generalize X3 t=R at *;clear hs hnn ht hc c0 c1 hl2;go_enter func32,ntmps32;go_wp2
 go_loop [4] (fun i=>∃k:Nat,2≤k∧k≤n∧i=ι κ k∧Hid (k≤lead Tc t)) (fun i=>n-(intOf i).toNat)
 case atStart=>exact⟨2,by omega,by omega,rfl,zO.out⟩
 case round =>
  obtain⟨k,hk1,hk,rfl,hle⟩:=hrel;have hq:(k<n∧t.getD k 0≠10)∨(k<n∧t.getD k 0=10)∨¬k<n:=by omega
  rcases hq with⟨hlt,hd⟩|⟨hlt,hd⟩|hlt
  ·have Nv:=KE.out k hlt;have HX:=QA (MJ.out k hle.out hlt hd);have nd:(t.getD k 0 != 10)=true:=by rw[bne_iff_ne];exact hd
   have hlt':(k:Int)<n:=by omega
   clear GQ Hj hle;generalize t.getD k 0=c at *;clear hd;go_wp2
   go_round
   case rel=>exact⟨k+1,by omega,by omega,by go_num,HX.out⟩
   case measure=>simp[intOf];omega
  case' inr.inl=>have Nv:=KE.out k hlt;rw[hd]at Nv;have hlk:=HLA.out k hle.out hd;have hlt':(k:Int)<n:=by omega
  case' inr.inr=>have hlk:=NW.out k hle.out (by omega);have hlt':¬(k:Int)<n:=by omega
  all_goals
   have HK:=QA hlk;clear GQ Hj hle hlk;go_wp2
   go_loop [4] (fun i=>∃e:Nat,2≤e∧e≤k∧i=ι κ e∧Hid (∀i,e≤i→i<k→blk (t.getD i 0)=true)) (fun i=>(intOf i).toNat)
   case atStart=>exact⟨k,by omega,by omega,rfl,fun i a b=>absurd a (by omega)⟩
   case round =>
    obtain⟨e,uL,he,rfl,hall⟩:=hrel;obtain⟨A1,A2⟩:=Wh.out k e HK.out uL he hall.out;obtain⟨f,rfl⟩:∃f,e=f+1:=⟨e-1,by omega⟩;rw[show f+1-1=f from rfl]at A1 A2;have hxf:=KE.out f (by omega);have HC:=QA (HB.out (t.getD f 0) w);have PE:=QA A1;have zU:=QA A2;clear A1 A2 hall;obtain⟨b,hb⟩:=Mem.ZB (blk (t.getD f 0));rw[hb]at HC PE zU;clear hb;generalize t.getD f 0=c at *;cases b with
    |true =>
     obtain⟨q1,q2⟩:=PE.out rfl;have HQ:=QA q2;clear PE zU q2;go_wp2_with (first|(go_at_call 31;refine HC.out.mono ?_;rintro e w' ⟨rfl,rfl⟩))
     go_round
     case rel=>exact⟨f,by omega,by omega,by go_num,HQ.out⟩
     case measure=>simp[intOf]
    |false =>
     have HR:=QA (zU.out rfl);clear PE zU;go_wp2_with (first|(go_at_call 31;refine HC.out.mono ?_;rintro e w' ⟨rfl,rfl⟩))
     go_ret2
     exact⟨by rw[HR.out];rfl,rfl⟩
theorem G9{w w':World}(h:w=w'):Below w.heap.size w w':=h ▸ Below.refl _ _
theorem wS:∀(t:List Int)(ht:ZZ t)(h0:0<t.length)(hn:t.length≤100000000)(h7:blk (t.getD 0 0)=false)(h8:t.getD 0 0≠10)(K:Int)(hK:(if(piece t).2=0 then 0 else(piece t).1)=K)(w:World),
  Calls prog 32 #[σ (strOfNums t)] w fun e w'=>e=ρ (.tuple #[ι κ K,ι κ ((piece t).2:Int)])∧Below w.heap.size w w'
 |[],_,h0,_,_,_,_,_,_=>absurd h0 (by simp)
 |c::r,ht,h0,hn,h7,h8,K,hK,w=>by
  have hg:(c::r).getD 0 0=c:=rfl;rw[hg]at h7 h8
  have a7:kd c≠7:=fun e=>by
   unfold blk at h7;rw[e]at h7;cases h7
  have a8:kd c≠8:=fun e=>h8 (jL.1 e)
  rw[Z9]at hK⊢;by_cases k1:kd c=1
  ·rw[if_pos k1]at hK⊢;have hw:K8 (c::r)≠0:=by
    have:1≤lead Ka (c::r):=J1 (Nat.zero_le _) h0 (by rw[hg];unfold Ka;rw[k1];rfl);unfold K8;omega
   have hK':1=K:=by rw[←hK];exact(if_neg hw).symm
   subst hK';exact(aO (c::r) ht h0 hn k1 w).mono fun e w' h=>⟨h.1,G9 h.2⟩
  rw[if_neg k1]at hK⊢;by_cases k2:kd c=2
  ·rw[if_pos k2]at hK⊢;exact(wT (c::r) ht h0 hn k2 K hK w).mono fun e w' h=>⟨h.1,G9 h.2⟩
  rw[if_neg k2]at hK⊢;by_cases k3:kd c=3
  ·rw[if_pos k3]at hK⊢;exact(aQ (c::r) ht h0 hn (lR.1 k3) K hK w).mono fun e w' h=>⟨h.1,G9 h.2⟩
  rw[if_neg k3]at hK⊢;by_cases k4:kd c=4
  ·rw[if_pos k4]at hK⊢;by_cases hr:(c::r).take 2=[47,47]
   ·rw[if_pos hr]at hK⊢;have hl:X3 (c::r)≠0:=by
     intro e;have h2:=nK hr;have hle:2≤Zy (c::r):=h2.2.2.2;have hb:=Yz ((c::r).take (Zy (c::r))) 0 (by unfold X3 at e;omega) (by rw[List.length_take];have:=h2.1;omega);rw[getD_take (by omega),h2.2.1]at hb;exact absurd hb (by decide)
    have hK':5=K:=by rw[←hK];exact(if_neg hl).symm
    subst hK';exact(aR (c::r) ht hn hr w).mono fun e w' h=>⟨h.1,G9 h.2⟩
   ·rw[if_neg hr]at hK⊢;exact Quv (c::r) ht h0 hn k4 hr K hK w
  rw[if_neg k4]at hK⊢;have k6:kd c=6:=by have:=qY c;omega
  have hK':6=K:=by rw[←hK,k6];rfl
  subst hK';exact(Quu (c::r) ht h0 (kU.1 k6) w).mono fun e w' h=>⟨h.1,G9 h.2⟩
end Lex
namespace Lex
def begins(P:List (Tok×Nat))(ln:Nat):Bool :=
 match P.getLast? with
 |none=>true
 |some x=>decide (x.2<ln)
theorem cm(P:List (Tok×Nat))(x:Tok×Nat)(ln:Nat):begins (P++[x]) ln=decide (x.2<ln):=by
 simp[begins]
theorem Qrf{P:List (Tok×Nat)}{ln m:Nat}(h:P.length=m+1):begins P ln=decide (((P.getD m (⟨0,[],0,false⟩,0)).2:Nat)<ln):=by
 unfold begins;rw[List.getLast?_eq_getElem?,show P.length-1=m from by omega];simp[List.getD,List.getElem?_eq_getElem (show m<P.length by omega)]
def RN(xs:List Int)(n k:Nat)(P:List (Tok×Nat))(ln:Nat):Prop :=
 (∃fl,n-k≤fl∧P++plain (YM fl (xs.drop k)).1 k ln (begins P ln)=plain (pieces xs) 0 0 true∧(YM fl (xs.drop k)).2=left xs)∧P.length≤k∧ln≤k∧(∀x∈P,x.2≤ln)∧xs.length=n
theorem Qqk{xs:List Int}{n:Nat}(hn:xs.length=n):RN xs n 0 [] 0 :=
 ⟨⟨xs.length,by omega,by rw[List.drop_zero];rfl,by rw[List.drop_zero];rfl⟩,Nat.le_refl _,Nat.le_refl _,(fun x h=>by cases h),hn⟩
theorem xm{xs:List Int}{n k:Nat}{P:List (Tok×Nat)}{ln:Nat}(h:RN xs n k P ln)(hk:k<n){K:Int}{m:Nat}(hp:piece (xs.drop k)=(K,m))(hm:m≠0) :
  k+m≤n∧((xs.drop k).take m).length=m∧∃fl,n-(k+m)≤fl∧P++plain ((K,(xs.drop k).take m)::(YM fl (xs.drop (k+m))).1) k ln (begins P ln)=plain (pieces xs) 0 0 true∧(YM fl (xs.drop (k+m))).2=left xs:=by
 obtain⟨⟨fl,h1,h2,h3⟩,_,_,_,hn⟩:=h;have hle:=zh (xs.drop k);rw[hp,List.length_drop,hn]at hle;have fW:m≤n-k:=hle;refine⟨by omega,by rw[List.length_take,List.length_drop];omega,?_⟩;obtain⟨f,rfl⟩:∃f,fl=f+1:=⟨fl-1,by omega⟩;have e:YM (f+1) (xs.drop k)=((K,(xs.drop k).take m)::(YM f (xs.drop (k+m))).1,(YM f (xs.drop (k+m))).2):=by
  conv=>lhs;unfold YM
  rw[hp,if_neg (by exact hm)];simp only[List.drop_drop]
 rw[e]at h2 h3;exact⟨f,by omega,h2,h3⟩
theorem xk{xs:List Int}{k:Nat}(hk:k<xs.length):xs.drop k=xs.getD k 0::xs.drop (k+1):=by
 rw[List.drop_eq_getElem_cons hk];simp[List.getD,List.getElem?_eq_getElem hk]
theorem Q1j{xs:List Int}{n k:Nat}{P:List (Tok×Nat)}{ln:Nat}(h:RN xs n k P ln)(hk:k<n)(hd:xs.getD k 0=10):RN xs n (k+1) P (ln+1):=by
 have hn:=h.2.2.2.2;have hp:piece (xs.drop k)=(8,1):=by rw[xk (by omega),hd,tq]
 obtain⟨_,hl,fl,h1,h2,h3⟩:=xm h hk hp (by omega);have hb:begins P (ln+1)=true:=by
  rcases List.eq_nil_or_concat P with rfl|⟨Q,x,rfl⟩
  ·rfl
  ·rw[List.concat_eq_append,cm];have:=h.2.2.2.1 x (by simp);simp;omega
 refine⟨⟨fl,h1,?_,h3⟩,by have:=h.2.1;omega,by have:=h.2.2.1;omega,fun x hx=>by have:=h.2.2.2.1 x hx;omega,hn⟩;rw[hb];simpa[plain,hl]using h2
theorem aw{xs:List Int}{n k:Nat}{P:List (Tok×Nat)}{ln:Nat}(h:RN xs n k P ln)(hk:k<n)(hd:blk (xs.getD k 0)=true):RN xs n (k+1) P ln:=by
 have hn:=h.2.2.2.2;have hp:piece (xs.drop k)=(7,1):=by rw[xk (by omega),cn _ hd]
 obtain⟨_,hl,fl,h1,h2,h3⟩:=xm h hk hp (by omega);refine⟨⟨fl,h1,?_,h3⟩,by have:=h.2.1;omega,by have:=h.2.2.1;omega,h.2.2.2.1,hn⟩;simpa[plain,hl]using h2
theorem Qqx{xs:List Int}{k:Nat}(hk:k<xs.length)(h7:blk (xs.getD k 0)=false)(h8:xs.getD k 0≠10):(piece (xs.drop k)).1≠7∧(piece (xs.drop k)).1≠8:=by
 rw[xk hk,Z9]
 have a7:kd (xs.getD k 0)≠7:=fun e=>by
  unfold blk at h7;rw[e]at h7;cases h7
 have a8:kd (xs.getD k 0)≠8:=fun e=>h8 (jL.1 e)
 repeat' split
 all_goals first
  |exact⟨a7,a8⟩
  |exact⟨by simp,by simp⟩
theorem ax{xs:List Int}{n k:Nat}{P:List (Tok×Nat)}{ln:Nat}(h:RN xs n k P ln)(hk:k<n)(h7:blk (xs.getD k 0)=false)(h8:xs.getD k 0≠10){K:Int}{m:Nat}(hp:piece (xs.drop k)=(K,m))(hm:m≠0) :
  k+m≤n∧RN xs n (k+m) (P++[(⟨K,(xs.drop k).take m,k,begins P ln⟩,ln)]) ln:=by
 have hn:=h.2.2.2.2;have hK:=Qqx (xs:=xs) (k:=k) (by omega) h7 h8;rw[hp]at hK;obtain⟨uB,hl,fl,h1,h2,h3⟩:=xm h hk hp hm;refine⟨uB,⟨fl,h1,?_,h3⟩,by have:=h.2.1;simp;omega,by have:=h.2.2.1;omega,fun x hx=>?_,hn⟩
 ·rw[cm,show decide (ln<ln)=false from by simp];have e8:K≠8:=hK.2;have e7:K≠7:=hK.1;simpa[plain,hl,e8,e7]using h2
 ·rcases List.mem_append.1 hx with hx|hx
  ·exact h.2.2.2.1 x hx
  ·simp at hx;subst hx;exact Nat.le_refl _
theorem Qu2{xs:List Int}{n k:Nat}{P:List (Tok×Nat)}{ln:Nat}(h:RN xs n k P ln)(hk:k<n)(hp:(piece (xs.drop k)).2=0):left xs≠[]∧n-(left xs).length=k:=by
 obtain⟨⟨fl,h1,h2,h3⟩,_,_,_,hn⟩:=h;obtain⟨f,rfl⟩:∃f,fl=f+1:=⟨fl-1,by omega⟩;have e:YM (f+1) (xs.drop k)=([],xs.drop k):=by unfold YM;rw[if_pos hp]
 rw[e]at h3;have hl:(left xs).length=n-k:=by rw[←h3];simp[hn]
 exact⟨fun e=>by rw[e]at hl;simp at hl;omega,by omega⟩
theorem aZ:∀f,YM f []=([],[])
 |0=>rfl
 |_+1=>rfl
theorem Mb{xs:List Int}{n k:Nat}{P:List (Tok×Nat)}{ln:Nat}(h:RN xs n k P ln)(hk:n≤k):left xs=[]∧P=plain (pieces xs) 0 0 true:=by
 obtain⟨⟨fl,h1,h2,h3⟩,_,_,_,hn⟩:=h;rw[List.drop_eq_nil_of_le (by omega),aZ]at h2 h3;exact⟨h3.symm,by simpa[plain]using h2⟩
theorem mH:∀(ps:List (Int×List Int))(n ln:Nat)(f:Bool)(x:Tok×Nat),x∈plain ps n ln f→x.1.place+x.1.text.length≤n+(cat ps).length∧∀y∈x.1.text,y∈cat ps
 |[],_,_,_,_,h=>by cases h
 |(k,t)::ps,n,ln,f,x,h=>by
  have key:∀(ua:Nat)(f':Bool),x∈plain ps (n+t.length) ua f'→x.1.place+x.1.text.length≤n+(cat ((k,t)::ps)).length∧∀y∈x.1.text,y∈cat ((k,t)::ps):=fun ua f' hx=>by
   have:=mH ps _ _ _ x hx;refine⟨by simp only[cat,List.length_append];omega,fun y hy=>?_⟩;simp only[cat,List.mem_append];exact .inr (this.2 y hy)
  unfold plain at h;split at h
  ·exact key _ _ h
  split at h
  ·exact key _ _ h
  ·rcases List.mem_cons.1 h with h|h
   ·subst h;refine⟨by simp only[cat,List.length_append];omega,fun y hy=>?_⟩;simp only[cat,List.mem_append];exact .inl hy
   ·exact key _ _ h
def BW(P:List (Tok×Nat))(i:Nat)(out:List Tok):Prop:=out++SB (P.drop i)=SB P∧out.length≤2*i
theorem Qp9(P:List (Tok×Nat)):BW P 0 []:=⟨by simp,Nat.le_refl _⟩
theorem aW{P:List (Tok×Nat)}{i:Nat}{out:List Tok}(h:BW P i out)(hi:P.length≤i):out=SB P:=by
 have:=h.1;rw[List.drop_eq_nil_of_le hi]at this;simpa[SB]using this
theorem Qus{P:List (Tok×Nat)}{i:Nat}{out:List Tok}(h:BW P i out){t:Tok}{ln:Nat}(hx:P[i]?=some (t,ln)) :
  (Xt ln (P.drop (i+1))=true→closes t.kind t.text=true→BW P (i+1) (out++[t]++[⟨6,[],t.place+t.text.length,false⟩]))∧
  ((Xt ln (P.drop (i+1))=false∨closes t.kind t.text=false)→BW P (i+1) (out++[t])):=by
 have hi:i<P.length:=by
  rcases Nat.lt_or_ge i P.length with h' |h'
  ·exact h'
  ·rw[List.getElem?_eq_none h']at hx;cases hx
 have he:P[i]=(t,ln):=by rw[List.getElem?_eq_getElem hi]at hx;exact Option.some.inj hx
 have hd:P.drop i=(t,ln)::P.drop (i+1):=by rw[List.drop_eq_getElem_cons hi,he]
 obtain⟨h1,h2⟩:=h;rw[hd]at h1;refine⟨fun a b=>⟨?_,by simp;omega⟩,fun a=>⟨?_,by simp;omega⟩⟩
 ·rw[←h1];simp[SB,a,b]
 ·rw[←h1];rcases a with a|a <;> simp[SB,a]
theorem nD{P:List (Tok×Nat)}{ln j:Nat}{b:Bool}(h:Xt ln (P.drop j)=b){u:Tok}{m:Nat}(hx:P[j]?=some (u,m)) :
  (u.kind=5→m=ln→Xt ln (P.drop (j+1))=b)∧((u.kind≠5∨m≠ln)→b=decide (ln<m)):=by
 have hj:j<P.length:=by
  rcases Nat.lt_or_ge j P.length with h' |h'
  ·exact h'
  ·rw[List.getElem?_eq_none h']at hx;cases hx
 have he:P[j]=(u,m):=by rw[List.getElem?_eq_getElem hj]at hx;exact Option.some.inj hx
 have hd:P.drop j=(u,m)::P.drop (j+1):=by rw[List.drop_eq_getElem_cons hj,he]
 rw[hd]at h;unfold Xt at h;refine⟨fun a c=>?_,fun a=>?_⟩
 ·rw[if_pos ⟨a,c⟩]at h;exact h
 ·rw[if_neg (by intro⟨c,d⟩;rcases a with a|a <;> contradiction)]at h;exact h.symm
theorem xx{P:List (Tok×Nat)}{ln j:Nat}{b:Bool}(h:Xt ln (P.drop j)=b)(hj:P.length≤j):b=true:=by
 rw[List.drop_eq_nil_of_le hj]at h;exact h.symm
theorem Qm6{P:List (Tok×Nat)}{l0 j m:Nat}{ov:Bool}(hm:P.length=m)(h:Xt l0 (P.drop j)=ov) :
  (∃u l,j<m∧P[j]?=some (u,l)∧u.kind=5∧l=l0)∨
  (ov=true∧((∃u l,j<m∧P[j]?=some (u,l)∧u.kind=5∧l≠l0∧l0<l)∨(∃u l,j<m∧P[j]?=some (u,l)∧u.kind≠5∧l0<l)∨m≤j))∨
  (ov=false∧((∃u l,j<m∧P[j]?=some (u,l)∧u.kind=5∧l≠l0∧l≤l0)∨(∃u l,j<m∧P[j]?=some (u,l)∧u.kind≠5∧l≤l0))):=by
 rcases Nat.lt_or_ge j m with hj|hj
 ·have ib:j<P.length:=by omega
  obtain⟨u,l,hx⟩:∃u l,P[j]?=some (u,l):=⟨P[j].1,P[j].2,List.getElem?_eq_getElem ib⟩;obtain⟨s1,s2⟩:=nD h hx;by_cases h5:u.kind=5
  ·by_cases hl:l=l0
   ·exact .inl ⟨u,l,hj,hx,h5,hl⟩
   ·have hb:=s2 (.inr hl);by_cases hlt:l0<l
    ·exact .inr (.inl ⟨by rw[hb];simp[hlt],.inl ⟨u,l,hj,hx,h5,hl,hlt⟩⟩)
    ·exact .inr (.inr ⟨by rw[hb];simp[hlt],.inl ⟨u,l,hj,hx,h5,hl,by omega⟩⟩)
  ·have hb:=s2 (.inl h5);by_cases hlt:l0<l
   ·exact .inr (.inl ⟨by rw[hb];simp[hlt],.inr (.inl ⟨u,l,hj,hx,h5,hlt⟩)⟩)
   ·exact .inr (.inr ⟨by rw[hb];simp[hlt],.inr ⟨u,l,hj,hx,h5,by omega⟩⟩)
 ·exact .inr (.inl ⟨xx h (by omega),.inr (.inr hj)⟩)
