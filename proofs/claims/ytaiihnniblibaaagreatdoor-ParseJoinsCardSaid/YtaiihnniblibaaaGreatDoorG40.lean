import Derived.Test.YtaiihnniblibaaaGreatDoorG36
set_option maxHeartbeats 8000000
set_option maxRecDepth 100000
set_option linter.unusedVariables false
open Go.Proofs.Tryz Go.ChangeShapes Go.WideShapes Go.ChangeAt Go.RowKit
open Go.Lib renaming hid→QA
open Go.RowKit.Below renaming refl→QF
open _root_.List renaming setIfInBounds_toArray→VG,set_cons_succ→VF,set_cons_zero→VE,length_cons→VX
open Go.Value renaming string→σ,int→ι,slice→ς,pointer→π,bool→τ,agg→ξ
open Go.IntKind renaming i64→κ
open Go.Ending renaming returned→ρ
namespace Go.Proofs.YtaiihnniblibaaaGreatDoor
namespace Tree
open Mem
def Zb:F→List Int→Bool→Bool
  | .nil,sg,more=>sg.isEmpty||(more&&sg.tail.isEmpty)
  | .cons k x _ _ r,sg,more=>match sg with
    |[]=>false
    |s::ss=>Qj s k x&&Zb r (if more&&ss.isEmpty then[s]else ss) more
def Cy(sg:List Int)(more:Bool)(n:Nat):Bool:=if more then decide (sg.length≤n+1)else decide (sg.length=n)
theorem sU:∀(f:F)(sg:List Int)(more:Bool),sg≠[]∨more=false→Cy sg more f.len=false→Zb f sg more=false
  | .nil,sg,more,h0,h=>by
    unfold Cy at h;cases more with
    |true =>
     simp only[if_true,F.len]at h
     match sg,h with
     |[],h=>simp at h
     |[s],h=>simp at h
     |s::t::r,h=>rfl
    |false =>
     simp only[Bool.false_eq_true,if_false,F.len]at h
     match sg,h with
     |[],h=>simp at h
     |s::r,h=>rfl
  | .cons k x y c r,sg,more,h0,h=>by
    match sg with
    |[]=>rfl
    |s::ss =>
     have key:Zb r (if more&&ss.isEmpty then[s]else ss) more=false:=by
       refine sU r _ more ?_ ?_
       ·cases more with
        |true =>
         left
         cases ss with
         |nil=>simp
         |cons=>simp
        |false=>exact .inr rfl
       ·unfold Cy at h⊢;cases more with
        |true =>
         simp only[if_true,F.len,Bool.true_and]at h⊢;have h':=of_decide_eq_false h;refine decide_eq_false ?_;cases ss with
         |nil=>simp at h'
         |cons t q=>simp only[List.isEmpty_cons,Bool.false_eq_true,if_false,VX]at h'⊢;omega
        |false=>simp only[Bool.false_eq_true,if_false,F.len,Bool.false_and]at h⊢;have h':=of_decide_eq_false h;refine decide_eq_false ?_;simp only[VX]at h';omega
     simp only[Zb,key,Bool.and_false]
def st(sg:List Int)(more:Bool)(i:Nat):List Int:=sg.drop (if more then min i (sg.length-1)else i)
theorem Y2{f:F}{sg:List Int}{more:Bool}{i q:Nat}{k:Int}{x y:ByteArray}{c r:F}{s:Int}(hd:f.drop i=.cons k x y c r)(hr:f.drop (i+1)=r)(hq:(if more then min i (sg.length-1)else i)=q)(hs:sg[q]?=some s) :
    Zb (f.drop i) (st sg more i) more=(Qj s k x&&Zb (f.drop (i+1)) (st sg more (i+1)) more):=by
  have hlt:q<sg.length:=(List.getElem?_eq_some_iff.1 hs).1;have uh:sg[q]=s:=by rw[List.getElem?_eq_getElem hlt]at hs;exact Option.some.inj hs
  have h1:st sg more i=s::sg.drop (q+1):=by unfold st;rw[hq,List.drop_eq_getElem_cons hlt,uh]
  rw[hd,h1,hr];simp only[Zb]
  congr 2
  unfold st;cases more with
  |true =>
   simp only[if_true,Bool.true_and]at hq⊢;by_cases hl:q+1=sg.length
   ·have e:sg.drop (q+1)=[]:=List.drop_eq_nil_of_le (by omega);have e2:min (i+1) (sg.length-1)=q:=by omega
    rw[e,e2,List.drop_eq_getElem_cons hlt,uh,e];rfl
   ·have e:(sg.drop (q+1)).isEmpty=false:=by
       rw[List.isEmpty_eq_false_iff];intro h;have:=congrArg List.length h;rw[List.length_drop,List.length_nil]at this;omega
    rw[e,if_neg (by simp),show min (i+1) (sg.length-1)=q+1 by omega]
  |false=>simp only[Bool.false_eq_true,if_false,Bool.false_and]at hq⊢;rw[hq]
theorem Qtv{f:F}{sg:List Int}{more:Bool}{n:Nat}(hn:f.len=n)(hne:sg≠[])(hl:Cy sg more n=true):Zb (f.drop n) (st sg more n) more=true:=by
  rw[F.JH _ _ (by omega)];have hp:0<sg.length:=List.length_pos_iff.2 hne;unfold Cy at hl;unfold st;cases more with
  |true=>simp only[if_true,decide_eq_true_eq]at hl⊢;rw[show min n (sg.length-1)=sg.length-1 by omega,List.drop_eq_getElem_cons (by omega),List.drop_eq_nil_of_le (by omega)];rfl
  |false=>simp only[Bool.false_eq_true,if_false,decide_eq_true_eq]at hl⊢;rw[List.drop_eq_nil_of_le (by omega)];rfl
theorem sV(T:Int→List (Int→ByteArray→Bool)):∀(f:F)(sg:List Int),(∀s∈sg,∀k x,(T s).any (fun p=>p k x)=Qj s k x)→Zb f sg false=Qe (sg.map fun s => .one (T s)) f
  | .nil,sg,h=>by
    cases sg with
    |nil=>rfl
    |cons s ss=>rfl
  | .cons k x y c r,sg,h=>by
    cases sg with
    |nil=>rfl
    |cons s ss=>have ih:=sV T r ss (fun t ht=>h t (List.mem_cons_of_mem _ ht));have h0:=h s (List.mem_cons_self ..) k x;simp only[Zb,Bool.false_and,Bool.false_eq_true,if_false,List.map_cons,Qe,Pt.take];rw[ih,←h0];cases(T s).any (fun p=>p k x) <;> rfl
theorem Gf(p:Int→ByteArray→Bool)(s:Int)(h:∀k x,p k x=Qj s k x):∀f:F,Zb f [s] true=Qe [.many p] f
  | .nil=>rfl
  | .cons k x y c r=>by
    have ih:=Gf p s h r;simp only[Qe,Pt.take]at ih;simp only[Zb,Bool.true_and,List.isEmpty_nil,if_true,Qe,Pt.take,Kv];rw[ih,←h k x];cases p k x <;> rfl
theorem Qgq(T:List (Int→ByteArray→Bool))(p:Int→ByteArray→Bool)(s t:Int)(hT:∀k x,T.any (fun p=>p k x)=Qj s k x)(h:∀k x,p k x=Qj t k x)(f:F):Zb f [s,t] true=Qe [.one T,.many p] f:=by
  cases f with
  |nil=>rfl
  |cons k x y c r=>have hm:=Gf p t h r;simp only[Zb,Bool.true_and,List.isEmpty_cons,Bool.false_eq_true,if_false,Qe,Pt.take];rw[hm,←hT k x];cases T.any (fun p=>p k x) <;> rfl
theorem Zt(sg:List Int)(more:Bool)(hs:∀s∈sg,s∈jI)(hby:KL.ZZ sg)(hne:sg≠[])(hsl:sg.length≤100)(A:Option Addr)(n C:Nat)(f:F)(w:World)(hf:Fs w (Lo w.heap.size) (ς A n C) f) :
    Calls prog 36 #[ς A n C,σ (strOfNums sg),τ more] w fun e w'=>e=ρ (τ (Zb f sg more))∧Below w.heap.size w w':=by
  have hsz:(strOfNums sg).size=sg.length:=Lex.strOfNums_size sg;have KE:Hid (∀(q:Nat),q<sg.length→∀W:World,(Instr.index 9 (σ (strOfNums sg)) (ι κ (q:Int))).run prog W=.ok (ι .u8 (sg.getD q 0)) W):=fun q hq W=>Lex.Jq (P:=prog) 9 underlying9 hby hq W
  obtain⟨A0,C0,e,YR,UN⟩:=hf.slice;injection e with e1 e2 e3;have hfl:f.len=n:=e2.symm;have vR:n≤9223372036854775807:=by omega
  clear e1 e3 e2;have HF:=QA hf;have NX:=QA hfl;have HS:=QA hs;have Wm:=QA hne;have hp:0<sg.length:=List.length_pos_iff.2 hne;have HLEN:Hid (Cy sg more n=false→Zb f sg more=false):=fun h=>sU f sg more (.inl hne) (by rw[hfl];exact h)
  have EG:Hid (Cy sg more n=true→Zb (f.drop n) (st sg more n) more=true):=fun h=>Qtv hfl hne h
  have FY:Hid (Cy sg more n=if more then decide (sg.length≤n+1)else decide (sg.length=n)):=rfl;obtain⟨sx,vG⟩:=Mem.ZB (strOfNums sg);obtain⟨m,hm⟩:=Mem.ZB (sg.length);rw[vG,hm]at hsz;rw[vG]at KE⊢;rw[hm]at KE FY hsl hp;have HM:=QA hm;have Hh:((m:Int)-1)=((m-1:Nat):Int):=by omega
  clear hf hfl hs hne hby vG hm;cases more with
  |true =>
   by_cases hbad:n+1<m
   ·have HE:=QA (HLEN.out (by rw[FY.out];simp;omega));rw[HE.out];have q1:(n:Int)<(m:Int):=by omega
    have q2:¬(m:Int)-1≤(n:Int):=by omega
    clear HF Hh;go_enter func36,ntmps36;go_wp2;go_ret;exact⟨rfl,QF _ _⟩
   ·have HE:=QA (EG.out (by rw[FY.out];simp;omega));by_cases hlt:n<m
    ·have q1:(n:Int)<(m:Int):=by omega
     have q2:((m-1:Nat):Int)≤(n:Int):=by omega
     have q3:¬(m:Int)<(n:Int):=by omega
     go_enter func36,ntmps36;go_wp2
     go_loopw [7] (fun s7 wr=>∃i:Nat,i≤n∧s7=ι κ (i:Int)∧Hid (Zb (f.drop i) (st sg true i) true=Zb f sg true)∧Hid (Below w.heap.size w wr)) (fun s7 _=>n-(intOf s7).toNat)
     case atStart=>exact⟨0,Nat.zero_le _,rfl,(by show Zb (f.drop 0) (st sg true 0) true=_;unfold st;simp[F.drop]),QF _ _⟩
     case round =>
       obtain⟨i,hi,rfl,hst,HB⟩:=hrel;by_cases hin:i<n
       ·have UX:(i:Int)<(n:Int):=by omega
        have uo:i<m:=by omega
        have hge:¬(m:Int)≤(i:Int):=by omega
        obtain⟨s,GM⟩:∃s,sg[i]?=some s:=⟨_,List.getElem?_eq_getElem (by rw[HM.out];omega)⟩;have hgd:sg.getD (i) 0=s:=by simp[List.getD,GM]
        obtain⟨k,x,y,kc,kr,hdr,JG⟩:=F.drop_cons (n:=i) (f:=f) (by rw[NX.out];exact hin);have KY:Hid (Zb (f.drop i) (st sg true i) true=(Qj s k x&&Zb (f.drop (i+1)) (st sg true (i+1)) true)):=Y2 hdr JG (by rw[HM.out];simp;omega) GM;obtain⟨b,off,s3,rfl,XP,_,hat⟩:=(HF.out.later HB.out).at_ hdr;obtain⟨Ak,Ck,rfl,_,_⟩:=hat.kids.slice;have hb:b<wr.heap.size:=XP;have c0:=hat.c0;have c1:=hat.c1;have c2:=hat.c2;have c3:=hat.c3;have RZ:=QA (fun W:World=>Ua s (HS.out s (List.mem_of_getElem? GM)) k x y Ak kc.len Ck W);have KE:=QA (fun W:World=>KE.out (i) (by omega) W);rw[hgd]at KE;have hi0:(0:Int)≤(i:Int):=by omega
        obtain⟨bb,hbb⟩:=Mem.ZB (Qj s k x);rw[hbb]at RZ KY;have HST:Hid (Zb f sg true=(bb&&Zb (f.drop (i+1)) (st sg true (i+1)) true)):=hst.out.symm.trans KY.out;clear hdr JG hat XP GM hgd hbb KY hst;go_wp2;refine Qz [Cd.is (ς (some ⟨b,off,none⟩) n C),Cd.is (ι κ (i:Int)),Cd.is (π (some ⟨b,off+i*4,none⟩)),Cd.is (ξ #[ι κ k,σ x,σ y,ς Ak kc.len Ck]),Cd.is (σ sx),Cd.is (ι κ (i:Int)),Cd.is (ι .u8 s),Cd.is (τ bb),Cd.is (τ (!bb))] ?steps ?behind
        case steps =>
          intro xv W hW;refine⟨?s0,?s1,?s2,?s3,?s4,?s5,?s6,?s7,?s8,trivial⟩;all_goals intro hd K hK
          all_goals(try simp only[Act.put,VG,VF,VE]at hK)
          case s0|s1|s4|s5=>clear hd;go_simp;exact hK.out _ _ (QF _ _) rfl
          case s2=>have hx0:xv 0=ς (some ⟨b,off,none⟩) n C:=hd 0;have hx1:xv 1=ι κ (i:Int):=hd 1;clear hd;rw[hx0]at hK⊢;rw[hx1]at hK⊢;go_simp;exact hK.out _ _ (QF _ _) rfl
          case s3=>have hx2:xv 2=π (some ⟨b,off+i*4,none⟩):=hd 2;clear hd;rw[hx2]at hK⊢;have hc0:=(hW.cell (p:=⟨b,off+i*4,none⟩) hb).trans c0;have hc1:=(hW.cell (p:=⟨b,off+i*4+1,none⟩) hb).trans c1;have hc2:=(hW.cell (p:=⟨b,off+i*4+2,none⟩) hb).trans c2;have hc3:=(hW.cell (p:=⟨b,off+i*4+3,none⟩) hb).trans c3;go_simp;exact hK.out _ _ (QF _ _) rfl
          case s6=>have ZP:xv 4=σ sx:=hd 4;have ZY:xv 5=ι κ (i:Int):=hd 5;clear hd;rw[ZP]at hK⊢;rw[ZY]at hK⊢;have GQ:=KE.out W;go_simp;exact hK.out _ _ (QF _ _) rfl
          case s7=>have hx3:xv 3=ξ #[ι κ k,σ x,σ y,ς Ak kc.len Ck]:=hd 3;have JK:xv 6=ι .u8 s:=hd 6;clear hd;rw[hx3]at hK⊢;rw[JK]at hK⊢;go_simp;go_at_call 60;refine c₁ (RZ.out W) fun w' ZW=>?_;exact hK.out _ _ ZW rfl
          case s8=>have VM:xv 7=τ bb:=hd 7;clear hd;rw[VM]at hK⊢;go_simp;exact hK.out _ _ (QF _ _) rfl
        case behind =>
          intro xv W hW hx;have h8:xv 8=τ (!bb):=hx 8;rw[h8];have HW:=QN HB hW;clear hx h8 hW;cases bb with
          |true =>
           have HN:Hid (Zb (f.drop (i+1)) (st sg true (i+1)) true=Zb f sg true):=by show _=_;rw[HST.out];rfl
           go_wp2
           go_roundw
           case rel=>exact⟨i+1,by omega,by go_num,HN.out,HW.out⟩
           case measure=>simp[intOf];omega
          |false =>
           have HE:Hid (Zb f sg true=false):=by show _=_;rw[HST.out];rfl
           go_wp2;go_ret;exact⟨by rw[HE.out];rfl,HW.out⟩
       ·have UX:¬(i:Int)<(n:Int):=by omega
        obtain rfl:i=n:=by omega
        have HV:Hid (Zb f sg true=true):=hst.out.symm.trans HE.out;clear hst hin;go_wp2;go_ret;exact⟨by rw[HV.out];rfl,HB.out⟩
    ·by_cases hgt:m<n
     ·have q1:¬(n:Int)<(m:Int):=by omega
      have q3:(m:Int)<(n:Int):=by omega
      go_enter func36,ntmps36;go_wp2
      go_loopw [7] (fun s7 wr=>∃i:Nat,i≤n∧s7=ι κ (i:Int)∧Hid (Zb (f.drop i) (st sg true i) true=Zb f sg true)∧Hid (Below w.heap.size w wr)) (fun s7 _=>n-(intOf s7).toNat)
      case atStart=>exact⟨0,Nat.zero_le _,rfl,(by show Zb (f.drop 0) (st sg true 0) true=_;unfold st;simp[F.drop]),QF _ _⟩
      case round =>
        obtain⟨i,hi,rfl,hst,HB⟩:=hrel;by_cases hin:i<n
        ·have UX:(i:Int)<(n:Int):=by omega
         by_cases uo:i<m
         ·skip
          have hge:¬(m:Int)≤(i:Int):=by omega
          obtain⟨s,GM⟩:∃s,sg[i]?=some s:=⟨_,List.getElem?_eq_getElem (by rw[HM.out];omega)⟩;have hgd:sg.getD (i) 0=s:=by simp[List.getD,GM]
          obtain⟨k,x,y,kc,kr,hdr,JG⟩:=F.drop_cons (n:=i) (f:=f) (by rw[NX.out];exact hin);have KY:Hid (Zb (f.drop i) (st sg true i) true=(Qj s k x&&Zb (f.drop (i+1)) (st sg true (i+1)) true)):=Y2 hdr JG (by rw[HM.out];simp;omega) GM;obtain⟨b,off,s3,rfl,XP,_,hat⟩:=(HF.out.later HB.out).at_ hdr;obtain⟨Ak,Ck,rfl,_,_⟩:=hat.kids.slice;have hb:b<wr.heap.size:=XP;have c0:=hat.c0;have c1:=hat.c1;have c2:=hat.c2;have c3:=hat.c3;have RZ:=QA (fun W:World=>Ua s (HS.out s (List.mem_of_getElem? GM)) k x y Ak kc.len Ck W);have KE:=QA (fun W:World=>KE.out (i) (by omega) W);rw[hgd]at KE;have hi0:(0:Int)≤(i:Int):=by omega
          obtain⟨bb,hbb⟩:=Mem.ZB (Qj s k x);rw[hbb]at RZ KY;have HST:Hid (Zb f sg true=(bb&&Zb (f.drop (i+1)) (st sg true (i+1)) true)):=hst.out.symm.trans KY.out;clear hdr JG hat XP GM hgd hbb KY hst;go_wp2;refine Qz [Cd.is (ς (some ⟨b,off,none⟩) n C),Cd.is (ι κ (i:Int)),Cd.is (π (some ⟨b,off+i*4,none⟩)),Cd.is (ξ #[ι κ k,σ x,σ y,ς Ak kc.len Ck]),Cd.is (σ sx),Cd.is (ι κ (i:Int)),Cd.is (ι .u8 s),Cd.is (τ bb),Cd.is (τ (!bb))] ?steps ?behind
          case steps =>
            intro xv W hW;refine⟨?s0,?s1,?s2,?s3,?s4,?s5,?s6,?s7,?s8,trivial⟩;all_goals intro hd K hK
            all_goals(try simp only[Act.put,VG,VF,VE]at hK)
            case s0|s1|s4|s5=>clear hd;go_simp;exact hK.out _ _ (QF _ _) rfl
            case s2=>have hx0:xv 0=ς (some ⟨b,off,none⟩) n C:=hd 0;have hx1:xv 1=ι κ (i:Int):=hd 1;clear hd;rw[hx0]at hK⊢;rw[hx1]at hK⊢;go_simp;exact hK.out _ _ (QF _ _) rfl
            case s3=>have hx2:xv 2=π (some ⟨b,off+i*4,none⟩):=hd 2;clear hd;rw[hx2]at hK⊢;have hc0:=(hW.cell (p:=⟨b,off+i*4,none⟩) hb).trans c0;have hc1:=(hW.cell (p:=⟨b,off+i*4+1,none⟩) hb).trans c1;have hc2:=(hW.cell (p:=⟨b,off+i*4+2,none⟩) hb).trans c2;have hc3:=(hW.cell (p:=⟨b,off+i*4+3,none⟩) hb).trans c3;go_simp;exact hK.out _ _ (QF _ _) rfl
            case s6=>have ZP:xv 4=σ sx:=hd 4;have ZY:xv 5=ι κ (i:Int):=hd 5;clear hd;rw[ZP]at hK⊢;rw[ZY]at hK⊢;have GQ:=KE.out W;go_simp;exact hK.out _ _ (QF _ _) rfl
            case s7=>have hx3:xv 3=ξ #[ι κ k,σ x,σ y,ς Ak kc.len Ck]:=hd 3;have JK:xv 6=ι .u8 s:=hd 6;clear hd;rw[hx3]at hK⊢;rw[JK]at hK⊢;go_simp;go_at_call 60;refine c₁ (RZ.out W) fun w' ZW=>?_;exact hK.out _ _ ZW rfl
            case s8=>have VM:xv 7=τ bb:=hd 7;clear hd;rw[VM]at hK⊢;go_simp;exact hK.out _ _ (QF _ _) rfl
          case behind =>
            intro xv W hW hx;have h8:xv 8=τ (!bb):=hx 8;rw[h8];have HW:=QN HB hW;clear hx h8 hW;cases bb with
            |true =>
             have HN:Hid (Zb (f.drop (i+1)) (st sg true (i+1)) true=Zb f sg true):=by show _=_;rw[HST.out];rfl
             go_wp2
             go_roundw
             case rel=>exact⟨i+1,by omega,by go_num,HN.out,HW.out⟩
             case measure=>simp[intOf];omega
            |false =>
             have HE:Hid (Zb f sg true=false):=by show _=_;rw[HST.out];rfl
             go_wp2;go_ret;exact⟨by rw[HE.out];rfl,HW.out⟩
         ·skip
          have hge:(m:Int)≤(i:Int):=by omega
          obtain⟨s,GM⟩:∃s,sg[m-1]?=some s:=⟨_,List.getElem?_eq_getElem (by rw[HM.out];omega)⟩;have hgd:sg.getD (m-1) 0=s:=by simp[List.getD,GM]
          obtain⟨k,x,y,kc,kr,hdr,JG⟩:=F.drop_cons (n:=i) (f:=f) (by rw[NX.out];exact hin);have KY:Hid (Zb (f.drop i) (st sg true i) true=(Qj s k x&&Zb (f.drop (i+1)) (st sg true (i+1)) true)):=Y2 hdr JG (by rw[HM.out];simp;omega) GM;obtain⟨b,off,s3,rfl,XP,_,hat⟩:=(HF.out.later HB.out).at_ hdr;obtain⟨Ak,Ck,rfl,_,_⟩:=hat.kids.slice;have hb:b<wr.heap.size:=XP;have c0:=hat.c0;have c1:=hat.c1;have c2:=hat.c2;have c3:=hat.c3;have RZ:=QA (fun W:World=>Ua s (HS.out s (List.mem_of_getElem? GM)) k x y Ak kc.len Ck W);have KE:=QA (fun W:World=>KE.out (m-1) (by omega) W);rw[hgd]at KE;have hi0:(0:Int)≤(i:Int):=by omega
          obtain⟨bb,hbb⟩:=Mem.ZB (Qj s k x);rw[hbb]at RZ KY;have HST:Hid (Zb f sg true=(bb&&Zb (f.drop (i+1)) (st sg true (i+1)) true)):=hst.out.symm.trans KY.out;clear hdr JG hat XP GM hgd hbb KY hst;go_wp2;refine Qz [Cd.is (ς (some ⟨b,off,none⟩) n C),Cd.is (ι κ (i:Int)),Cd.is (π (some ⟨b,off+i*4,none⟩)),Cd.is (ξ #[ι κ k,σ x,σ y,ς Ak kc.len Ck]),Cd.is (σ sx),Cd.is (ι κ ((m-1:Nat):Int)),Cd.is (ι .u8 s),Cd.is (τ bb),Cd.is (τ (!bb))] ?steps ?behind
          case steps =>
            intro xv W hW;refine⟨?s0,?s1,?s2,?s3,?s4,?s5,?s6,?s7,?s8,trivial⟩;all_goals intro hd K hK
            all_goals(try simp only[Act.put,VG,VF,VE]at hK)
            case s0|s1|s4|s5=>clear hd;go_simp;exact hK.out _ _ (QF _ _) rfl
            case s2=>have hx0:xv 0=ς (some ⟨b,off,none⟩) n C:=hd 0;have hx1:xv 1=ι κ (i:Int):=hd 1;clear hd;rw[hx0]at hK⊢;rw[hx1]at hK⊢;go_simp;exact hK.out _ _ (QF _ _) rfl
            case s3=>have hx2:xv 2=π (some ⟨b,off+i*4,none⟩):=hd 2;clear hd;rw[hx2]at hK⊢;have hc0:=(hW.cell (p:=⟨b,off+i*4,none⟩) hb).trans c0;have hc1:=(hW.cell (p:=⟨b,off+i*4+1,none⟩) hb).trans c1;have hc2:=(hW.cell (p:=⟨b,off+i*4+2,none⟩) hb).trans c2;have hc3:=(hW.cell (p:=⟨b,off+i*4+3,none⟩) hb).trans c3;go_simp;exact hK.out _ _ (QF _ _) rfl
            case s6=>have ZP:xv 4=σ sx:=hd 4;have ZY:xv 5=ι κ ((m-1:Nat):Int):=hd 5;clear hd;rw[ZP]at hK⊢;rw[ZY]at hK⊢;have GQ:=KE.out W;go_simp;exact hK.out _ _ (QF _ _) rfl
            case s7=>have hx3:xv 3=ξ #[ι κ k,σ x,σ y,ς Ak kc.len Ck]:=hd 3;have JK:xv 6=ι .u8 s:=hd 6;clear hd;rw[hx3]at hK⊢;rw[JK]at hK⊢;go_simp;go_at_call 60;refine c₁ (RZ.out W) fun w' ZW=>?_;exact hK.out _ _ ZW rfl
            case s8=>have VM:xv 7=τ bb:=hd 7;clear hd;rw[VM]at hK⊢;go_simp;exact hK.out _ _ (QF _ _) rfl
          case behind =>
            intro xv W hW hx;have h8:xv 8=τ (!bb):=hx 8;rw[h8];have HW:=QN HB hW;clear hx h8 hW;cases bb with
            |true =>
             have HN:Hid (Zb (f.drop (i+1)) (st sg true (i+1)) true=Zb f sg true):=by show _=_;rw[HST.out];rfl
             go_wp2
             go_roundw
             case rel=>exact⟨i+1,by omega,by go_num,HN.out,HW.out⟩
             case measure=>simp[intOf];omega
            |false =>
             have HE:Hid (Zb f sg true=false):=by show _=_;rw[HST.out];rfl
             go_wp2;go_ret;exact⟨by rw[HE.out];rfl,HW.out⟩
        ·have UX:¬(i:Int)<(n:Int):=by omega
         obtain rfl:i=n:=by omega
         have HV:Hid (Zb f sg true=true):=hst.out.symm.trans HE.out;clear hst hin;go_wp2;go_ret;exact⟨by rw[HV.out];rfl,HB.out⟩
     ·have q1:¬(n:Int)<(m:Int):=by omega
      have q3:¬(m:Int)<(n:Int):=by omega
      go_enter func36,ntmps36;go_wp2
      go_loopw [7] (fun s7 wr=>∃i:Nat,i≤n∧s7=ι κ (i:Int)∧Hid (Zb (f.drop i) (st sg true i) true=Zb f sg true)∧Hid (Below w.heap.size w wr)) (fun s7 _=>n-(intOf s7).toNat)
      case atStart=>exact⟨0,Nat.zero_le _,rfl,(by show Zb (f.drop 0) (st sg true 0) true=_;unfold st;simp[F.drop]),QF _ _⟩
      case round =>
        obtain⟨i,hi,rfl,hst,HB⟩:=hrel;by_cases hin:i<n
        ·have UX:(i:Int)<(n:Int):=by omega
         have uo:i<m:=by omega
         have hge:¬(m:Int)≤(i:Int):=by omega
         obtain⟨s,GM⟩:∃s,sg[i]?=some s:=⟨_,List.getElem?_eq_getElem (by rw[HM.out];omega)⟩;have hgd:sg.getD (i) 0=s:=by simp[List.getD,GM]
         obtain⟨k,x,y,kc,kr,hdr,JG⟩:=F.drop_cons (n:=i) (f:=f) (by rw[NX.out];exact hin);have KY:Hid (Zb (f.drop i) (st sg true i) true=(Qj s k x&&Zb (f.drop (i+1)) (st sg true (i+1)) true)):=Y2 hdr JG (by rw[HM.out];simp;omega) GM;obtain⟨b,off,s3,rfl,XP,_,hat⟩:=(HF.out.later HB.out).at_ hdr;obtain⟨Ak,Ck,rfl,_,_⟩:=hat.kids.slice;have hb:b<wr.heap.size:=XP;have c0:=hat.c0;have c1:=hat.c1;have c2:=hat.c2;have c3:=hat.c3;have RZ:=QA (fun W:World=>Ua s (HS.out s (List.mem_of_getElem? GM)) k x y Ak kc.len Ck W);have KE:=QA (fun W:World=>KE.out (i) (by omega) W);rw[hgd]at KE;have hi0:(0:Int)≤(i:Int):=by omega
         obtain⟨bb,hbb⟩:=Mem.ZB (Qj s k x);rw[hbb]at RZ KY;have HST:Hid (Zb f sg true=(bb&&Zb (f.drop (i+1)) (st sg true (i+1)) true)):=hst.out.symm.trans KY.out;clear hdr JG hat XP GM hgd hbb KY hst;go_wp2;refine Qz [Cd.is (ς (some ⟨b,off,none⟩) n C),Cd.is (ι κ (i:Int)),Cd.is (π (some ⟨b,off+i*4,none⟩)),Cd.is (ξ #[ι κ k,σ x,σ y,ς Ak kc.len Ck]),Cd.is (σ sx),Cd.is (ι κ (i:Int)),Cd.is (ι .u8 s),Cd.is (τ bb),Cd.is (τ (!bb))] ?steps ?behind
         case steps =>
           intro xv W hW;refine⟨?s0,?s1,?s2,?s3,?s4,?s5,?s6,?s7,?s8,trivial⟩;all_goals intro hd K hK
           all_goals(try simp only[Act.put,VG,VF,VE]at hK)
           case s0|s1|s4|s5=>clear hd;go_simp;exact hK.out _ _ (QF _ _) rfl
           case s2=>have hx0:xv 0=ς (some ⟨b,off,none⟩) n C:=hd 0;have hx1:xv 1=ι κ (i:Int):=hd 1;clear hd;rw[hx0]at hK⊢;rw[hx1]at hK⊢;go_simp;exact hK.out _ _ (QF _ _) rfl
           case s3=>have hx2:xv 2=π (some ⟨b,off+i*4,none⟩):=hd 2;clear hd;rw[hx2]at hK⊢;have hc0:=(hW.cell (p:=⟨b,off+i*4,none⟩) hb).trans c0;have hc1:=(hW.cell (p:=⟨b,off+i*4+1,none⟩) hb).trans c1;have hc2:=(hW.cell (p:=⟨b,off+i*4+2,none⟩) hb).trans c2;have hc3:=(hW.cell (p:=⟨b,off+i*4+3,none⟩) hb).trans c3;go_simp;exact hK.out _ _ (QF _ _) rfl
           case s6=>have ZP:xv 4=σ sx:=hd 4;have ZY:xv 5=ι κ (i:Int):=hd 5;clear hd;rw[ZP]at hK⊢;rw[ZY]at hK⊢;have GQ:=KE.out W;go_simp;exact hK.out _ _ (QF _ _) rfl
           case s7=>have hx3:xv 3=ξ #[ι κ k,σ x,σ y,ς Ak kc.len Ck]:=hd 3;have JK:xv 6=ι .u8 s:=hd 6;clear hd;rw[hx3]at hK⊢;rw[JK]at hK⊢;go_simp;go_at_call 60;refine c₁ (RZ.out W) fun w' ZW=>?_;exact hK.out _ _ ZW rfl
           case s8=>have VM:xv 7=τ bb:=hd 7;clear hd;rw[VM]at hK⊢;go_simp;exact hK.out _ _ (QF _ _) rfl
         case behind =>
           intro xv W hW hx;have h8:xv 8=τ (!bb):=hx 8;rw[h8];have HW:=QN HB hW;clear hx h8 hW;cases bb with
           |true =>
            have HN:Hid (Zb (f.drop (i+1)) (st sg true (i+1)) true=Zb f sg true):=by show _=_;rw[HST.out];rfl
            go_wp2
            go_roundw
            case rel=>exact⟨i+1,by omega,by go_num,HN.out,HW.out⟩
            case measure=>simp[intOf];omega
           |false =>
            have HE:Hid (Zb f sg true=false):=by show _=_;rw[HST.out];rfl
            go_wp2;go_ret;exact⟨by rw[HE.out];rfl,HW.out⟩
        ·have UX:¬(i:Int)<(n:Int):=by omega
         obtain rfl:i=n:=by omega
         have HV:Hid (Zb f sg true=true):=hst.out.symm.trans HE.out;clear hst hin;go_wp2;go_ret;exact⟨by rw[HV.out];rfl,HB.out⟩
  |false =>
   by_cases hlt:n<m
   ·have HE:=QA (HLEN.out (by rw[FY.out];simp;omega));rw[HE.out];have q1:(n:Int)<(m:Int):=by omega
    clear HF Hh;go_enter func36,ntmps36;go_wp2;go_ret;exact⟨rfl,QF _ _⟩
   ·by_cases hgt:m<n
    ·have HE:=QA (HLEN.out (by rw[FY.out];simp;omega));rw[HE.out];have q1:¬(n:Int)<(m:Int):=by omega
     have q3:(m:Int)<(n:Int):=by omega
     clear HF Hh;go_enter func36,ntmps36;go_wp2;go_ret;exact⟨rfl,QF _ _⟩
    ·have HE:=QA (EG.out (by rw[FY.out];simp;omega));have q1:¬(n:Int)<(m:Int):=by omega
     have q3:¬(m:Int)<(n:Int):=by omega
     go_enter func36,ntmps36;go_wp2
     go_loopw [7] (fun s7 wr=>∃i:Nat,i≤n∧s7=ι κ (i:Int)∧Hid (Zb (f.drop i) (st sg false i) false=Zb f sg false)∧Hid (Below w.heap.size w wr)) (fun s7 _=>n-(intOf s7).toNat)
     case atStart=>exact⟨0,Nat.zero_le _,rfl,(by show Zb (f.drop 0) (st sg false 0) false=_;rfl),QF _ _⟩
     case round =>
       obtain⟨i,hi,rfl,hst,HB⟩:=hrel;by_cases hin:i<n
       ·have UX:(i:Int)<(n:Int):=by omega
        have hge:¬(m:Int)≤(i:Int):=by omega
        obtain⟨s,GM⟩:∃s,sg[i]?=some s:=⟨_,List.getElem?_eq_getElem (by rw[HM.out];omega)⟩;have hgd:sg.getD (i) 0=s:=by simp[List.getD,GM]
        obtain⟨k,x,y,kc,kr,hdr,JG⟩:=F.drop_cons (n:=i) (f:=f) (by rw[NX.out];exact hin);have KY:Hid (Zb (f.drop i) (st sg false i) false=(Qj s k x&&Zb (f.drop (i+1)) (st sg false (i+1)) false)):=Y2 hdr JG (by rw[HM.out];rfl) GM;obtain⟨b,off,s3,rfl,XP,_,hat⟩:=(HF.out.later HB.out).at_ hdr;obtain⟨Ak,Ck,rfl,_,_⟩:=hat.kids.slice;have hb:b<wr.heap.size:=XP;have c0:=hat.c0;have c1:=hat.c1;have c2:=hat.c2;have c3:=hat.c3;have RZ:=QA (fun W:World=>Ua s (HS.out s (List.mem_of_getElem? GM)) k x y Ak kc.len Ck W);have KE:=QA (fun W:World=>KE.out (i) (by omega) W);rw[hgd]at KE;have hi0:(0:Int)≤(i:Int):=by omega
        obtain⟨bb,hbb⟩:=Mem.ZB (Qj s k x);rw[hbb]at RZ KY;have HST:Hid (Zb f sg false=(bb&&Zb (f.drop (i+1)) (st sg false (i+1)) false)):=hst.out.symm.trans KY.out;clear hdr JG hat XP GM hgd hbb KY hst;go_wp2;refine Qz [Cd.is (ς (some ⟨b,off,none⟩) n C),Cd.is (ι κ (i:Int)),Cd.is (π (some ⟨b,off+i*4,none⟩)),Cd.is (ξ #[ι κ k,σ x,σ y,ς Ak kc.len Ck]),Cd.is (σ sx),Cd.is (ι κ (i:Int)),Cd.is (ι .u8 s),Cd.is (τ bb),Cd.is (τ (!bb))] ?steps ?behind
        case steps =>
          intro xv W hW;refine⟨?s0,?s1,?s2,?s3,?s4,?s5,?s6,?s7,?s8,trivial⟩;all_goals intro hd K hK
          all_goals(try simp only[Act.put,VG,VF,VE]at hK)
          case s0|s1|s4|s5=>clear hd;go_simp;exact hK.out _ _ (QF _ _) rfl
          case s2=>have hx0:xv 0=ς (some ⟨b,off,none⟩) n C:=hd 0;have hx1:xv 1=ι κ (i:Int):=hd 1;clear hd;rw[hx0]at hK⊢;rw[hx1]at hK⊢;go_simp;exact hK.out _ _ (QF _ _) rfl
          case s3=>have hx2:xv 2=π (some ⟨b,off+i*4,none⟩):=hd 2;clear hd;rw[hx2]at hK⊢;have hc0:=(hW.cell (p:=⟨b,off+i*4,none⟩) hb).trans c0;have hc1:=(hW.cell (p:=⟨b,off+i*4+1,none⟩) hb).trans c1;have hc2:=(hW.cell (p:=⟨b,off+i*4+2,none⟩) hb).trans c2;have hc3:=(hW.cell (p:=⟨b,off+i*4+3,none⟩) hb).trans c3;go_simp;exact hK.out _ _ (QF _ _) rfl
          case s6=>have ZP:xv 4=σ sx:=hd 4;have ZY:xv 5=ι κ (i:Int):=hd 5;clear hd;rw[ZP]at hK⊢;rw[ZY]at hK⊢;have GQ:=KE.out W;go_simp;exact hK.out _ _ (QF _ _) rfl
          case s7=>have hx3:xv 3=ξ #[ι κ k,σ x,σ y,ς Ak kc.len Ck]:=hd 3;have JK:xv 6=ι .u8 s:=hd 6;clear hd;rw[hx3]at hK⊢;rw[JK]at hK⊢;go_simp;go_at_call 60;refine c₁ (RZ.out W) fun w' ZW=>?_;exact hK.out _ _ ZW rfl
          case s8=>have VM:xv 7=τ bb:=hd 7;clear hd;rw[VM]at hK⊢;go_simp;exact hK.out _ _ (QF _ _) rfl
        case behind =>
          intro xv W hW hx;have h8:xv 8=τ (!bb):=hx 8;rw[h8];have HW:=QN HB hW;clear hx h8 hW;cases bb with
          |true =>
           have HN:Hid (Zb (f.drop (i+1)) (st sg false (i+1)) false=Zb f sg false):=by show _=_;rw[HST.out];rfl
           go_wp2
           go_roundw
           case rel=>exact⟨i+1,by omega,by go_num,HN.out,HW.out⟩
           case measure=>simp[intOf];omega
          |false =>
           have HE:Hid (Zb f sg false=false):=by show _=_;rw[HST.out];rfl
           go_wp2;go_ret;exact⟨by rw[HE.out];rfl,HW.out⟩
       ·have UX:¬(i:Int)<(n:Int):=by omega
        obtain rfl:i=n:=by omega
        have HV:Hid (Zb f sg false=true):=hst.out.symm.trans HE.out;clear hst hin;go_wp2;go_ret;exact⟨by rw[HV.out];rfl,HB.out⟩
