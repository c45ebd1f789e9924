import Derived.Test.YtaiihnniblibaaaGreatDoorG38
import Derived.Test.YtaiihnniblibaaaGreatDoorG40
import Derived.Test.YtaiihnniblibaaaGreatDoorG41
set_option maxHeartbeats 8000000
set_option maxRecDepth 100000
set_option linter.unusedVariables false
open Go.Proofs.Tryz Go.ChangeShapes Go.WideShapes Go.ChangeAt Go.RowKit
open Go.Lib renaming hid→QA
open Go.Value renaming string→σ,int→ι,slice→ς,bool→τ,agg→ξ
open Go.IntKind renaming i64→κ
open Go.Obj renaming cells→θ
open Go.Ending renaming returned→ρ
namespace Go.Proofs.YtaiihnniblibaaaGreatDoor
namespace Tree
open Mem
theorem Qx(x:ByteArray)(hx:x.size≤1000000)(w:World):Calls prog 34 #[σ x] w fun e w'=>e = ρ (τ (JC x))∧Below w.heap.size w w':=by
  have:=Lex.Qkv (Lex.nums x) (Lex.Gy x) (by rw[Lex.xo];exact hx) w;rwa[Lex.Xo]at this
theorem Qup{w:World}{base:Nat}{v:Value}{L:List Lex.Tok}(h:Lex.Ul w base v L):∃a c,v=ς a L.length c∧L.length≤c∧c≤maxLen∧ZR.RT Lex.Ye 4 w w.heap.size a L:=by
  obtain⟨a,c,rfl,h1,h2⟩:=Lex.Uu h;exact⟨a,c,rfl,h1,h2,ZR.kC Lex.xM h rfl⟩
theorem Y4(x:ByteArray)(k:Int)(hx:x.size≤100000)(w:World):Calls prog 23 #[σ x,ι κ k] w fun e w'=>e = ρ (τ (JT x k))∧Below w.heap.size w w':=by
  obtain⟨cc,W1,Lh,hc1,hc2,hbW,UA⟩:=Lex.xc w x (by unfold maxLen;omega);have Lf:(Lex.nums x).length=x.size:=Lex.xo x;have UL:=QA (Lex.Qgr _ x.size cc (Lex.nums x) W1 _ UA (Nat.le_refl _) Lf hc1 hc2 hx);have Lz:=QA hbW;have HV:Hid (JT x k=(decide (Lex.K6 (Lex.nums x)=0)&&(match Lex.Uz (Lex.nums x)with
    |[]=>false
    |t::_=>t.kind==k&&(strOfNums t.text).toList==x.toList))):=rfl
  unfold Lex.Yd at UL;generalize Lex.RJ (Lex.nums x)=N at *;generalize Lex.K6 (Lex.nums x)=E at *;generalize Lex.Uz (Lex.nums x)=L at *;generalize JT x k=bb at *;clear Lf UA hbW;go_enter func23,ntmps23;go_wp2_with fail;refine UL.out.mono ?_;rintro e w1 ⟨v1,rfl,Sp,hb1⟩;obtain⟨a1,c1,rfl,ES,hl2,hrt⟩:=Qup Sp;have FO:=QA hrt;have HB:=QN Lz hb1;clear Sp hb1 UL Lh hrt;by_cases hE:E=0
  ·subst hE;cases L with
   |nil =>
    have hv:bb=false:=by rw[HV.out];rfl
    subst hv;clear HV FO;go_wp2;go_ret;exact⟨rfl,HB.out⟩
   |cons t r =>
    obtain⟨b1,rfl,_,hcell⟩:=FO.out.at_ (by simp);have d0:w1.cell? ⟨b1,0,none⟩=some (ι κ t.kind):=by have:=hcell 0 t rfl 0 _ rfl;simpa using this
    have d1:w1.cell? ⟨b1,1,none⟩=some (σ (strOfNums t.text)):=by have:=hcell 0 t rfl 1 _ rfl;simpa using this
    have SF:Hid (bb=(t.kind==k&&(strOfNums t.text).toList==x.toList)):=by show _=_;rw[HV.out];rfl
    generalize t.kind=tk at *;generalize strOfNums t.text=ts at *;have hn:((r.length+1:Nat):Int)>0:=by omega
    simp only[List.length_cons]at ES⊢;generalize r.length+1=m at *;have hn0:(0:Int)<(m:Int):=hn;clear HV FO hcell ES hl2 hn;cases hk:(tk==k)with
    |false =>
     have hv:bb=false:=by rw[SF.out,hk];rfl
     subst hv;clear SF;go_wp2;go_ret;exact⟨rfl,HB.out⟩
    |true =>
     cases hs:(ts.toList==x.toList)with
     |false =>
      have hv:bb=false:=by rw[SF.out,hk,hs];rfl
      subst hv;clear SF;go_wp2;go_ret;exact⟨rfl,HB.out⟩
     |true =>
      have hv:bb=true:=by rw[SF.out,hk,hs];rfl
      subst hv;clear SF;go_wp2;go_ret;exact⟨rfl,HB.out⟩
  ·have hv:bb=false:=by rw[HV.out,decide_eq_false hE];rfl
   subst hv;have he:(E==0)=false:=ZC hE;clear HV FO hE;go_wp2;go_ret;exact⟨rfl,HB.out⟩
def TS(s:Int):List (Int→ByteArray→Bool) :=
  if s=101 then[Qg]else if s=116 then[Qt]else if s=112 then[Zv]else if s=84 then[Qt,Qk [33]]else if s=69 then[Qg,Qk [33]]
  else if s=82 then[Qk [16],Qk [33]]else if s=65 then[Qk [15]]else if s=66 then[Qk [17]]else if s=76 then[Qk [17,18],Qk [33]]else if s=67 then[Qk [30]]else if s=78 then[Qk [9]]else[]
theorem Q2v(s:Int)(hs:s∈([101,116,112,84,69,82,65,66,76,67,78]:List Int))(k:Int)(x:ByteArray):(TS s).any (fun p=>p k x)=Qj s k x:=by
  simp only[List.mem_cons,List.not_mem_nil,or_false]at hs;rcases hs with rfl|rfl|rfl|rfl|rfl|rfl|rfl|rfl|rfl|rfl|rfl <;> simp[TS,Qj,Qk,Bool.or_assoc]
theorem Jz(f:F)(sg:List Int)(h:∀s∈sg,s∈([101,116,112,84,69,82,65,66,76,67,78]:List Int)):Zb f sg false=Qe (sg.map fun s => .one (TS s)) f :=
  sV TS f sg fun s hs k x=>Q2v s (h s hs) k x
def Qa(k:Int)(x:ByteArray)(c:F):Bool:=Q2 JC JT k x&&Q1 k x c
def RR(s:ByteArray)(m:Bool)(g:F→Bool):Prop:=∀(A:Option Addr)(n C:Nat)(c:F)(w:World),Fs w (Lo w.heap.size) (ς A n C) c→Calls prog 36 #[ς A n C,σ s,τ m] w fun e w'=>e=ρ (τ (g c))∧Below w.heap.size w w'
theorem YA(sg:List Int)(m:Bool){g:F→Bool}(hg:∀c,Zb c sg m=g c)(h1:∀s∈sg,s∈jI:=by decide)(h2:KL.ZZ sg:=by intro x hx;simp at hx;omega)(h3:sg≠[]:=by decide)(h4:sg.length≤100:=by decide):RR (strOfNums sg) m g:=fun A n C c w hf=>by
  have h:=Zt sg m h1 h2 h3 h4 A n C c w hf;rwa[hg]at h
theorem VL(sg:List Int)(h:∀s∈sg,s∈([101,116,112,84,69,82,65,66,76,67,78]:List Int):=by decide)(h1:∀s∈sg,s∈jI:=by decide)(h2:KL.ZZ sg:=by intro x hx;simp at hx;omega)(h3:sg≠[]:=by decide)(h4:sg.length≤100:=by decide):RR (strOfNums sg) false (Qe (sg.map fun s => .one (TS s))) :=
  YA sg false (fun c=>Jz c sg h) h1 h2 h3 h4
theorem NJ:RR ⟨#[101]⟩ false (Qe [.one [Qg]]):=VL [101]
theorem ql:RR ⟨#[84,69]⟩ false (Qe [.one [Qt,Qk [33]],.one [Qg,Qk [33]]]):=VL [84,69]
theorem Cu:RR ⟨#[116]⟩ false (Qe [.one [Qt]]):=VL [116]
theorem pU:RR ⟨#[82,65,84,66]⟩ false (Qe [.one [Qk [16],Qk [33]],.one [Qk [15]],.one [Qt,Qk [33]],.one [Qk [17]]]):=VL [82,65,84,66]
theorem Q2c:RR ⟨#[116,116]⟩ false (Qe [.one [Qt],.one [Qt]]):=VL [116,116]
theorem Q2f:RR ⟨#[102]⟩ true (Qe [.many (Qk [14,8])]):=YA [102] true fun c=>Gf (Qk [14,8]) 102 (fun k x=>by simp[Qj,Qk]) c
theorem Q2h:RR ⟨#[80]⟩ true (Qe [.many (Qk [16])]):=YA [80] true fun c=>Gf (Qk [16]) 80 (fun k x=>by simp[Qj,Qk]) c
theorem Q2d:RR ⟨#[115]⟩ true (Qe [.many Js]):=YA [115] true fun c=>Gf (Js) 115 (fun k x=>rfl) c
theorem Q03:RR ⟨#[101,66,76]⟩ false (Qe [.one [Qg],.one [Qk [17]],.one [Qk [17,18],Qk [33]]]):=VL [101,66,76]
theorem Q2j:RR ⟨#[69,66]⟩ false (Qe [.one [Qg,Qk [33]],.one [Qk [17]]]):=VL [69,66]
theorem Q2g:RR ⟨#[101]⟩ true (Qe [.many Qg]):=YA [101] true fun c=>Gf (Qg) 101 (fun k x=>rfl) c
theorem Q2i:RR ⟨#[78,101]⟩ false (Qe [.one [Qk [9]],.one [Qg]]):=VL [78,101]
theorem Fa:RR ⟨#[112,101]⟩ false (Qe [.one [Zv],.one [Qg]]):=VL [112,101]
theorem cK:RR ⟨#[112]⟩ false (Qe [.one [Zv]]):=VL [112]
theorem Q22:RR ⟨#[67]⟩ false (Qe [.one [Qk [30]]]):=VL [67]
theorem dm:RR ⟨#[101,101]⟩ false (Qe [.one [Qg],.one [Qg]]):=VL [101,101]
theorem Q02:RR ⟨#[101,101]⟩ true (Qe [.one [Qg],.many Qg]):=YA [101,101] true fun c=>Qgq [Qg] Qg 101 101 (fun k x=>by simp[Qj]) (fun k x=>rfl) c
theorem Qw6(x y:ByteArray)(A:Option Addr)(n C:Nat)(c:F)(w:World)(hf:Fs w (Lo w.heap.size) (ς A n C) c)(hx:x.size≤100000):Calls prog 22 #[ξ #[ι κ 1,σ x,σ y,ς A n C]] w fun e w'=>e = ρ (τ (Qa 1 x c))∧Below w.heap.size w w':=by
  have b1:=Qb w (θ #[ι κ 1,σ x,σ y,ς A n C] 24);have HN:=QA (Qx x (by omega) (w.alloc (θ #[ι κ 1,σ x,σ y,ς A n C] 24)));have HB:=QA b1;have HF:=QA hf
  have QK:Hid (∀W,Below (w.alloc (θ #[ι κ 1,σ x,σ y,ς A n C] 24)).heap.size (w.alloc (θ #[ι κ 1,σ x,σ y,ς A n C] 24)) W→W.cell? ⟨w.heap.size,0,none⟩=some (ι κ 1)∧W.cell? ⟨w.heap.size,1,none⟩=some (σ x)∧W.cell? ⟨w.heap.size,3,none⟩=some (ς A n C)):=fun W hW=>by
    have ZJ:∀i v,#[ι κ 1,σ x,σ y,ς A n C][i]? = some v→W.cell? ⟨w.heap.size,i,none⟩=some v:=fun i v hv=>by
      rw[hW.cell (p:=⟨w.heap.size,i,none⟩) (by simp),World.cell?_alloc_at _ _ _ _ rfl];simpa using hv
    exact⟨ZJ 0 _ rfl,ZJ 1 _ rfl,ZJ 3 _ rfl⟩
  obtain⟨nb,hnb⟩:=Mem.ZB (JC x);rw[hnb]at HN;obtain⟨eb,QV⟩:=Mem.ZB ((x.toList==[]));clear b1 hf;have QX:Hid (Qa 1 x c=(eb&&Qe [.many (Qk [8]),.one [Qk [2]],.many (Qk [3,8]),.many Jl] c)):=by show _=_;rw[←QV];unfold Qa Q2 Q1;simp
  cases eb with
  |false =>
   have he:¬x.toList=[]:=by simpa using QV
   have UD:x.toList.isEmpty=false:=by simpa using QV
   have HV:Hid (Qa 1 x c=false):=by show _=_;rw[QX.out];rfl
   clear QV QX;go_enter func22,ntmps22;go_wp2_with fail;refine c₁ HN.out fun w1 hb=>?_;obtain⟨q0,q1,q3⟩:=QK.out w1 hb;have QJ:=QN HB hb;clear hb HN QK;go_wp2;go_ret;exact⟨by rw[HV.out];rfl,QJ.out⟩
  |true =>
   have he:x.toList=[]:=by simpa using QV
   have HV:Hid (Qa 1 x c=Qe [.many (Qk [8]),.one [Qk [2]],.many (Qk [3,8]),.many Jl] c):=by show _=_;rw[QX.out];rfl
   clear QV QX;go_enter func22,ntmps22;go_wp2_with fail;refine c₁ HN.out fun w1 hb=>?_;obtain⟨q0,q1,q3⟩:=QK.out w1 hb;have QJ:=QN HB hb;clear hb HN QK;have HR:=QA (Qkx A n C c w1 (HF.out.later QJ.out));rw[cY]at HR;go_wp2_with fail;refine c₁ HR.out fun w2 hb=>?_;have QR:Hid (Below w.heap.size w w2):=by show Below _ _ _;rw[hb];exact QJ.out
   clear hb;go_wp2;go_ret;exact⟨by rw[HV.out];rfl,QR.out⟩
theorem Qtm(x y:ByteArray)(A:Option Addr)(n C:Nat)(c:F)(w:World)(hf:Fs w (Lo w.heap.size) (ς A n C) c)(hx:x.size≤100000):Calls prog 22 #[ξ #[ι κ 10,σ x,σ y,ς A n C]] w fun e w'=>e = ρ (τ (Qa 10 x c))∧Below w.heap.size w w':=by
  have b1:=Qb w (θ #[ι κ 10,σ x,σ y,ς A n C] 24);have HN:=QA (Qx x (by omega) (w.alloc (θ #[ι κ 10,σ x,σ y,ς A n C] 24)));have HB:=QA b1;have HF:=QA hf
  have QK:Hid (∀W,Below (w.alloc (θ #[ι κ 10,σ x,σ y,ς A n C] 24)).heap.size (w.alloc (θ #[ι κ 10,σ x,σ y,ς A n C] 24)) W→W.cell? ⟨w.heap.size,0,none⟩=some (ι κ 10)∧W.cell? ⟨w.heap.size,1,none⟩=some (σ x)∧W.cell? ⟨w.heap.size,3,none⟩=some (ς A n C)):=fun W hW=>by
    have ZJ:∀i v,#[ι κ 10,σ x,σ y,ς A n C][i]? = some v→W.cell? ⟨w.heap.size,i,none⟩=some v:=fun i v hv=>by
      rw[hW.cell (p:=⟨w.heap.size,i,none⟩) (by simp),World.cell?_alloc_at _ _ _ _ rfl];simpa using hv
    exact⟨ZJ 0 _ rfl,ZJ 1 _ rfl,ZJ 3 _ rfl⟩
  obtain⟨nb,hnb⟩:=Mem.ZB (JC x);rw[hnb]at HN;obtain⟨eb,QV⟩:=Mem.ZB ((x.toList==[]));clear b1 hf;have QX:Hid (Qa 10 x c=(eb&&Qe [.one [Qt]] c)):=by show _=_;rw[←QV];unfold Qa Q2 Q1;simp
  cases eb with
  |false =>
   have he:¬x.toList=[]:=by simpa using QV
   have UD:x.toList.isEmpty=false:=by simpa using QV
   have HV:Hid (Qa 10 x c=false):=by show _=_;rw[QX.out];rfl
   clear QV QX;go_enter func22,ntmps22;go_wp2_with fail;refine c₁ HN.out fun w1 hb=>?_;obtain⟨q0,q1,q3⟩:=QK.out w1 hb;have QJ:=QN HB hb;clear hb HN QK;go_wp2;go_ret;exact⟨by rw[HV.out];rfl,QJ.out⟩
  |true =>
   have he:x.toList=[]:=by simpa using QV
   have HV:Hid (Qa 10 x c=Qe [.one [Qt]] c):=by show _=_;rw[QX.out];rfl
   clear QV QX;go_enter func22,ntmps22;go_wp2_with fail;refine c₁ HN.out fun w1 hb=>?_;obtain⟨q0,q1,q3⟩:=QK.out w1 hb;have QJ:=QN HB hb;clear hb HN QK;have HR:=QA (Cu A n C c w1 (HF.out.later QJ.out));go_wp2_with fail;refine c₁ HR.out fun w2 hb=>?_;have QR:=QN QJ hb;clear hb;go_wp2;go_ret;exact⟨by rw[HV.out];rfl,QR.out⟩
theorem Qtl(x y:ByteArray)(A:Option Addr)(n C:Nat)(c:F)(w:World)(hf:Fs w (Lo w.heap.size) (ς A n C) c)(hx:x.size≤100000):Calls prog 22 #[ξ #[ι κ 11,σ x,σ y,ς A n C]] w fun e w'=>e = ρ (τ (Qa 11 x c))∧Below w.heap.size w w':=by
  have b1:=Qb w (θ #[ι κ 11,σ x,σ y,ς A n C] 24);have HN:=QA (Qx x (by omega) (w.alloc (θ #[ι κ 11,σ x,σ y,ς A n C] 24)));have HB:=QA b1;have HF:=QA hf
  have QK:Hid (∀W,Below (w.alloc (θ #[ι κ 11,σ x,σ y,ς A n C] 24)).heap.size (w.alloc (θ #[ι κ 11,σ x,σ y,ς A n C] 24)) W→W.cell? ⟨w.heap.size,0,none⟩=some (ι κ 11)∧W.cell? ⟨w.heap.size,1,none⟩=some (σ x)∧W.cell? ⟨w.heap.size,3,none⟩=some (ς A n C)):=fun W hW=>by
    have ZJ:∀i v,#[ι κ 11,σ x,σ y,ς A n C][i]? = some v→W.cell? ⟨w.heap.size,i,none⟩=some v:=fun i v hv=>by
      rw[hW.cell (p:=⟨w.heap.size,i,none⟩) (by simp),World.cell?_alloc_at _ _ _ _ rfl];simpa using hv
    exact⟨ZJ 0 _ rfl,ZJ 1 _ rfl,ZJ 3 _ rfl⟩
  obtain⟨nb,hnb⟩:=Mem.ZB (JC x);rw[hnb]at HN;obtain⟨eb,QV⟩:=Mem.ZB ((x.toList==[]));clear b1 hf;have QX:Hid (Qa 11 x c=(eb&&Qe [.one [Qt]] c)):=by show _=_;rw[←QV];unfold Qa Q2 Q1;simp
  cases eb with
  |false =>
   have he:¬x.toList=[]:=by simpa using QV
   have UD:x.toList.isEmpty=false:=by simpa using QV
   have HV:Hid (Qa 11 x c=false):=by show _=_;rw[QX.out];rfl
   clear QV QX;go_enter func22,ntmps22;go_wp2_with fail;refine c₁ HN.out fun w1 hb=>?_;obtain⟨q0,q1,q3⟩:=QK.out w1 hb;have QJ:=QN HB hb;clear hb HN QK;go_wp2;go_ret;exact⟨by rw[HV.out];rfl,QJ.out⟩
  |true =>
   have he:x.toList=[]:=by simpa using QV
   have HV:Hid (Qa 11 x c=Qe [.one [Qt]] c):=by show _=_;rw[QX.out];rfl
   clear QV QX;go_enter func22,ntmps22;go_wp2_with fail;refine c₁ HN.out fun w1 hb=>?_;obtain⟨q0,q1,q3⟩:=QK.out w1 hb;have QJ:=QN HB hb;clear hb HN QK;have HR:=QA (Cu A n C c w1 (HF.out.later QJ.out));go_wp2_with fail;refine c₁ HR.out fun w2 hb=>?_;have QR:=QN QJ hb;clear hb;go_wp2;go_ret;exact⟨by rw[HV.out];rfl,QR.out⟩
theorem Qtk(x y:ByteArray)(A:Option Addr)(n C:Nat)(c:F)(w:World)(hf:Fs w (Lo w.heap.size) (ς A n C) c)(hx:x.size≤100000):Calls prog 22 #[ξ #[ι κ 12,σ x,σ y,ς A n C]] w fun e w'=>e = ρ (τ (Qa 12 x c))∧Below w.heap.size w w':=by
  have b1:=Qb w (θ #[ι κ 12,σ x,σ y,ς A n C] 24);have HN:=QA (Qx x (by omega) (w.alloc (θ #[ι κ 12,σ x,σ y,ς A n C] 24)));have HB:=QA b1;have HF:=QA hf
  have QK:Hid (∀W,Below (w.alloc (θ #[ι κ 12,σ x,σ y,ς A n C] 24)).heap.size (w.alloc (θ #[ι κ 12,σ x,σ y,ς A n C] 24)) W→W.cell? ⟨w.heap.size,0,none⟩=some (ι κ 12)∧W.cell? ⟨w.heap.size,1,none⟩=some (σ x)∧W.cell? ⟨w.heap.size,3,none⟩=some (ς A n C)):=fun W hW=>by
    have ZJ:∀i v,#[ι κ 12,σ x,σ y,ς A n C][i]? = some v→W.cell? ⟨w.heap.size,i,none⟩=some v:=fun i v hv=>by
      rw[hW.cell (p:=⟨w.heap.size,i,none⟩) (by simp),World.cell?_alloc_at _ _ _ _ rfl];simpa using hv
    exact⟨ZJ 0 _ rfl,ZJ 1 _ rfl,ZJ 3 _ rfl⟩
  obtain⟨nb,hnb⟩:=Mem.ZB (JC x);rw[hnb]at HN;obtain⟨eb,QV⟩:=Mem.ZB ((x.toList==[]));clear b1 hf;have QX:Hid (Qa 12 x c=(eb&&Qe [.one [Qt],.one [Qt]] c)):=by show _=_;rw[←QV];unfold Qa Q2 Q1;simp
  cases eb with
  |false =>
   have he:¬x.toList=[]:=by simpa using QV
   have UD:x.toList.isEmpty=false:=by simpa using QV
   have HV:Hid (Qa 12 x c=false):=by show _=_;rw[QX.out];rfl
   clear QV QX;go_enter func22,ntmps22;go_wp2_with fail;refine c₁ HN.out fun w1 hb=>?_;obtain⟨q0,q1,q3⟩:=QK.out w1 hb;have QJ:=QN HB hb;clear hb HN QK;go_wp2;go_ret;exact⟨by rw[HV.out];rfl,QJ.out⟩
  |true =>
   have he:x.toList=[]:=by simpa using QV
   have HV:Hid (Qa 12 x c=Qe [.one [Qt],.one [Qt]] c):=by show _=_;rw[QX.out];rfl
   clear QV QX;go_enter func22,ntmps22;go_wp2_with fail;refine c₁ HN.out fun w1 hb=>?_;obtain⟨q0,q1,q3⟩:=QK.out w1 hb;have QJ:=QN HB hb;clear hb HN QK;have HR:=QA (Q2c A n C c w1 (HF.out.later QJ.out));go_wp2_with fail;refine c₁ HR.out fun w2 hb=>?_;have QR:=QN QJ hb;clear hb;go_wp2;go_ret;exact⟨by rw[HV.out];rfl,QR.out⟩
theorem Qtj(x y:ByteArray)(A:Option Addr)(n C:Nat)(c:F)(w:World)(hf:Fs w (Lo w.heap.size) (ς A n C) c)(hx:x.size≤100000):Calls prog 22 #[ξ #[ι κ 13,σ x,σ y,ς A n C]] w fun e w'=>e = ρ (τ (Qa 13 x c))∧Below w.heap.size w w':=by
  have b1:=Qb w (θ #[ι κ 13,σ x,σ y,ς A n C] 24);have HN:=QA (Qx x (by omega) (w.alloc (θ #[ι κ 13,σ x,σ y,ς A n C] 24)));have HB:=QA b1;have HF:=QA hf
  have QK:Hid (∀W,Below (w.alloc (θ #[ι κ 13,σ x,σ y,ς A n C] 24)).heap.size (w.alloc (θ #[ι κ 13,σ x,σ y,ς A n C] 24)) W→W.cell? ⟨w.heap.size,0,none⟩=some (ι κ 13)∧W.cell? ⟨w.heap.size,1,none⟩=some (σ x)∧W.cell? ⟨w.heap.size,3,none⟩=some (ς A n C)):=fun W hW=>by
    have ZJ:∀i v,#[ι κ 13,σ x,σ y,ς A n C][i]? = some v→W.cell? ⟨w.heap.size,i,none⟩=some v:=fun i v hv=>by
      rw[hW.cell (p:=⟨w.heap.size,i,none⟩) (by simp),World.cell?_alloc_at _ _ _ _ rfl];simpa using hv
    exact⟨ZJ 0 _ rfl,ZJ 1 _ rfl,ZJ 3 _ rfl⟩
  obtain⟨nb,hnb⟩:=Mem.ZB (JC x);rw[hnb]at HN;obtain⟨eb,QV⟩:=Mem.ZB ((x.toList==[]));clear b1 hf;have QX:Hid (Qa 13 x c=(eb&&Qe [.many (Qk [14,8])] c)):=by show _=_;rw[←QV];unfold Qa Q2 Q1;simp
  cases eb with
  |false =>
   have he:¬x.toList=[]:=by simpa using QV
   have UD:x.toList.isEmpty=false:=by simpa using QV
   have HV:Hid (Qa 13 x c=false):=by show _=_;rw[QX.out];rfl
   clear QV QX;go_enter func22,ntmps22;go_wp2_with fail;refine c₁ HN.out fun w1 hb=>?_;obtain⟨q0,q1,q3⟩:=QK.out w1 hb;have QJ:=QN HB hb;clear hb HN QK;go_wp2;go_ret;exact⟨by rw[HV.out];rfl,QJ.out⟩
  |true =>
   have he:x.toList=[]:=by simpa using QV
   have HV:Hid (Qa 13 x c=Qe [.many (Qk [14,8])] c):=by show _=_;rw[QX.out];rfl
   clear QV QX;go_enter func22,ntmps22;go_wp2_with fail;refine c₁ HN.out fun w1 hb=>?_;obtain⟨q0,q1,q3⟩:=QK.out w1 hb;have QJ:=QN HB hb;clear hb HN QK;have HR:=QA (Q2f A n C c w1 (HF.out.later QJ.out));go_wp2_with fail;refine c₁ HR.out fun w2 hb=>?_;have QR:=QN QJ hb;clear hb;go_wp2;go_ret;exact⟨by rw[HV.out];rfl,QR.out⟩
theorem Qth(x y:ByteArray)(A:Option Addr)(n C:Nat)(c:F)(w:World)(hf:Fs w (Lo w.heap.size) (ς A n C) c)(hx:x.size≤100000):Calls prog 22 #[ξ #[ι κ 15,σ x,σ y,ς A n C]] w fun e w'=>e = ρ (τ (Qa 15 x c))∧Below w.heap.size w w':=by
  have b1:=Qb w (θ #[ι κ 15,σ x,σ y,ς A n C] 24);have HN:=QA (Qx x (by omega) (w.alloc (θ #[ι κ 15,σ x,σ y,ς A n C] 24)));have HB:=QA b1;have HF:=QA hf
  have QK:Hid (∀W,Below (w.alloc (θ #[ι κ 15,σ x,σ y,ς A n C] 24)).heap.size (w.alloc (θ #[ι κ 15,σ x,σ y,ς A n C] 24)) W→W.cell? ⟨w.heap.size,0,none⟩=some (ι κ 15)∧W.cell? ⟨w.heap.size,1,none⟩=some (σ x)∧W.cell? ⟨w.heap.size,3,none⟩=some (ς A n C)):=fun W hW=>by
    have ZJ:∀i v,#[ι κ 15,σ x,σ y,ς A n C][i]? = some v→W.cell? ⟨w.heap.size,i,none⟩=some v:=fun i v hv=>by
      rw[hW.cell (p:=⟨w.heap.size,i,none⟩) (by simp),World.cell?_alloc_at _ _ _ _ rfl];simpa using hv
    exact⟨ZJ 0 _ rfl,ZJ 1 _ rfl,ZJ 3 _ rfl⟩
  obtain⟨nb,hnb⟩:=Mem.ZB (JC x);rw[hnb]at HN;obtain⟨eb,QV⟩:=Mem.ZB ((x.toList==[]));clear b1 hf;have QX:Hid (Qa 15 x c=(eb&&Qe [.many (Qk [16])] c)):=by show _=_;rw[←QV];unfold Qa Q2 Q1;simp
  cases eb with
  |false =>
   have he:¬x.toList=[]:=by simpa using QV
   have UD:x.toList.isEmpty=false:=by simpa using QV
   have HV:Hid (Qa 15 x c=false):=by show _=_;rw[QX.out];rfl
   clear QV QX;go_enter func22,ntmps22;go_wp2_with fail;refine c₁ HN.out fun w1 hb=>?_;obtain⟨q0,q1,q3⟩:=QK.out w1 hb;have QJ:=QN HB hb;clear hb HN QK;go_wp2;go_ret;exact⟨by rw[HV.out];rfl,QJ.out⟩
  |true =>
   have he:x.toList=[]:=by simpa using QV
   have HV:Hid (Qa 15 x c=Qe [.many (Qk [16])] c):=by show _=_;rw[QX.out];rfl
   clear QV QX;go_enter func22,ntmps22;go_wp2_with fail;refine c₁ HN.out fun w1 hb=>?_;obtain⟨q0,q1,q3⟩:=QK.out w1 hb;have QJ:=QN HB hb;clear hb HN QK;have HR:=QA (Q2h A n C c w1 (HF.out.later QJ.out));go_wp2_with fail;refine c₁ HR.out fun w2 hb=>?_;have QR:=QN QJ hb;clear hb;go_wp2;go_ret;exact⟨by rw[HV.out];rfl,QR.out⟩
theorem Qtf(x y:ByteArray)(A:Option Addr)(n C:Nat)(c:F)(w:World)(hf:Fs w (Lo w.heap.size) (ς A n C) c)(hx:x.size≤100000):Calls prog 22 #[ξ #[ι κ 17,σ x,σ y,ς A n C]] w fun e w'=>e = ρ (τ (Qa 17 x c))∧Below w.heap.size w w':=by
  have b1:=Qb w (θ #[ι κ 17,σ x,σ y,ς A n C] 24);have HN:=QA (Qx x (by omega) (w.alloc (θ #[ι κ 17,σ x,σ y,ς A n C] 24)));have HB:=QA b1;have HF:=QA hf
  have QK:Hid (∀W,Below (w.alloc (θ #[ι κ 17,σ x,σ y,ς A n C] 24)).heap.size (w.alloc (θ #[ι κ 17,σ x,σ y,ς A n C] 24)) W→W.cell? ⟨w.heap.size,0,none⟩=some (ι κ 17)∧W.cell? ⟨w.heap.size,1,none⟩=some (σ x)∧W.cell? ⟨w.heap.size,3,none⟩=some (ς A n C)):=fun W hW=>by
    have ZJ:∀i v,#[ι κ 17,σ x,σ y,ς A n C][i]? = some v→W.cell? ⟨w.heap.size,i,none⟩=some v:=fun i v hv=>by
      rw[hW.cell (p:=⟨w.heap.size,i,none⟩) (by simp),World.cell?_alloc_at _ _ _ _ rfl];simpa using hv
    exact⟨ZJ 0 _ rfl,ZJ 1 _ rfl,ZJ 3 _ rfl⟩
  obtain⟨nb,hnb⟩:=Mem.ZB (JC x);rw[hnb]at HN;obtain⟨eb,QV⟩:=Mem.ZB ((x.toList==[]));clear b1 hf;have QX:Hid (Qa 17 x c=(eb&&Qe [.many Js] c)):=by show _=_;rw[←QV];unfold Qa Q2 Q1;simp
  cases eb with
  |false =>
   have he:¬x.toList=[]:=by simpa using QV
   have UD:x.toList.isEmpty=false:=by simpa using QV
   have HV:Hid (Qa 17 x c=false):=by show _=_;rw[QX.out];rfl
   clear QV QX;go_enter func22,ntmps22;go_wp2_with fail;refine c₁ HN.out fun w1 hb=>?_;obtain⟨q0,q1,q3⟩:=QK.out w1 hb;have QJ:=QN HB hb;clear hb HN QK;go_wp2;go_ret;exact⟨by rw[HV.out];rfl,QJ.out⟩
  |true =>
   have he:x.toList=[]:=by simpa using QV
   have HV:Hid (Qa 17 x c=Qe [.many Js] c):=by show _=_;rw[QX.out];rfl
   clear QV QX;go_enter func22,ntmps22;go_wp2_with fail;refine c₁ HN.out fun w1 hb=>?_;obtain⟨q0,q1,q3⟩:=QK.out w1 hb;have QJ:=QN HB hb;clear hb HN QK;have HR:=QA (Q2d A n C c w1 (HF.out.later QJ.out));go_wp2_with fail;refine c₁ HR.out fun w2 hb=>?_;have QR:=QN QJ hb;clear hb;go_wp2;go_ret;exact⟨by rw[HV.out];rfl,QR.out⟩
theorem Qte(x y:ByteArray)(A:Option Addr)(n C:Nat)(c:F)(w:World)(hf:Fs w (Lo w.heap.size) (ς A n C) c)(hx:x.size≤100000):Calls prog 22 #[ξ #[ι κ 18,σ x,σ y,ς A n C]] w fun e w'=>e = ρ (τ (Qa 18 x c))∧Below w.heap.size w w':=by
  have b1:=Qb w (θ #[ι κ 18,σ x,σ y,ς A n C] 24);have HN:=QA (Qx x (by omega) (w.alloc (θ #[ι κ 18,σ x,σ y,ς A n C] 24)));have HB:=QA b1;have HF:=QA hf
  have QK:Hid (∀W,Below (w.alloc (θ #[ι κ 18,σ x,σ y,ς A n C] 24)).heap.size (w.alloc (θ #[ι κ 18,σ x,σ y,ς A n C] 24)) W→W.cell? ⟨w.heap.size,0,none⟩=some (ι κ 18)∧W.cell? ⟨w.heap.size,1,none⟩=some (σ x)∧W.cell? ⟨w.heap.size,3,none⟩=some (ς A n C)):=fun W hW=>by
    have ZJ:∀i v,#[ι κ 18,σ x,σ y,ς A n C][i]? = some v→W.cell? ⟨w.heap.size,i,none⟩=some v:=fun i v hv=>by
      rw[hW.cell (p:=⟨w.heap.size,i,none⟩) (by simp),World.cell?_alloc_at _ _ _ _ rfl];simpa using hv
    exact⟨ZJ 0 _ rfl,ZJ 1 _ rfl,ZJ 3 _ rfl⟩
  obtain⟨nb,hnb⟩:=Mem.ZB (JC x);rw[hnb]at HN;obtain⟨eb,QV⟩:=Mem.ZB ((x.toList==[]));clear b1 hf;have QX:Hid (Qa 18 x c=(eb&&Qe [.one [Qg],.one [Qk [17]],.one [Qk [17,18],Qk [33]]] c)):=by show _=_;rw[←QV];unfold Qa Q2 Q1;simp
  cases eb with
  |false =>
   have he:¬x.toList=[]:=by simpa using QV
   have UD:x.toList.isEmpty=false:=by simpa using QV
   have HV:Hid (Qa 18 x c=false):=by show _=_;rw[QX.out];rfl
   clear QV QX;go_enter func22,ntmps22;go_wp2_with fail;refine c₁ HN.out fun w1 hb=>?_;obtain⟨q0,q1,q3⟩:=QK.out w1 hb;have QJ:=QN HB hb;clear hb HN QK;go_wp2;go_ret;exact⟨by rw[HV.out];rfl,QJ.out⟩
  |true =>
   have he:x.toList=[]:=by simpa using QV
   have HV:Hid (Qa 18 x c=Qe [.one [Qg],.one [Qk [17]],.one [Qk [17,18],Qk [33]]] c):=by show _=_;rw[QX.out];rfl
   clear QV QX;go_enter func22,ntmps22;go_wp2_with fail;refine c₁ HN.out fun w1 hb=>?_;obtain⟨q0,q1,q3⟩:=QK.out w1 hb;have QJ:=QN HB hb;clear hb HN QK;have HR:=QA (Q03 A n C c w1 (HF.out.later QJ.out));go_wp2_with fail;refine c₁ HR.out fun w2 hb=>?_;have QR:=QN QJ hb;clear hb;go_wp2;go_ret;exact⟨by rw[HV.out];rfl,QR.out⟩
theorem Qtd(x y:ByteArray)(A:Option Addr)(n C:Nat)(c:F)(w:World)(hf:Fs w (Lo w.heap.size) (ς A n C) c)(hx:x.size≤100000):Calls prog 22 #[ξ #[ι κ 19,σ x,σ y,ς A n C]] w fun e w'=>e = ρ (τ (Qa 19 x c))∧Below w.heap.size w w':=by
  have b1:=Qb w (θ #[ι κ 19,σ x,σ y,ς A n C] 24);have HN:=QA (Qx x (by omega) (w.alloc (θ #[ι κ 19,σ x,σ y,ς A n C] 24)));have HB:=QA b1;have HF:=QA hf
  have QK:Hid (∀W,Below (w.alloc (θ #[ι κ 19,σ x,σ y,ς A n C] 24)).heap.size (w.alloc (θ #[ι κ 19,σ x,σ y,ς A n C] 24)) W→W.cell? ⟨w.heap.size,0,none⟩=some (ι κ 19)∧W.cell? ⟨w.heap.size,1,none⟩=some (σ x)∧W.cell? ⟨w.heap.size,3,none⟩=some (ς A n C)):=fun W hW=>by
    have ZJ:∀i v,#[ι κ 19,σ x,σ y,ς A n C][i]? = some v→W.cell? ⟨w.heap.size,i,none⟩=some v:=fun i v hv=>by
      rw[hW.cell (p:=⟨w.heap.size,i,none⟩) (by simp),World.cell?_alloc_at _ _ _ _ rfl];simpa using hv
    exact⟨ZJ 0 _ rfl,ZJ 1 _ rfl,ZJ 3 _ rfl⟩
  obtain⟨nb,hnb⟩:=Mem.ZB (JC x);rw[hnb]at HN;obtain⟨eb,QV⟩:=Mem.ZB ((x.toList==[]));clear b1 hf;have QX:Hid (Qa 19 x c=(eb&&Qe [.one [Qg,Qk [33]],.one [Qk [17]]] c)):=by show _=_;rw[←QV];unfold Qa Q2 Q1;simp
  cases eb with
  |false =>
   have he:¬x.toList=[]:=by simpa using QV
   have UD:x.toList.isEmpty=false:=by simpa using QV
   have HV:Hid (Qa 19 x c=false):=by show _=_;rw[QX.out];rfl
   clear QV QX;go_enter func22,ntmps22;go_wp2_with fail;refine c₁ HN.out fun w1 hb=>?_;obtain⟨q0,q1,q3⟩:=QK.out w1 hb;have QJ:=QN HB hb;clear hb HN QK;go_wp2;go_ret;exact⟨by rw[HV.out];rfl,QJ.out⟩
  |true =>
   have he:x.toList=[]:=by simpa using QV
   have HV:Hid (Qa 19 x c=Qe [.one [Qg,Qk [33]],.one [Qk [17]]] c):=by show _=_;rw[QX.out];rfl
   clear QV QX;go_enter func22,ntmps22;go_wp2_with fail;refine c₁ HN.out fun w1 hb=>?_;obtain⟨q0,q1,q3⟩:=QK.out w1 hb;have QJ:=QN HB hb;clear hb HN QK;have HR:=QA (Q2j A n C c w1 (HF.out.later QJ.out));go_wp2_with fail;refine c₁ HR.out fun w2 hb=>?_;have QR:=QN QJ hb;clear hb;go_wp2;go_ret;exact⟨by rw[HV.out];rfl,QR.out⟩
theorem Qtc(x y:ByteArray)(A:Option Addr)(n C:Nat)(c:F)(w:World)(hf:Fs w (Lo w.heap.size) (ς A n C) c)(hx:x.size≤100000):Calls prog 22 #[ξ #[ι κ 20,σ x,σ y,ς A n C]] w fun e w'=>e = ρ (τ (Qa 20 x c))∧Below w.heap.size w w':=by
  have b1:=Qb w (θ #[ι κ 20,σ x,σ y,ς A n C] 24);have HN:=QA (Qx x (by omega) (w.alloc (θ #[ι κ 20,σ x,σ y,ς A n C] 24)));have HB:=QA b1;have HF:=QA hf
  have QK:Hid (∀W,Below (w.alloc (θ #[ι κ 20,σ x,σ y,ς A n C] 24)).heap.size (w.alloc (θ #[ι κ 20,σ x,σ y,ς A n C] 24)) W→W.cell? ⟨w.heap.size,0,none⟩=some (ι κ 20)∧W.cell? ⟨w.heap.size,1,none⟩=some (σ x)∧W.cell? ⟨w.heap.size,3,none⟩=some (ς A n C)):=fun W hW=>by
    have ZJ:∀i v,#[ι κ 20,σ x,σ y,ς A n C][i]? = some v→W.cell? ⟨w.heap.size,i,none⟩=some v:=fun i v hv=>by
      rw[hW.cell (p:=⟨w.heap.size,i,none⟩) (by simp),World.cell?_alloc_at _ _ _ _ rfl];simpa using hv
    exact⟨ZJ 0 _ rfl,ZJ 1 _ rfl,ZJ 3 _ rfl⟩
  obtain⟨nb,hnb⟩:=Mem.ZB (JC x);rw[hnb]at HN;obtain⟨eb,QV⟩:=Mem.ZB ((x.toList==[]));clear b1 hf;have QX:Hid (Qa 20 x c=(eb&&Qe [.many Qg] c)):=by show _=_;rw[←QV];unfold Qa Q2 Q1;simp
  cases eb with
  |false =>
   have he:¬x.toList=[]:=by simpa using QV
   have UD:x.toList.isEmpty=false:=by simpa using QV
   have HV:Hid (Qa 20 x c=false):=by show _=_;rw[QX.out];rfl
   clear QV QX;go_enter func22,ntmps22;go_wp2_with fail;refine c₁ HN.out fun w1 hb=>?_;obtain⟨q0,q1,q3⟩:=QK.out w1 hb;have QJ:=QN HB hb;clear hb HN QK;go_wp2;go_ret;exact⟨by rw[HV.out];rfl,QJ.out⟩
  |true =>
   have he:x.toList=[]:=by simpa using QV
   have HV:Hid (Qa 20 x c=Qe [.many Qg] c):=by show _=_;rw[QX.out];rfl
   clear QV QX;go_enter func22,ntmps22;go_wp2_with fail;refine c₁ HN.out fun w1 hb=>?_;obtain⟨q0,q1,q3⟩:=QK.out w1 hb;have QJ:=QN HB hb;clear hb HN QK;have HR:=QA (Q2g A n C c w1 (HF.out.later QJ.out));go_wp2_with fail;refine c₁ HR.out fun w2 hb=>?_;have QR:=QN QJ hb;clear hb;go_wp2;go_ret;exact⟨by rw[HV.out];rfl,QR.out⟩
theorem Qta(x y:ByteArray)(A:Option Addr)(n C:Nat)(c:F)(w:World)(hf:Fs w (Lo w.heap.size) (ς A n C) c)(hx:x.size≤100000):Calls prog 22 #[ξ #[ι κ 23,σ x,σ y,ς A n C]] w fun e w'=>e = ρ (τ (Qa 23 x c))∧Below w.heap.size w w':=by
  have b1:=Qb w (θ #[ι κ 23,σ x,σ y,ς A n C] 24);have HN:=QA (Qx x (by omega) (w.alloc (θ #[ι κ 23,σ x,σ y,ς A n C] 24)));have HB:=QA b1;have HF:=QA hf
  have QK:Hid (∀W,Below (w.alloc (θ #[ι κ 23,σ x,σ y,ς A n C] 24)).heap.size (w.alloc (θ #[ι κ 23,σ x,σ y,ς A n C] 24)) W→W.cell? ⟨w.heap.size,0,none⟩=some (ι κ 23)∧W.cell? ⟨w.heap.size,1,none⟩=some (σ x)∧W.cell? ⟨w.heap.size,3,none⟩=some (ς A n C)):=fun W hW=>by
    have ZJ:∀i v,#[ι κ 23,σ x,σ y,ς A n C][i]? = some v→W.cell? ⟨w.heap.size,i,none⟩=some v:=fun i v hv=>by
      rw[hW.cell (p:=⟨w.heap.size,i,none⟩) (by simp),World.cell?_alloc_at _ _ _ _ rfl];simpa using hv
    exact⟨ZJ 0 _ rfl,ZJ 1 _ rfl,ZJ 3 _ rfl⟩
  obtain⟨nb,hnb⟩:=Mem.ZB (JC x);rw[hnb]at HN;obtain⟨eb,QV⟩:=Mem.ZB ((x.toList==[]));clear b1 hf;have QX:Hid (Qa 23 x c=(eb&&Qe [.one [Qk [30]]] c)):=by show _=_;rw[←QV];unfold Qa Q2 Q1;simp
  cases eb with
  |false =>
   have he:¬x.toList=[]:=by simpa using QV
   have UD:x.toList.isEmpty=false:=by simpa using QV
   have HV:Hid (Qa 23 x c=false):=by show _=_;rw[QX.out];rfl
   clear QV QX;go_enter func22,ntmps22;go_wp2_with fail;refine c₁ HN.out fun w1 hb=>?_;obtain⟨q0,q1,q3⟩:=QK.out w1 hb;have QJ:=QN HB hb;clear hb HN QK;go_wp2;go_ret;exact⟨by rw[HV.out];rfl,QJ.out⟩
  |true =>
   have he:x.toList=[]:=by simpa using QV
   have HV:Hid (Qa 23 x c=Qe [.one [Qk [30]]] c):=by show _=_;rw[QX.out];rfl
   clear QV QX;go_enter func22,ntmps22;go_wp2_with fail;refine c₁ HN.out fun w1 hb=>?_;obtain⟨q0,q1,q3⟩:=QK.out w1 hb;have QJ:=QN HB hb;clear hb HN QK;have HR:=QA (Q22 A n C c w1 (HF.out.later QJ.out));go_wp2_with fail;refine c₁ HR.out fun w2 hb=>?_;have QR:=QN QJ hb;clear hb;go_wp2;go_ret;exact⟨by rw[HV.out];rfl,QR.out⟩
theorem Qs3(x y:ByteArray)(A:Option Addr)(n C:Nat)(c:F)(w:World)(hf:Fs w (Lo w.heap.size) (ς A n C) c)(hx:x.size≤100000):Calls prog 22 #[ξ #[ι κ 30,σ x,σ y,ς A n C]] w fun e w'=>e = ρ (τ (Qa 30 x c))∧Below w.heap.size w w':=by
  have b1:=Qb w (θ #[ι κ 30,σ x,σ y,ς A n C] 24);have HN:=QA (Qx x (by omega) (w.alloc (θ #[ι κ 30,σ x,σ y,ς A n C] 24)));have HB:=QA b1;have HF:=QA hf
  have QK:Hid (∀W,Below (w.alloc (θ #[ι κ 30,σ x,σ y,ς A n C] 24)).heap.size (w.alloc (θ #[ι κ 30,σ x,σ y,ς A n C] 24)) W→W.cell? ⟨w.heap.size,0,none⟩=some (ι κ 30)∧W.cell? ⟨w.heap.size,1,none⟩=some (σ x)∧W.cell? ⟨w.heap.size,3,none⟩=some (ς A n C)):=fun W hW=>by
    have ZJ:∀i v,#[ι κ 30,σ x,σ y,ς A n C][i]? = some v→W.cell? ⟨w.heap.size,i,none⟩=some v:=fun i v hv=>by
      rw[hW.cell (p:=⟨w.heap.size,i,none⟩) (by simp),World.cell?_alloc_at _ _ _ _ rfl];simpa using hv
    exact⟨ZJ 0 _ rfl,ZJ 1 _ rfl,ZJ 3 _ rfl⟩
  obtain⟨nb,hnb⟩:=Mem.ZB (JC x);rw[hnb]at HN;obtain⟨eb,QV⟩:=Mem.ZB ((x.toList==[]));clear b1 hf;have QX:Hid (Qa 30 x c=(eb&&Qe [.one [Qg],.many Qg] c)):=by show _=_;rw[←QV];unfold Qa Q2 Q1;simp
  cases eb with
  |false =>
   have he:¬x.toList=[]:=by simpa using QV
   have UD:x.toList.isEmpty=false:=by simpa using QV
   have HV:Hid (Qa 30 x c=false):=by show _=_;rw[QX.out];rfl
   clear QV QX;go_enter func22,ntmps22;go_wp2_with fail;refine c₁ HN.out fun w1 hb=>?_;obtain⟨q0,q1,q3⟩:=QK.out w1 hb;have QJ:=QN HB hb;clear hb HN QK;go_wp2;go_ret;exact⟨by rw[HV.out];rfl,QJ.out⟩
  |true =>
   have he:x.toList=[]:=by simpa using QV
   have HV:Hid (Qa 30 x c=Qe [.one [Qg],.many Qg] c):=by show _=_;rw[QX.out];rfl
   clear QV QX;go_enter func22,ntmps22;go_wp2_with fail;refine c₁ HN.out fun w1 hb=>?_;obtain⟨q0,q1,q3⟩:=QK.out w1 hb;have QJ:=QN HB hb;clear hb HN QK;have HR:=QA (Q02 A n C c w1 (HF.out.later QJ.out));go_wp2_with fail;refine c₁ HR.out fun w2 hb=>?_;have QR:=QN QJ hb;clear hb;go_wp2;go_ret;exact⟨by rw[HV.out];rfl,QR.out⟩
theorem Qs2(x y:ByteArray)(A:Option Addr)(n C:Nat)(c:F)(w:World)(hf:Fs w (Lo w.heap.size) (ς A n C) c)(hx:x.size≤100000):Calls prog 22 #[ξ #[ι κ 31,σ x,σ y,ς A n C]] w fun e w'=>e = ρ (τ (Qa 31 x c))∧Below w.heap.size w w':=by
  have b1:=Qb w (θ #[ι κ 31,σ x,σ y,ς A n C] 24);have HN:=QA (Qx x (by omega) (w.alloc (θ #[ι κ 31,σ x,σ y,ς A n C] 24)));have HB:=QA b1;have HF:=QA hf
  have QK:Hid (∀W,Below (w.alloc (θ #[ι κ 31,σ x,σ y,ς A n C] 24)).heap.size (w.alloc (θ #[ι κ 31,σ x,σ y,ς A n C] 24)) W→W.cell? ⟨w.heap.size,0,none⟩=some (ι κ 31)∧W.cell? ⟨w.heap.size,1,none⟩=some (σ x)∧W.cell? ⟨w.heap.size,3,none⟩=some (ς A n C)):=fun W hW=>by
    have ZJ:∀i v,#[ι κ 31,σ x,σ y,ς A n C][i]? = some v→W.cell? ⟨w.heap.size,i,none⟩=some v:=fun i v hv=>by
      rw[hW.cell (p:=⟨w.heap.size,i,none⟩) (by simp),World.cell?_alloc_at _ _ _ _ rfl];simpa using hv
    exact⟨ZJ 0 _ rfl,ZJ 1 _ rfl,ZJ 3 _ rfl⟩
  obtain⟨nb,hnb⟩:=Mem.ZB (JC x);rw[hnb]at HN;obtain⟨eb,QV⟩:=Mem.ZB ((x.toList==[]));clear b1 hf;have QX:Hid (Qa 31 x c=(eb&&Qe [.one [Qg],.one [Qg]] c)):=by show _=_;rw[←QV];unfold Qa Q2 Q1;simp
  cases eb with
  |false =>
   have he:¬x.toList=[]:=by simpa using QV
   have UD:x.toList.isEmpty=false:=by simpa using QV
   have HV:Hid (Qa 31 x c=false):=by show _=_;rw[QX.out];rfl
   clear QV QX;go_enter func22,ntmps22;go_wp2_with fail;refine c₁ HN.out fun w1 hb=>?_;obtain⟨q0,q1,q3⟩:=QK.out w1 hb;have QJ:=QN HB hb;clear hb HN QK;go_wp2;go_ret;exact⟨by rw[HV.out];rfl,QJ.out⟩
  |true =>
   have he:x.toList=[]:=by simpa using QV
   have HV:Hid (Qa 31 x c=Qe [.one [Qg],.one [Qg]] c):=by show _=_;rw[QX.out];rfl
   clear QV QX;go_enter func22,ntmps22;go_wp2_with fail;refine c₁ HN.out fun w1 hb=>?_;obtain⟨q0,q1,q3⟩:=QK.out w1 hb;have QJ:=QN HB hb;clear hb HN QK;have HR:=QA (dm A n C c w1 (HF.out.later QJ.out));go_wp2_with fail;refine c₁ HR.out fun w2 hb=>?_;have QR:=QN QJ hb;clear hb;go_wp2;go_ret;exact⟨by rw[HV.out];rfl,QR.out⟩
theorem Qs9(x y:ByteArray)(A:Option Addr)(n C:Nat)(c:F)(w:World)(hf:Fs w (Lo w.heap.size) (ς A n C) c)(hx:x.size≤100000):Calls prog 22 #[ξ #[ι κ 24,σ x,σ y,ς A n C]] w fun e w'=>e = ρ (τ (Qa 24 x c))∧Below w.heap.size w w':=by
  have b1:=Qb w (θ #[ι κ 24,σ x,σ y,ς A n C] 24);have HN:=QA (Qx x (by omega) (w.alloc (θ #[ι κ 24,σ x,σ y,ς A n C] 24)));have HB:=QA b1;have HF:=QA hf
  have QK:Hid (∀W,Below (w.alloc (θ #[ι κ 24,σ x,σ y,ς A n C] 24)).heap.size (w.alloc (θ #[ι κ 24,σ x,σ y,ς A n C] 24)) W→W.cell? ⟨w.heap.size,0,none⟩=some (ι κ 24)∧W.cell? ⟨w.heap.size,1,none⟩=some (σ x)∧W.cell? ⟨w.heap.size,3,none⟩=some (ς A n C)):=fun W hW=>by
    have ZJ:∀i v,#[ι κ 24,σ x,σ y,ς A n C][i]? = some v→W.cell? ⟨w.heap.size,i,none⟩=some v:=fun i v hv=>by
      rw[hW.cell (p:=⟨w.heap.size,i,none⟩) (by simp),World.cell?_alloc_at _ _ _ _ rfl];simpa using hv
    exact⟨ZJ 0 _ rfl,ZJ 1 _ rfl,ZJ 3 _ rfl⟩
  obtain⟨nb,hnb⟩:=Mem.ZB (JC x);rw[hnb]at HN;obtain⟨eb,QV⟩:=Mem.ZB ((x.toList==[]));clear b1 hf;have QX:Hid (Qa 24 x c=(eb&&decide (c.len=0))):=by show _=_;rw[←QV];unfold Qa Q2 Q1;simp
  obtain⟨A0,C0,e,_,_⟩:=HF.out.slice;injection e with e1 e2 e3;have hlen:c.len=n:=e2.symm;clear e1 e2 e3;cases eb with
  |false =>
   have he:¬x.toList=[]:=by simpa using QV
   have UD:x.toList.isEmpty=false:=by simpa using QV
   have HV:Hid (Qa 24 x c=false):=by show _=_;rw[QX.out];rfl
   clear QV QX;go_enter func22,ntmps22;go_wp2_with fail;refine c₁ HN.out fun w1 hb=>?_;obtain⟨q0,q1,q3⟩:=QK.out w1 hb;have QJ:=QN HB hb;clear hb HN QK;go_wp2;go_ret;exact⟨by rw[HV.out];rfl,QJ.out⟩
  |true =>
   have he:x.toList=[]:=by simpa using QV
   have HV:Hid (Qa 24 x c=((n:Int)==0)):=by
     show _=_;rw[QX.out,hlen];by_cases hz:n=0
     ·subst hz;rfl
     ·rw[decide_eq_false hz,ZC (by omega)];rfl
   clear QV QX hlen;go_enter func22,ntmps22;go_wp2_with fail;refine c₁ HN.out fun w1 hb=>?_;obtain⟨q0,q1,q3⟩:=QK.out w1 hb;have QJ:=QN HB hb;clear hb HN QK;go_wp2;go_ret;exact⟨by rw[HV.out];rfl,QJ.out⟩
theorem Qs8(x y:ByteArray)(A:Option Addr)(n C:Nat)(c:F)(w:World)(hf:Fs w (Lo w.heap.size) (ς A n C) c)(hx:x.size≤100000):Calls prog 22 #[ξ #[ι κ 25,σ x,σ y,ς A n C]] w fun e w'=>e = ρ (τ (Qa 25 x c))∧Below w.heap.size w w':=by
  have b1:=Qb w (θ #[ι κ 25,σ x,σ y,ς A n C] 24);have HN:=QA (Qx x (by omega) (w.alloc (θ #[ι κ 25,σ x,σ y,ς A n C] 24)));have HB:=QA b1;have HF:=QA hf
  have QK:Hid (∀W,Below (w.alloc (θ #[ι κ 25,σ x,σ y,ς A n C] 24)).heap.size (w.alloc (θ #[ι κ 25,σ x,σ y,ς A n C] 24)) W→W.cell? ⟨w.heap.size,0,none⟩=some (ι κ 25)∧W.cell? ⟨w.heap.size,1,none⟩=some (σ x)∧W.cell? ⟨w.heap.size,3,none⟩=some (ς A n C)):=fun W hW=>by
    have ZJ:∀i v,#[ι κ 25,σ x,σ y,ς A n C][i]? = some v→W.cell? ⟨w.heap.size,i,none⟩=some v:=fun i v hv=>by
      rw[hW.cell (p:=⟨w.heap.size,i,none⟩) (by simp),World.cell?_alloc_at _ _ _ _ rfl];simpa using hv
    exact⟨ZJ 0 _ rfl,ZJ 1 _ rfl,ZJ 3 _ rfl⟩
  obtain⟨nb,hnb⟩:=Mem.ZB (JC x);rw[hnb]at HN;obtain⟨eb,QV⟩:=Mem.ZB ((x.toList==[]));clear b1 hf;have QX:Hid (Qa 25 x c=(eb&&decide (c.len=0))):=by show _=_;rw[←QV];unfold Qa Q2 Q1;simp
  obtain⟨A0,C0,e,_,_⟩:=HF.out.slice;injection e with e1 e2 e3;have hlen:c.len=n:=e2.symm;clear e1 e2 e3;cases eb with
  |false =>
   have he:¬x.toList=[]:=by simpa using QV
   have UD:x.toList.isEmpty=false:=by simpa using QV
   have HV:Hid (Qa 25 x c=false):=by show _=_;rw[QX.out];rfl
   clear QV QX;go_enter func22,ntmps22;go_wp2_with fail;refine c₁ HN.out fun w1 hb=>?_;obtain⟨q0,q1,q3⟩:=QK.out w1 hb;have QJ:=QN HB hb;clear hb HN QK;go_wp2;go_ret;exact⟨by rw[HV.out];rfl,QJ.out⟩
  |true =>
   have he:x.toList=[]:=by simpa using QV
   have HV:Hid (Qa 25 x c=((n:Int)==0)):=by
     show _=_;rw[QX.out,hlen];by_cases hz:n=0
     ·subst hz;rfl
     ·rw[decide_eq_false hz,ZC (by omega)];rfl
   clear QV QX hlen;go_enter func22,ntmps22;go_wp2_with fail;refine c₁ HN.out fun w1 hb=>?_;obtain⟨q0,q1,q3⟩:=QK.out w1 hb;have QJ:=QN HB hb;clear hb HN QK;go_wp2;go_ret;exact⟨by rw[HV.out];rfl,QJ.out⟩
theorem Qs0(x y:ByteArray)(A:Option Addr)(n C:Nat)(c:F)(w:World)(hf:Fs w (Lo w.heap.size) (ς A n C) c)(hx:x.size≤100000):Calls prog 22 #[ξ #[ι κ 33,σ x,σ y,ς A n C]] w fun e w'=>e = ρ (τ (Qa 33 x c))∧Below w.heap.size w w':=by
  have b1:=Qb w (θ #[ι κ 33,σ x,σ y,ς A n C] 24);have HN:=QA (Qx x (by omega) (w.alloc (θ #[ι κ 33,σ x,σ y,ς A n C] 24)));have HB:=QA b1;have HF:=QA hf
  have QK:Hid (∀W,Below (w.alloc (θ #[ι κ 33,σ x,σ y,ς A n C] 24)).heap.size (w.alloc (θ #[ι κ 33,σ x,σ y,ς A n C] 24)) W→W.cell? ⟨w.heap.size,0,none⟩=some (ι κ 33)∧W.cell? ⟨w.heap.size,1,none⟩=some (σ x)∧W.cell? ⟨w.heap.size,3,none⟩=some (ς A n C)):=fun W hW=>by
    have ZJ:∀i v,#[ι κ 33,σ x,σ y,ς A n C][i]? = some v→W.cell? ⟨w.heap.size,i,none⟩=some v:=fun i v hv=>by
      rw[hW.cell (p:=⟨w.heap.size,i,none⟩) (by simp),World.cell?_alloc_at _ _ _ _ rfl];simpa using hv
    exact⟨ZJ 0 _ rfl,ZJ 1 _ rfl,ZJ 3 _ rfl⟩
  obtain⟨nb,hnb⟩:=Mem.ZB (JC x);rw[hnb]at HN;obtain⟨eb,QV⟩:=Mem.ZB ((x.toList==[]));clear b1 hf;have QX:Hid (Qa 33 x c=(eb&&decide (c.len=0))):=by show _=_;rw[←QV];unfold Qa Q2 Q1;simp
  obtain⟨A0,C0,e,_,_⟩:=HF.out.slice;injection e with e1 e2 e3;have hlen:c.len=n:=e2.symm;clear e1 e2 e3;cases eb with
  |false =>
   have he:¬x.toList=[]:=by simpa using QV
   have UD:x.toList.isEmpty=false:=by simpa using QV
   have HV:Hid (Qa 33 x c=false):=by show _=_;rw[QX.out];rfl
   clear QV QX;go_enter func22,ntmps22;go_wp2_with fail;refine c₁ HN.out fun w1 hb=>?_;obtain⟨q0,q1,q3⟩:=QK.out w1 hb;have QJ:=QN HB hb;clear hb HN QK;go_wp2;go_ret;exact⟨by rw[HV.out];rfl,QJ.out⟩
  |true =>
   have he:x.toList=[]:=by simpa using QV
   have HV:Hid (Qa 33 x c=((n:Int)==0)):=by
     show _=_;rw[QX.out,hlen];by_cases hz:n=0
     ·subst hz;rfl
     ·rw[decide_eq_false hz,ZC (by omega)];rfl
   clear QV QX hlen;go_enter func22,ntmps22;go_wp2_with fail;refine c₁ HN.out fun w1 hb=>?_;obtain⟨q0,q1,q3⟩:=QK.out w1 hb;have QJ:=QN HB hb;clear hb HN QK;go_wp2;go_ret;exact⟨by rw[HV.out];rfl,QJ.out⟩
theorem Qw5(x y:ByteArray)(A:Option Addr)(n C:Nat)(c:F)(w:World)(hf:Fs w (Lo w.heap.size) (ς A n C) c)(hx:x.size≤100000):Calls prog 22 #[ξ #[ι κ 2,σ x,σ y,ς A n C]] w fun e w'=>e = ρ (τ (Qa 2 x c))∧Below w.heap.size w w':=by
  have b1:=Qb w (θ #[ι κ 2,σ x,σ y,ς A n C] 24);have HN:=QA (Qx x (by omega) (w.alloc (θ #[ι κ 2,σ x,σ y,ς A n C] 24)));have HB:=QA b1;have HF:=QA hf
  have QK:Hid (∀W,Below (w.alloc (θ #[ι κ 2,σ x,σ y,ς A n C] 24)).heap.size (w.alloc (θ #[ι κ 2,σ x,σ y,ς A n C] 24)) W→W.cell? ⟨w.heap.size,0,none⟩=some (ι κ 2)∧W.cell? ⟨w.heap.size,1,none⟩=some (σ x)∧W.cell? ⟨w.heap.size,3,none⟩=some (ς A n C)):=fun W hW=>by
    have ZJ:∀i v,#[ι κ 2,σ x,σ y,ς A n C][i]? = some v→W.cell? ⟨w.heap.size,i,none⟩=some v:=fun i v hv=>by
      rw[hW.cell (p:=⟨w.heap.size,i,none⟩) (by simp),World.cell?_alloc_at _ _ _ _ rfl];simpa using hv
    exact⟨ZJ 0 _ rfl,ZJ 1 _ rfl,ZJ 3 _ rfl⟩
  obtain⟨nb,hnb⟩:=Mem.ZB (JC x);rw[hnb]at HN;obtain⟨eb,QV⟩:=Mem.ZB ((x.toList==[]));clear b1 hf;have QX:Hid (Qa 2 x c=(nb&&decide (c.len=0))):=by show _=_;rw[←hnb];unfold Qa Q2 Q1;simp
  obtain⟨A0,C0,e,_,_⟩:=HF.out.slice;injection e with e1 e2 e3;have hlen:c.len=n:=e2.symm;clear e1 e2 e3;cases eb with
  |false =>
   have he:¬x.toList=[]:=by simpa using QV
   have UD:x.toList.isEmpty=false:=by simpa using QV
   cases nb with
   |false =>
    have HV:Hid (Qa 2 x c=false):=by show _=_;rw[QX.out];rfl
    clear QV QX hnb;go_enter func22,ntmps22;go_wp2_with fail;refine c₁ HN.out fun w1 hb=>?_;obtain⟨q0,q1,q3⟩:=QK.out w1 hb;have QJ:=QN HB hb;clear hb HN QK;go_wp2;go_ret;exact⟨by rw[HV.out];rfl,QJ.out⟩
   |true =>
    have HV:Hid (Qa 2 x c=((n:Int)==0)):=by
      show _=_;rw[QX.out,hlen];by_cases hz:n=0
      ·subst hz;rfl
      ·rw[decide_eq_false hz,ZC (by omega)];rfl
    clear QV QX hlen hnb;go_enter func22,ntmps22;go_wp2_with fail;refine c₁ HN.out fun w1 hb=>?_;obtain⟨q0,q1,q3⟩:=QK.out w1 hb;have QJ:=QN HB hb;clear hb HN QK;go_wp2;go_ret;exact⟨by rw[HV.out];rfl,QJ.out⟩
  |true =>
   have he:x.toList=[]:=by simpa using QV
   cases nb with
   |false =>
    have HV:Hid (Qa 2 x c=false):=by show _=_;rw[QX.out];rfl
    clear QV QX hnb;go_enter func22,ntmps22;go_wp2_with fail;refine c₁ HN.out fun w1 hb=>?_;obtain⟨q0,q1,q3⟩:=QK.out w1 hb;have QJ:=QN HB hb;clear hb HN QK;go_wp2;go_ret;exact⟨by rw[HV.out];rfl,QJ.out⟩
   |true =>
    have HV:Hid (Qa 2 x c=((n:Int)==0)):=by
      show _=_;rw[QX.out,hlen];by_cases hz:n=0
      ·subst hz;rfl
      ·rw[decide_eq_false hz,ZC (by omega)];rfl
    clear QV QX hlen hnb;go_enter func22,ntmps22;go_wp2_with fail;refine c₁ HN.out fun w1 hb=>?_;obtain⟨q0,q1,q3⟩:=QK.out w1 hb;have QJ:=QN HB hb;clear hb HN QK;go_wp2;go_ret;exact⟨by rw[HV.out];rfl,QJ.out⟩
theorem wV(x y:ByteArray)(A:Option Addr)(n C:Nat)(c:F)(w:World)(hf:Fs w (Lo w.heap.size) (ς A n C) c)(hx:x.size≤100000):Calls prog 22 #[ξ #[ι κ 9,σ x,σ y,ς A n C]] w fun e w'=>e = ρ (τ (Qa 9 x c))∧Below w.heap.size w w':=by
  have b1:=Qb w (θ #[ι κ 9,σ x,σ y,ς A n C] 24);have HN:=QA (Qx x (by omega) (w.alloc (θ #[ι κ 9,σ x,σ y,ς A n C] 24)));have HB:=QA b1;have HF:=QA hf
  have QK:Hid (∀W,Below (w.alloc (θ #[ι κ 9,σ x,σ y,ς A n C] 24)).heap.size (w.alloc (θ #[ι κ 9,σ x,σ y,ς A n C] 24)) W→W.cell? ⟨w.heap.size,0,none⟩=some (ι κ 9)∧W.cell? ⟨w.heap.size,1,none⟩=some (σ x)∧W.cell? ⟨w.heap.size,3,none⟩=some (ς A n C)):=fun W hW=>by
    have ZJ:∀i v,#[ι κ 9,σ x,σ y,ς A n C][i]? = some v→W.cell? ⟨w.heap.size,i,none⟩=some v:=fun i v hv=>by
      rw[hW.cell (p:=⟨w.heap.size,i,none⟩) (by simp),World.cell?_alloc_at _ _ _ _ rfl];simpa using hv
    exact⟨ZJ 0 _ rfl,ZJ 1 _ rfl,ZJ 3 _ rfl⟩
  obtain⟨nb,hnb⟩:=Mem.ZB (JC x);rw[hnb]at HN;obtain⟨eb,QV⟩:=Mem.ZB ((x.toList==[]));clear b1 hf;have QX:Hid (Qa 9 x c=(nb&&decide (c.len=0))):=by show _=_;rw[←hnb];unfold Qa Q2 Q1;simp
  obtain⟨A0,C0,e,_,_⟩:=HF.out.slice;injection e with e1 e2 e3;have hlen:c.len=n:=e2.symm;clear e1 e2 e3;cases eb with
  |false =>
   have he:¬x.toList=[]:=by simpa using QV
   have UD:x.toList.isEmpty=false:=by simpa using QV
   cases nb with
   |false =>
    have HV:Hid (Qa 9 x c=false):=by show _=_;rw[QX.out];rfl
    clear QV QX hnb;go_enter func22,ntmps22;go_wp2_with fail;refine c₁ HN.out fun w1 hb=>?_;obtain⟨q0,q1,q3⟩:=QK.out w1 hb;have QJ:=QN HB hb;clear hb HN QK;go_wp2;go_ret;exact⟨by rw[HV.out];rfl,QJ.out⟩
   |true =>
    have HV:Hid (Qa 9 x c=((n:Int)==0)):=by
      show _=_;rw[QX.out,hlen];by_cases hz:n=0
      ·subst hz;rfl
      ·rw[decide_eq_false hz,ZC (by omega)];rfl
    clear QV QX hlen hnb;go_enter func22,ntmps22;go_wp2_with fail;refine c₁ HN.out fun w1 hb=>?_;obtain⟨q0,q1,q3⟩:=QK.out w1 hb;have QJ:=QN HB hb;clear hb HN QK;go_wp2;go_ret;exact⟨by rw[HV.out];rfl,QJ.out⟩
  |true =>
   have he:x.toList=[]:=by simpa using QV
   cases nb with
   |false =>
    have HV:Hid (Qa 9 x c=false):=by show _=_;rw[QX.out];rfl
    clear QV QX hnb;go_enter func22,ntmps22;go_wp2_with fail;refine c₁ HN.out fun w1 hb=>?_;obtain⟨q0,q1,q3⟩:=QK.out w1 hb;have QJ:=QN HB hb;clear hb HN QK;go_wp2;go_ret;exact⟨by rw[HV.out];rfl,QJ.out⟩
   |true =>
    have HV:Hid (Qa 9 x c=((n:Int)==0)):=by
      show _=_;rw[QX.out,hlen];by_cases hz:n=0
      ·subst hz;rfl
      ·rw[decide_eq_false hz,ZC (by omega)];rfl
    clear QV QX hlen hnb;go_enter func22,ntmps22;go_wp2_with fail;refine c₁ HN.out fun w1 hb=>?_;obtain⟨q0,q1,q3⟩:=QK.out w1 hb;have QJ:=QN HB hb;clear hb HN QK;go_wp2;go_ret;exact⟨by rw[HV.out];rfl,QJ.out⟩
theorem Qw3(x y:ByteArray)(A:Option Addr)(n C:Nat)(c:F)(w:World)(hf:Fs w (Lo w.heap.size) (ς A n C) c)(hx:x.size≤100000):Calls prog 22 #[ξ #[ι κ 4,σ x,σ y,ς A n C]] w fun e w'=>e = ρ (τ (Qa 4 x c))∧Below w.heap.size w w':=by
  have b1:=Qb w (θ #[ι κ 4,σ x,σ y,ς A n C] 24);have HN:=QA (Qx x (by omega) (w.alloc (θ #[ι κ 4,σ x,σ y,ς A n C] 24)));have HB:=QA b1;have HF:=QA hf
  have QK:Hid (∀W,Below (w.alloc (θ #[ι κ 4,σ x,σ y,ς A n C] 24)).heap.size (w.alloc (θ #[ι κ 4,σ x,σ y,ς A n C] 24)) W→W.cell? ⟨w.heap.size,0,none⟩=some (ι κ 4)∧W.cell? ⟨w.heap.size,1,none⟩=some (σ x)∧W.cell? ⟨w.heap.size,3,none⟩=some (ς A n C)):=fun W hW=>by
    have ZJ:∀i v,#[ι κ 4,σ x,σ y,ς A n C][i]? = some v→W.cell? ⟨w.heap.size,i,none⟩=some v:=fun i v hv=>by
      rw[hW.cell (p:=⟨w.heap.size,i,none⟩) (by simp),World.cell?_alloc_at _ _ _ _ rfl];simpa using hv
    exact⟨ZJ 0 _ rfl,ZJ 1 _ rfl,ZJ 3 _ rfl⟩
  obtain⟨nb,hnb⟩:=Mem.ZB (JC x);rw[hnb]at HN;obtain⟨eb,QV⟩:=Mem.ZB ((x.toList==[]));clear b1 hf;have QX:Hid (Qa 4 x c=(nb&&Qe [.one [Qg]] c)):=by show _=_;rw[←hnb];unfold Qa Q2 Q1;simp
  cases eb with
  |false =>
   have he:¬x.toList=[]:=by simpa using QV
   have UD:x.toList.isEmpty=false:=by simpa using QV
   cases nb with
   |false =>
    have HV:Hid (Qa 4 x c=false):=by show _=_;rw[QX.out];rfl
    clear QV QX hnb;go_enter func22,ntmps22;go_wp2_with fail;refine c₁ HN.out fun w1 hb=>?_;obtain⟨q0,q1,q3⟩:=QK.out w1 hb;have QJ:=QN HB hb;clear hb HN QK;go_wp2;go_ret;exact⟨by rw[HV.out];rfl,QJ.out⟩
   |true =>
    have HV:Hid (Qa 4 x c=Qe [.one [Qg]] c):=by show _=_;rw[QX.out];rfl
    clear QV QX hnb;go_enter func22,ntmps22;go_wp2_with fail;refine c₁ HN.out fun w1 hb=>?_;obtain⟨q0,q1,q3⟩:=QK.out w1 hb;have QJ:=QN HB hb;clear hb HN QK;have HR:=QA (NJ A n C c w1 (HF.out.later QJ.out));go_wp2_with fail;refine c₁ HR.out fun w2 hb=>?_;have QR:=QN QJ hb;clear hb;go_wp2;go_ret;exact⟨by rw[HV.out];rfl,QR.out⟩
  |true =>
   have he:x.toList=[]:=by simpa using QV
   cases nb with
   |false =>
    have HV:Hid (Qa 4 x c=false):=by show _=_;rw[QX.out];rfl
    clear QV QX hnb;go_enter func22,ntmps22;go_wp2_with fail;refine c₁ HN.out fun w1 hb=>?_;obtain⟨q0,q1,q3⟩:=QK.out w1 hb;have QJ:=QN HB hb;clear hb HN QK;go_wp2;go_ret;exact⟨by rw[HV.out];rfl,QJ.out⟩
   |true =>
    have HV:Hid (Qa 4 x c=Qe [.one [Qg]] c):=by show _=_;rw[QX.out];rfl
    clear QV QX hnb;go_enter func22,ntmps22;go_wp2_with fail;refine c₁ HN.out fun w1 hb=>?_;obtain⟨q0,q1,q3⟩:=QK.out w1 hb;have QJ:=QN HB hb;clear hb HN QK;have HR:=QA (NJ A n C c w1 (HF.out.later QJ.out));go_wp2_with fail;refine c₁ HR.out fun w2 hb=>?_;have QR:=QN QJ hb;clear hb;go_wp2;go_ret;exact⟨by rw[HV.out];rfl,QR.out⟩
theorem Qs1(x y:ByteArray)(A:Option Addr)(n C:Nat)(c:F)(w:World)(hf:Fs w (Lo w.heap.size) (ς A n C) c)(hx:x.size≤100000):Calls prog 22 #[ξ #[ι κ 32,σ x,σ y,ς A n C]] w fun e w'=>e = ρ (τ (Qa 32 x c))∧Below w.heap.size w w':=by
  have b1:=Qb w (θ #[ι κ 32,σ x,σ y,ς A n C] 24);have HN:=QA (Qx x (by omega) (w.alloc (θ #[ι κ 32,σ x,σ y,ς A n C] 24)));have HB:=QA b1;have HF:=QA hf
  have QK:Hid (∀W,Below (w.alloc (θ #[ι κ 32,σ x,σ y,ς A n C] 24)).heap.size (w.alloc (θ #[ι κ 32,σ x,σ y,ς A n C] 24)) W→W.cell? ⟨w.heap.size,0,none⟩=some (ι κ 32)∧W.cell? ⟨w.heap.size,1,none⟩=some (σ x)∧W.cell? ⟨w.heap.size,3,none⟩=some (ς A n C)):=fun W hW=>by
    have ZJ:∀i v,#[ι κ 32,σ x,σ y,ς A n C][i]? = some v→W.cell? ⟨w.heap.size,i,none⟩=some v:=fun i v hv=>by
      rw[hW.cell (p:=⟨w.heap.size,i,none⟩) (by simp),World.cell?_alloc_at _ _ _ _ rfl];simpa using hv
    exact⟨ZJ 0 _ rfl,ZJ 1 _ rfl,ZJ 3 _ rfl⟩
  obtain⟨nb,hnb⟩:=Mem.ZB (JC x);rw[hnb]at HN;obtain⟨eb,QV⟩:=Mem.ZB ((x.toList==[]));clear b1 hf;have QX:Hid (Qa 32 x c=(nb&&Qe [.one [Qg]] c)):=by show _=_;rw[←hnb];unfold Qa Q2 Q1;simp
  cases eb with
  |false =>
   have he:¬x.toList=[]:=by simpa using QV
   have UD:x.toList.isEmpty=false:=by simpa using QV
   cases nb with
   |false =>
    have HV:Hid (Qa 32 x c=false):=by show _=_;rw[QX.out];rfl
    clear QV QX hnb;go_enter func22,ntmps22;go_wp2_with fail;refine c₁ HN.out fun w1 hb=>?_;obtain⟨q0,q1,q3⟩:=QK.out w1 hb;have QJ:=QN HB hb;clear hb HN QK;go_wp2;go_ret;exact⟨by rw[HV.out];rfl,QJ.out⟩
   |true =>
    have HV:Hid (Qa 32 x c=Qe [.one [Qg]] c):=by show _=_;rw[QX.out];rfl
    clear QV QX hnb;go_enter func22,ntmps22;go_wp2_with fail;refine c₁ HN.out fun w1 hb=>?_;obtain⟨q0,q1,q3⟩:=QK.out w1 hb;have QJ:=QN HB hb;clear hb HN QK;have HR:=QA (NJ A n C c w1 (HF.out.later QJ.out));go_wp2_with fail;refine c₁ HR.out fun w2 hb=>?_;have QR:=QN QJ hb;clear hb;go_wp2;go_ret;exact⟨by rw[HV.out];rfl,QR.out⟩
  |true =>
   have he:x.toList=[]:=by simpa using QV
   cases nb with
   |false =>
    have HV:Hid (Qa 32 x c=false):=by show _=_;rw[QX.out];rfl
    clear QV QX hnb;go_enter func22,ntmps22;go_wp2_with fail;refine c₁ HN.out fun w1 hb=>?_;obtain⟨q0,q1,q3⟩:=QK.out w1 hb;have QJ:=QN HB hb;clear hb HN QK;go_wp2;go_ret;exact⟨by rw[HV.out];rfl,QJ.out⟩
   |true =>
    have HV:Hid (Qa 32 x c=Qe [.one [Qg]] c):=by show _=_;rw[QX.out];rfl
    clear QV QX hnb;go_enter func22,ntmps22;go_wp2_with fail;refine c₁ HN.out fun w1 hb=>?_;obtain⟨q0,q1,q3⟩:=QK.out w1 hb;have QJ:=QN HB hb;clear hb HN QK;have HR:=QA (NJ A n C c w1 (HF.out.later QJ.out));go_wp2_with fail;refine c₁ HR.out fun w2 hb=>?_;have QR:=QN QJ hb;clear hb;go_wp2;go_ret;exact⟨by rw[HV.out];rfl,QR.out⟩
theorem Qw1(x y:ByteArray)(A:Option Addr)(n C:Nat)(c:F)(w:World)(hf:Fs w (Lo w.heap.size) (ς A n C) c)(hx:x.size≤100000):Calls prog 22 #[ξ #[ι κ 6,σ x,σ y,ς A n C]] w fun e w'=>e = ρ (τ (Qa 6 x c))∧Below w.heap.size w w':=by
  have b1:=Qb w (θ #[ι κ 6,σ x,σ y,ς A n C] 24);have HN:=QA (Qx x (by omega) (w.alloc (θ #[ι κ 6,σ x,σ y,ς A n C] 24)));have HB:=QA b1;have HF:=QA hf
  have QK:Hid (∀W,Below (w.alloc (θ #[ι κ 6,σ x,σ y,ς A n C] 24)).heap.size (w.alloc (θ #[ι κ 6,σ x,σ y,ς A n C] 24)) W→W.cell? ⟨w.heap.size,0,none⟩=some (ι κ 6)∧W.cell? ⟨w.heap.size,1,none⟩=some (σ x)∧W.cell? ⟨w.heap.size,3,none⟩=some (ς A n C)):=fun W hW=>by
    have ZJ:∀i v,#[ι κ 6,σ x,σ y,ς A n C][i]? = some v→W.cell? ⟨w.heap.size,i,none⟩=some v:=fun i v hv=>by
      rw[hW.cell (p:=⟨w.heap.size,i,none⟩) (by simp),World.cell?_alloc_at _ _ _ _ rfl];simpa using hv
    exact⟨ZJ 0 _ rfl,ZJ 1 _ rfl,ZJ 3 _ rfl⟩
  obtain⟨nb,hnb⟩:=Mem.ZB (JC x);rw[hnb]at HN;obtain⟨eb,QV⟩:=Mem.ZB ((x.toList==[]));clear b1 hf;have QX:Hid (Qa 6 x c=(nb&&Qe [.one [Qt]] c)):=by show _=_;rw[←hnb];unfold Qa Q2 Q1;simp
  cases eb with
  |false =>
   have he:¬x.toList=[]:=by simpa using QV
   have UD:x.toList.isEmpty=false:=by simpa using QV
   cases nb with
   |false =>
    have HV:Hid (Qa 6 x c=false):=by show _=_;rw[QX.out];rfl
    clear QV QX hnb;go_enter func22,ntmps22;go_wp2_with fail;refine c₁ HN.out fun w1 hb=>?_;obtain⟨q0,q1,q3⟩:=QK.out w1 hb;have QJ:=QN HB hb;clear hb HN QK;go_wp2;go_ret;exact⟨by rw[HV.out];rfl,QJ.out⟩
   |true =>
    have HV:Hid (Qa 6 x c=Qe [.one [Qt]] c):=by show _=_;rw[QX.out];rfl
    clear QV QX hnb;go_enter func22,ntmps22;go_wp2_with fail;refine c₁ HN.out fun w1 hb=>?_;obtain⟨q0,q1,q3⟩:=QK.out w1 hb;have QJ:=QN HB hb;clear hb HN QK;have HR:=QA (Cu A n C c w1 (HF.out.later QJ.out));go_wp2_with fail;refine c₁ HR.out fun w2 hb=>?_;have QR:=QN QJ hb;clear hb;go_wp2;go_ret;exact⟨by rw[HV.out];rfl,QR.out⟩
  |true =>
   have he:x.toList=[]:=by simpa using QV
   cases nb with
   |false =>
    have HV:Hid (Qa 6 x c=false):=by show _=_;rw[QX.out];rfl
    clear QV QX hnb;go_enter func22,ntmps22;go_wp2_with fail;refine c₁ HN.out fun w1 hb=>?_;obtain⟨q0,q1,q3⟩:=QK.out w1 hb;have QJ:=QN HB hb;clear hb HN QK;go_wp2;go_ret;exact⟨by rw[HV.out];rfl,QJ.out⟩
   |true =>
    have HV:Hid (Qa 6 x c=Qe [.one [Qt]] c):=by show _=_;rw[QX.out];rfl
    clear QV QX hnb;go_enter func22,ntmps22;go_wp2_with fail;refine c₁ HN.out fun w1 hb=>?_;obtain⟨q0,q1,q3⟩:=QK.out w1 hb;have QJ:=QN HB hb;clear hb HN QK;have HR:=QA (Cu A n C c w1 (HF.out.later QJ.out));go_wp2_with fail;refine c₁ HR.out fun w2 hb=>?_;have QR:=QN QJ hb;clear hb;go_wp2;go_ret;exact⟨by rw[HV.out];rfl,QR.out⟩
theorem Qti(x y:ByteArray)(A:Option Addr)(n C:Nat)(c:F)(w:World)(hf:Fs w (Lo w.heap.size) (ς A n C) c)(hx:x.size≤100000):Calls prog 22 #[ξ #[ι κ 14,σ x,σ y,ς A n C]] w fun e w'=>e = ρ (τ (Qa 14 x c))∧Below w.heap.size w w':=by
  have b1:=Qb w (θ #[ι κ 14,σ x,σ y,ς A n C] 24);have HN:=QA (Qx x (by omega) (w.alloc (θ #[ι κ 14,σ x,σ y,ς A n C] 24)));have HB:=QA b1;have HF:=QA hf
  have QK:Hid (∀W,Below (w.alloc (θ #[ι κ 14,σ x,σ y,ς A n C] 24)).heap.size (w.alloc (θ #[ι κ 14,σ x,σ y,ς A n C] 24)) W→W.cell? ⟨w.heap.size,0,none⟩=some (ι κ 14)∧W.cell? ⟨w.heap.size,1,none⟩=some (σ x)∧W.cell? ⟨w.heap.size,3,none⟩=some (ς A n C)):=fun W hW=>by
    have ZJ:∀i v,#[ι κ 14,σ x,σ y,ς A n C][i]? = some v→W.cell? ⟨w.heap.size,i,none⟩=some v:=fun i v hv=>by
      rw[hW.cell (p:=⟨w.heap.size,i,none⟩) (by simp),World.cell?_alloc_at _ _ _ _ rfl];simpa using hv
    exact⟨ZJ 0 _ rfl,ZJ 1 _ rfl,ZJ 3 _ rfl⟩
  obtain⟨nb,hnb⟩:=Mem.ZB (JC x);rw[hnb]at HN;obtain⟨eb,QV⟩:=Mem.ZB ((x.toList==[]));clear b1 hf;have QX:Hid (Qa 14 x c=(nb&&Qe [.one [Qt]] c)):=by show _=_;rw[←hnb];unfold Qa Q2 Q1;simp
  cases eb with
  |false =>
   have he:¬x.toList=[]:=by simpa using QV
   have UD:x.toList.isEmpty=false:=by simpa using QV
   cases nb with
   |false =>
    have HV:Hid (Qa 14 x c=false):=by show _=_;rw[QX.out];rfl
    clear QV QX hnb;go_enter func22,ntmps22;go_wp2_with fail;refine c₁ HN.out fun w1 hb=>?_;obtain⟨q0,q1,q3⟩:=QK.out w1 hb;have QJ:=QN HB hb;clear hb HN QK;go_wp2;go_ret;exact⟨by rw[HV.out];rfl,QJ.out⟩
   |true =>
    have HV:Hid (Qa 14 x c=Qe [.one [Qt]] c):=by show _=_;rw[QX.out];rfl
    clear QV QX hnb;go_enter func22,ntmps22;go_wp2_with fail;refine c₁ HN.out fun w1 hb=>?_;obtain⟨q0,q1,q3⟩:=QK.out w1 hb;have QJ:=QN HB hb;clear hb HN QK;have HR:=QA (Cu A n C c w1 (HF.out.later QJ.out));go_wp2_with fail;refine c₁ HR.out fun w2 hb=>?_;have QR:=QN QJ hb;clear hb;go_wp2;go_ret;exact⟨by rw[HV.out];rfl,QR.out⟩
  |true =>
   have he:x.toList=[]:=by simpa using QV
   cases nb with
   |false =>
    have HV:Hid (Qa 14 x c=false):=by show _=_;rw[QX.out];rfl
    clear QV QX hnb;go_enter func22,ntmps22;go_wp2_with fail;refine c₁ HN.out fun w1 hb=>?_;obtain⟨q0,q1,q3⟩:=QK.out w1 hb;have QJ:=QN HB hb;clear hb HN QK;go_wp2;go_ret;exact⟨by rw[HV.out];rfl,QJ.out⟩
   |true =>
    have HV:Hid (Qa 14 x c=Qe [.one [Qt]] c):=by show _=_;rw[QX.out];rfl
    clear QV QX hnb;go_enter func22,ntmps22;go_wp2_with fail;refine c₁ HN.out fun w1 hb=>?_;obtain⟨q0,q1,q3⟩:=QK.out w1 hb;have QJ:=QN HB hb;clear hb HN QK;have HR:=QA (Cu A n C c w1 (HF.out.later QJ.out));go_wp2_with fail;refine c₁ HR.out fun w2 hb=>?_;have QR:=QN QJ hb;clear hb;go_wp2;go_ret;exact⟨by rw[HV.out];rfl,QR.out⟩
theorem Qtg(x y:ByteArray)(A:Option Addr)(n C:Nat)(c:F)(w:World)(hf:Fs w (Lo w.heap.size) (ς A n C) c)(hx:x.size≤100000):Calls prog 22 #[ξ #[ι κ 16,σ x,σ y,ς A n C]] w fun e w'=>e = ρ (τ (Qa 16 x c))∧Below w.heap.size w w':=by
  have b1:=Qb w (θ #[ι κ 16,σ x,σ y,ς A n C] 24);have HN:=QA (Qx x (by omega) (w.alloc (θ #[ι κ 16,σ x,σ y,ς A n C] 24)));have HB:=QA b1;have HF:=QA hf
  have QK:Hid (∀W,Below (w.alloc (θ #[ι κ 16,σ x,σ y,ς A n C] 24)).heap.size (w.alloc (θ #[ι κ 16,σ x,σ y,ς A n C] 24)) W→W.cell? ⟨w.heap.size,0,none⟩=some (ι κ 16)∧W.cell? ⟨w.heap.size,1,none⟩=some (σ x)∧W.cell? ⟨w.heap.size,3,none⟩=some (ς A n C)):=fun W hW=>by
    have ZJ:∀i v,#[ι κ 16,σ x,σ y,ς A n C][i]? = some v→W.cell? ⟨w.heap.size,i,none⟩=some v:=fun i v hv=>by
      rw[hW.cell (p:=⟨w.heap.size,i,none⟩) (by simp),World.cell?_alloc_at _ _ _ _ rfl];simpa using hv
    exact⟨ZJ 0 _ rfl,ZJ 1 _ rfl,ZJ 3 _ rfl⟩
  obtain⟨nb,hnb⟩:=Mem.ZB (JC x);rw[hnb]at HN;obtain⟨eb,QV⟩:=Mem.ZB ((x.toList==[]));clear b1 hf;have QX:Hid (Qa 16 x c=(nb&&Qe [.one [Qt]] c)):=by show _=_;rw[←hnb];unfold Qa Q2 Q1;simp
  cases eb with
  |false =>
   have he:¬x.toList=[]:=by simpa using QV
   have UD:x.toList.isEmpty=false:=by simpa using QV
   cases nb with
   |false =>
    have HV:Hid (Qa 16 x c=false):=by show _=_;rw[QX.out];rfl
    clear QV QX hnb;go_enter func22,ntmps22;go_wp2_with fail;refine c₁ HN.out fun w1 hb=>?_;obtain⟨q0,q1,q3⟩:=QK.out w1 hb;have QJ:=QN HB hb;clear hb HN QK;go_wp2;go_ret;exact⟨by rw[HV.out];rfl,QJ.out⟩
   |true =>
    have HV:Hid (Qa 16 x c=Qe [.one [Qt]] c):=by show _=_;rw[QX.out];rfl
    clear QV QX hnb;go_enter func22,ntmps22;go_wp2_with fail;refine c₁ HN.out fun w1 hb=>?_;obtain⟨q0,q1,q3⟩:=QK.out w1 hb;have QJ:=QN HB hb;clear hb HN QK;have HR:=QA (Cu A n C c w1 (HF.out.later QJ.out));go_wp2_with fail;refine c₁ HR.out fun w2 hb=>?_;have QR:=QN QJ hb;clear hb;go_wp2;go_ret;exact⟨by rw[HV.out];rfl,QR.out⟩
  |true =>
   have he:x.toList=[]:=by simpa using QV
   cases nb with
   |false =>
    have HV:Hid (Qa 16 x c=false):=by show _=_;rw[QX.out];rfl
    clear QV QX hnb;go_enter func22,ntmps22;go_wp2_with fail;refine c₁ HN.out fun w1 hb=>?_;obtain⟨q0,q1,q3⟩:=QK.out w1 hb;have QJ:=QN HB hb;clear hb HN QK;go_wp2;go_ret;exact⟨by rw[HV.out];rfl,QJ.out⟩
   |true =>
    have HV:Hid (Qa 16 x c=Qe [.one [Qt]] c):=by show _=_;rw[QX.out];rfl
    clear QV QX hnb;go_enter func22,ntmps22;go_wp2_with fail;refine c₁ HN.out fun w1 hb=>?_;obtain⟨q0,q1,q3⟩:=QK.out w1 hb;have QJ:=QN HB hb;clear hb HN QK;have HR:=QA (Cu A n C c w1 (HF.out.later QJ.out));go_wp2_with fail;refine c₁ HR.out fun w2 hb=>?_;have QR:=QN QJ hb;clear hb;go_wp2;go_ret;exact⟨by rw[HV.out];rfl,QR.out⟩
theorem Qw0(x y:ByteArray)(A:Option Addr)(n C:Nat)(c:F)(w:World)(hf:Fs w (Lo w.heap.size) (ς A n C) c)(hx:x.size≤100000):Calls prog 22 #[ξ #[ι κ 7,σ x,σ y,ς A n C]] w fun e w'=>e = ρ (τ (Qa 7 x c))∧Below w.heap.size w w':=by
  have b1:=Qb w (θ #[ι κ 7,σ x,σ y,ς A n C] 24);have HN:=QA (Qx x (by omega) (w.alloc (θ #[ι κ 7,σ x,σ y,ς A n C] 24)));have HB:=QA b1;have HF:=QA hf
  have QK:Hid (∀W,Below (w.alloc (θ #[ι κ 7,σ x,σ y,ς A n C] 24)).heap.size (w.alloc (θ #[ι κ 7,σ x,σ y,ς A n C] 24)) W→W.cell? ⟨w.heap.size,0,none⟩=some (ι κ 7)∧W.cell? ⟨w.heap.size,1,none⟩=some (σ x)∧W.cell? ⟨w.heap.size,3,none⟩=some (ς A n C)):=fun W hW=>by
    have ZJ:∀i v,#[ι κ 7,σ x,σ y,ς A n C][i]? = some v→W.cell? ⟨w.heap.size,i,none⟩=some v:=fun i v hv=>by
      rw[hW.cell (p:=⟨w.heap.size,i,none⟩) (by simp),World.cell?_alloc_at _ _ _ _ rfl];simpa using hv
    exact⟨ZJ 0 _ rfl,ZJ 1 _ rfl,ZJ 3 _ rfl⟩
  obtain⟨nb,hnb⟩:=Mem.ZB (JC x);rw[hnb]at HN;obtain⟨eb,QV⟩:=Mem.ZB ((x.toList==[]));clear b1 hf;have QX:Hid (Qa 7 x c=(nb&&Qe [.one [Qk [16],Qk [33]],.one [Qk [15]],.one [Qt,Qk [33]],.one [Qk [17]]] c)):=by show _=_;rw[←hnb];unfold Qa Q2 Q1;simp
  cases eb with
  |false =>
   have he:¬x.toList=[]:=by simpa using QV
   have UD:x.toList.isEmpty=false:=by simpa using QV
   cases nb with
   |false =>
    have HV:Hid (Qa 7 x c=false):=by show _=_;rw[QX.out];rfl
    clear QV QX hnb;go_enter func22,ntmps22;go_wp2_with fail;refine c₁ HN.out fun w1 hb=>?_;obtain⟨q0,q1,q3⟩:=QK.out w1 hb;have QJ:=QN HB hb;clear hb HN QK;go_wp2;go_ret;exact⟨by rw[HV.out];rfl,QJ.out⟩
   |true =>
    have HV:Hid (Qa 7 x c=Qe [.one [Qk [16],Qk [33]],.one [Qk [15]],.one [Qt,Qk [33]],.one [Qk [17]]] c):=by show _=_;rw[QX.out];rfl
    clear QV QX hnb;go_enter func22,ntmps22;go_wp2_with fail;refine c₁ HN.out fun w1 hb=>?_;obtain⟨q0,q1,q3⟩:=QK.out w1 hb;have QJ:=QN HB hb;clear hb HN QK;have HR:=QA (pU A n C c w1 (HF.out.later QJ.out));go_wp2_with fail;refine c₁ HR.out fun w2 hb=>?_;have QR:=QN QJ hb;clear hb;go_wp2;go_ret;exact⟨by rw[HV.out];rfl,QR.out⟩
  |true =>
   have he:x.toList=[]:=by simpa using QV
   cases nb with
   |false =>
    have HV:Hid (Qa 7 x c=false):=by show _=_;rw[QX.out];rfl
    clear QV QX hnb;go_enter func22,ntmps22;go_wp2_with fail;refine c₁ HN.out fun w1 hb=>?_;obtain⟨q0,q1,q3⟩:=QK.out w1 hb;have QJ:=QN HB hb;clear hb HN QK;go_wp2;go_ret;exact⟨by rw[HV.out];rfl,QJ.out⟩
   |true =>
    have HV:Hid (Qa 7 x c=Qe [.one [Qk [16],Qk [33]],.one [Qk [15]],.one [Qt,Qk [33]],.one [Qk [17]]] c):=by show _=_;rw[QX.out];rfl
    clear QV QX hnb;go_enter func22,ntmps22;go_wp2_with fail;refine c₁ HN.out fun w1 hb=>?_;obtain⟨q0,q1,q3⟩:=QK.out w1 hb;have QJ:=QN HB hb;clear hb HN QK;have HR:=QA (pU A n C c w1 (HF.out.later QJ.out));go_wp2_with fail;refine c₁ HR.out fun w2 hb=>?_;have QR:=QN QJ hb;clear hb;go_wp2;go_ret;exact⟨by rw[HV.out];rfl,QR.out⟩
