import Derived.Test.YtaiihnniblibaaaGreatDoorG42
set_option maxHeartbeats 8000000
set_option maxRecDepth 100000
set_option linter.unusedVariables false
open Go.Proofs.Tryz Go.ChangeShapes Go.WideShapes Go.ChangeAt Go.RowKit
open Go.Lib renaming hid→QA
open Go.Value renaming string→σ,int→ι,slice→ς,bool→τ,agg→ξ
open Go.IntKind renaming i64→κ
open Go.Obj renaming cells→θ
open Go.Ending renaming returned→ρ
namespace Go.Proofs.YtaiihnniblibaaaGreatDoor
namespace Tree
open Mem
theorem Q2k(k1:Int)(x1 y1:ByteArray)(c1:F)(k2:Int)(x2 y2:ByteArray)(c2:F):Qe [.one [Qk [33]],.one [Qk [33]]] (.cons k1 x1 y1 c1 (.cons k2 x2 y2 c2 .nil))=(k1==33&&k2==33):=by
  by_cases h1:k1=33 <;> by_cases h2:k2=33 <;> simp[Qe,Pt.take,Qk,h1,h2]
theorem Q0s{c:F}(h:Qe [.one [Qt,Qk [33]],.one [Qg,Qk [33]]] c=true):∃k1 x1 y1 c1 k2 x2 y2 c2,c=.cons k1 x1 y1 c1 (.cons k2 x2 y2 c2 .nil):=by
  cases c with
  |nil=>simp[Qe,Pt.take]at h
  |cons k1 x1 y1 c1 r =>
   simp only[Qe,Pt.take]at h;by_cases h1:([Qt,Qk [33]].any fun p=>p k1 x1)=true
   ·rw[if_pos h1]at h;cases r with
    |nil=>simp at h
    |cons k2 x2 y2 c2 r2 =>
     simp only at h;by_cases h2:([Qg,Qk [33]].any fun p=>p k2 x2)=true
     ·rw[if_pos h2]at h;cases r2 with
      |nil=>exact⟨_,_,_,_,_,_,_,_,rfl⟩
      |cons=>simp[Qe]at h
     ·rw[if_neg h2]at h;simp at h
   ·rw[if_neg h1]at h;simp at h
theorem Qw4(x y:ByteArray)(A:Option Addr)(n C:Nat)(c:F)(w:World)(hf:Fs w (Lo w.heap.size) (ς A n C) c)(hx:x.size≤100000):Calls prog 22 #[ξ #[ι κ 3,σ x,σ y,ς A n C]] w fun e w'=>e = ρ (τ (Qa 3 x c))∧Below w.heap.size w w':=by
  have b1:=Qb w (θ #[ι κ 3,σ x,σ y,ς A n C] 24);have HN:=QA (Qx x (by omega) (w.alloc (θ #[ι κ 3,σ x,σ y,ς A n C] 24)));have HB:=QA b1;have HF:=QA hf
  have QK:Hid (∀W,Below (w.alloc (θ #[ι κ 3,σ x,σ y,ς A n C] 24)).heap.size (w.alloc (θ #[ι κ 3,σ x,σ y,ς A n C] 24)) W→W.cell? ⟨w.heap.size,0,none⟩=some (ι κ 3)∧W.cell? ⟨w.heap.size,1,none⟩=some (σ x)∧W.cell? ⟨w.heap.size,3,none⟩=some (ς A n C)):=fun W hW=>by
    have ZJ:∀i v,#[ι κ 3,σ x,σ y,ς A n C][i]? = some v→W.cell? ⟨w.heap.size,i,none⟩=some v:=fun i v hv=>by
      rw[hW.cell (p:=⟨w.heap.size,i,none⟩) (by simp),World.cell?_alloc_at _ _ _ _ rfl];simpa using hv
    exact⟨ZJ 0 _ rfl,ZJ 1 _ rfl,ZJ 3 _ rfl⟩
  obtain⟨nb,hnb⟩:=Mem.ZB (JC x);rw[hnb]at HN;obtain⟨eb,QV⟩:=Mem.ZB ((x.toList==[]));clear b1 hf;clear QV;obtain⟨A0,C0,e,_,_⟩:=HF.out.slice;injection e with e1 e2 e3;have hlen:c.len=n:=e2.symm;clear e1 e2 e3;have UL:=QA (fun W:World=>Y4 x 3 hx W);have QX:Hid (Qa 3 x c=(JT x 3&&decide (c.len=0))):=by show _=_;unfold Qa Q2 Q1;simp
  clear hnb;cases htk:JT x 3 with
  |false =>
   rw[htk]at UL QX;have HV:Hid (Qa 3 x c=false):=by show _=_;rw[QX.out];rfl
   clear QX hlen htk;go_enter func22,ntmps22;go_wp2_with fail;refine c₁ HN.out fun w1 hb=>?_;obtain⟨q0,q1,q3⟩:=QK.out w1 hb;have QJ:=QN HB hb;clear hb HN QK;go_wp2_with fail;refine c₁ (UL.out _) fun w2 hb=>?_;have QR:=QN QJ hb;clear hb;go_wp2;go_ret;exact⟨by rw[HV.out];rfl,QR.out⟩
  |true =>
   rw[htk]at UL QX;have HV:Hid (Qa 3 x c=((n:Int)==0)):=by
     show _=_;rw[QX.out,hlen];by_cases hz:n=0
     ·subst hz;rfl
     ·rw[decide_eq_false hz,ZC (by omega)];rfl
   clear QX hlen htk;go_enter func22,ntmps22;go_wp2_with fail;refine c₁ HN.out fun w1 hb=>?_;obtain⟨q0,q1,q3⟩:=QK.out w1 hb;have QJ:=QN HB hb;clear hb HN QK;go_wp2_with fail;refine c₁ (UL.out _) fun w2 hb=>?_;have QR:=QN QJ hb;clear hb;go_wp2;go_ret;exact⟨by rw[HV.out];rfl,QR.out⟩
theorem Qs6(x y:ByteArray)(A:Option Addr)(n C:Nat)(c:F)(w:World)(hf:Fs w (Lo w.heap.size) (ς A n C) c)(hx:x.size≤100000):Calls prog 22 #[ξ #[ι κ 27,σ x,σ y,ς A n C]] w fun e w'=>e = ρ (τ (Qa 27 x c))∧Below w.heap.size w w':=by
  have b1:=Qb w (θ #[ι κ 27,σ x,σ y,ς A n C] 24);have HN:=QA (Qx x (by omega) (w.alloc (θ #[ι κ 27,σ x,σ y,ς A n C] 24)));have HB:=QA b1;have HF:=QA hf
  have QK:Hid (∀W,Below (w.alloc (θ #[ι κ 27,σ x,σ y,ς A n C] 24)).heap.size (w.alloc (θ #[ι κ 27,σ x,σ y,ς A n C] 24)) W→W.cell? ⟨w.heap.size,0,none⟩=some (ι κ 27)∧W.cell? ⟨w.heap.size,1,none⟩=some (σ x)∧W.cell? ⟨w.heap.size,3,none⟩=some (ς A n C)):=fun W hW=>by
    have ZJ:∀i v,#[ι κ 27,σ x,σ y,ς A n C][i]? = some v→W.cell? ⟨w.heap.size,i,none⟩=some v:=fun i v hv=>by
      rw[hW.cell (p:=⟨w.heap.size,i,none⟩) (by simp),World.cell?_alloc_at _ _ _ _ rfl];simpa using hv
    exact⟨ZJ 0 _ rfl,ZJ 1 _ rfl,ZJ 3 _ rfl⟩
  obtain⟨nb,hnb⟩:=Mem.ZB (JC x);rw[hnb]at HN;obtain⟨eb,QV⟩:=Mem.ZB ((x.toList==[]));clear b1 hf;clear QV;obtain⟨A0,C0,e,_,_⟩:=HF.out.slice;injection e with e1 e2 e3;have hlen:c.len=n:=e2.symm;clear e1 e2 e3;have UL:=QA (fun W:World=>Y4 x 3 hx W);have QX:Hid (Qa 27 x c=(JT x 3&&decide (c.len=0))):=by show _=_;unfold Qa Q2 Q1;simp
  clear hnb;cases htk:JT x 3 with
  |false =>
   rw[htk]at UL QX;have HV:Hid (Qa 27 x c=false):=by show _=_;rw[QX.out];rfl
   clear QX hlen htk;go_enter func22,ntmps22;go_wp2_with fail;refine c₁ HN.out fun w1 hb=>?_;obtain⟨q0,q1,q3⟩:=QK.out w1 hb;have QJ:=QN HB hb;clear hb HN QK;go_wp2_with fail;refine c₁ (UL.out _) fun w2 hb=>?_;have QR:=QN QJ hb;clear hb;go_wp2;go_ret;exact⟨by rw[HV.out];rfl,QR.out⟩
  |true =>
   rw[htk]at UL QX;have HV:Hid (Qa 27 x c=((n:Int)==0)):=by
     show _=_;rw[QX.out,hlen];by_cases hz:n=0
     ·subst hz;rfl
     ·rw[decide_eq_false hz,ZC (by omega)];rfl
   clear QX hlen htk;go_enter func22,ntmps22;go_wp2_with fail;refine c₁ HN.out fun w1 hb=>?_;obtain⟨q0,q1,q3⟩:=QK.out w1 hb;have QJ:=QN HB hb;clear hb HN QK;go_wp2_with fail;refine c₁ (UL.out _) fun w2 hb=>?_;have QR:=QN QJ hb;clear hb;go_wp2;go_ret;exact⟨by rw[HV.out];rfl,QR.out⟩
theorem Qs7(x y:ByteArray)(A:Option Addr)(n C:Nat)(c:F)(w:World)(hf:Fs w (Lo w.heap.size) (ς A n C) c)(hx:x.size≤100000):Calls prog 22 #[ξ #[ι κ 26,σ x,σ y,ς A n C]] w fun e w'=>e = ρ (τ (Qa 26 x c))∧Below w.heap.size w w':=by
  have b1:=Qb w (θ #[ι κ 26,σ x,σ y,ς A n C] 24);have HN:=QA (Qx x (by omega) (w.alloc (θ #[ι κ 26,σ x,σ y,ς A n C] 24)));have HB:=QA b1;have HF:=QA hf
  have QK:Hid (∀W,Below (w.alloc (θ #[ι κ 26,σ x,σ y,ς A n C] 24)).heap.size (w.alloc (θ #[ι κ 26,σ x,σ y,ς A n C] 24)) W→W.cell? ⟨w.heap.size,0,none⟩=some (ι κ 26)∧W.cell? ⟨w.heap.size,1,none⟩=some (σ x)∧W.cell? ⟨w.heap.size,3,none⟩=some (ς A n C)):=fun W hW=>by
    have ZJ:∀i v,#[ι κ 26,σ x,σ y,ς A n C][i]? = some v→W.cell? ⟨w.heap.size,i,none⟩=some v:=fun i v hv=>by
      rw[hW.cell (p:=⟨w.heap.size,i,none⟩) (by simp),World.cell?_alloc_at _ _ _ _ rfl];simpa using hv
    exact⟨ZJ 0 _ rfl,ZJ 1 _ rfl,ZJ 3 _ rfl⟩
  obtain⟨nb,hnb⟩:=Mem.ZB (JC x);rw[hnb]at HN;obtain⟨eb,QV⟩:=Mem.ZB ((x.toList==[]));clear b1 hf;clear QV;obtain⟨A0,C0,e,_,_⟩:=HF.out.slice;injection e with e1 e2 e3;have hlen:c.len=n:=e2.symm;clear e1 e2 e3;have UL:=QA (fun W:World=>Y4 x 2 hx W);have QX:Hid (Qa 26 x c=(JT x 2&&decide (c.len=0))):=by show _=_;unfold Qa Q2 Q1;simp
  clear hnb;cases htk:JT x 2 with
  |false =>
   rw[htk]at UL QX;have HV:Hid (Qa 26 x c=false):=by show _=_;rw[QX.out];rfl
   clear QX hlen htk;go_enter func22,ntmps22;go_wp2_with fail;refine c₁ HN.out fun w1 hb=>?_;obtain⟨q0,q1,q3⟩:=QK.out w1 hb;have QJ:=QN HB hb;clear hb HN QK;go_wp2_with fail;refine c₁ (UL.out _) fun w2 hb=>?_;have QR:=QN QJ hb;clear hb;go_wp2;go_ret;exact⟨by rw[HV.out];rfl,QR.out⟩
  |true =>
   rw[htk]at UL QX;have HV:Hid (Qa 26 x c=((n:Int)==0)):=by
     show _=_;rw[QX.out,hlen];by_cases hz:n=0
     ·subst hz;rfl
     ·rw[decide_eq_false hz,ZC (by omega)];rfl
   clear QX hlen htk;go_enter func22,ntmps22;go_wp2_with fail;refine c₁ HN.out fun w1 hb=>?_;obtain⟨q0,q1,q3⟩:=QK.out w1 hb;have QJ:=QN HB hb;clear hb HN QK;go_wp2_with fail;refine c₁ (UL.out _) fun w2 hb=>?_;have QR:=QN QJ hb;clear hb;go_wp2;go_ret;exact⟨by rw[HV.out];rfl,QR.out⟩
theorem wU(x y:ByteArray)(A:Option Addr)(n C:Nat)(c:F)(w:World)(hf:Fs w (Lo w.heap.size) (ς A n C) c)(hx:x.size≤100000):Calls prog 22 #[ξ #[ι κ 8,σ x,σ y,ς A n C]] w fun e w'=>e = ρ (τ (Qa 8 x c))∧Below w.heap.size w w':=by
  have b1:=Qb w (θ #[ι κ 8,σ x,σ y,ς A n C] 24);have HN:=QA (Qx x (by omega) (w.alloc (θ #[ι κ 8,σ x,σ y,ς A n C] 24)));have HB:=QA b1;have HF:=QA hf
  have QK:Hid (∀W,Below (w.alloc (θ #[ι κ 8,σ x,σ y,ς A n C] 24)).heap.size (w.alloc (θ #[ι κ 8,σ x,σ y,ς A n C] 24)) W→W.cell? ⟨w.heap.size,0,none⟩=some (ι κ 8)∧W.cell? ⟨w.heap.size,1,none⟩=some (σ x)∧W.cell? ⟨w.heap.size,3,none⟩=some (ς A n C)):=fun W hW=>by
    have ZJ:∀i v,#[ι κ 8,σ x,σ y,ς A n C][i]? = some v→W.cell? ⟨w.heap.size,i,none⟩=some v:=fun i v hv=>by
      rw[hW.cell (p:=⟨w.heap.size,i,none⟩) (by simp),World.cell?_alloc_at _ _ _ _ rfl];simpa using hv
    exact⟨ZJ 0 _ rfl,ZJ 1 _ rfl,ZJ 3 _ rfl⟩
  obtain⟨nb,hnb⟩:=Mem.ZB (JC x);rw[hnb]at HN;obtain⟨eb,QV⟩:=Mem.ZB ((x.toList==[]));clear b1 hf;clear QV;obtain⟨A0,C0,e,_,_⟩:=HF.out.slice;injection e with e1 e2 e3;have hlen:c.len=n:=e2.symm;clear e1 e2 e3;have UL:=QA (fun W:World=>Y4 x 5 hx W);have QX:Hid (Qa 8 x c=(JT x 5&&decide (c.len=0))):=by show _=_;unfold Qa Q2 Q1;simp
  clear hnb;cases htk:JT x 5 with
  |false =>
   rw[htk]at UL QX;have HV:Hid (Qa 8 x c=false):=by show _=_;rw[QX.out];rfl
   clear QX hlen htk;go_enter func22,ntmps22;go_wp2_with fail;refine c₁ HN.out fun w1 hb=>?_;obtain⟨q0,q1,q3⟩:=QK.out w1 hb;have QJ:=QN HB hb;clear hb HN QK;go_wp2_with fail;refine c₁ (UL.out _) fun w2 hb=>?_;have QR:=QN QJ hb;clear hb;go_wp2;go_ret;exact⟨by rw[HV.out];rfl,QR.out⟩
  |true =>
   rw[htk]at UL QX;have HV:Hid (Qa 8 x c=((n:Int)==0)):=by
     show _=_;rw[QX.out,hlen];by_cases hz:n=0
     ·subst hz;rfl
     ·rw[decide_eq_false hz,ZC (by omega)];rfl
   clear QX hlen htk;go_enter func22,ntmps22;go_wp2_with fail;refine c₁ HN.out fun w1 hb=>?_;obtain⟨q0,q1,q3⟩:=QK.out w1 hb;have QJ:=QN HB hb;clear hb HN QK;go_wp2_with fail;refine c₁ (UL.out _) fun w2 hb=>?_;have QR:=QN QJ hb;clear hb;go_wp2;go_ret;exact⟨by rw[HV.out];rfl,QR.out⟩
theorem Qtb(x y:ByteArray)(A:Option Addr)(n C:Nat)(c:F)(w:World)(hf:Fs w (Lo w.heap.size) (ς A n C) c)(hx:x.size≤100000):Calls prog 22 #[ξ #[ι κ 22,σ x,σ y,ς A n C]] w fun e w'=>e = ρ (τ (Qa 22 x c))∧Below w.heap.size w w':=by
  have b1:=Qb w (θ #[ι κ 22,σ x,σ y,ς A n C] 24);have HN:=QA (Qx x (by omega) (w.alloc (θ #[ι κ 22,σ x,σ y,ς A n C] 24)));have HB:=QA b1;have HF:=QA hf
  have QK:Hid (∀W,Below (w.alloc (θ #[ι κ 22,σ x,σ y,ς A n C] 24)).heap.size (w.alloc (θ #[ι κ 22,σ x,σ y,ς A n C] 24)) W→W.cell? ⟨w.heap.size,0,none⟩=some (ι κ 22)∧W.cell? ⟨w.heap.size,1,none⟩=some (σ x)∧W.cell? ⟨w.heap.size,3,none⟩=some (ς A n C)):=fun W hW=>by
    have ZJ:∀i v,#[ι κ 22,σ x,σ y,ς A n C][i]? = some v→W.cell? ⟨w.heap.size,i,none⟩=some v:=fun i v hv=>by
      rw[hW.cell (p:=⟨w.heap.size,i,none⟩) (by simp),World.cell?_alloc_at _ _ _ _ rfl];simpa using hv
    exact⟨ZJ 0 _ rfl,ZJ 1 _ rfl,ZJ 3 _ rfl⟩
  obtain⟨nb,hnb⟩:=Mem.ZB (JC x);rw[hnb]at HN;obtain⟨eb,QV⟩:=Mem.ZB ((x.toList==[]));clear b1 hf;clear QV hnb;cases x0:(x.toList==[43,43])with
  |true =>
   have HV:Hid (Qa 22 x c=Qe [.one [Zv]] c):=by show _=_;unfold Qa Q2 Q1;simp[x0]
   go_enter func22,ntmps22;go_wp2_with fail;refine c₁ HN.out fun w1 hb=>?_;obtain⟨q0,q1,q3⟩:=QK.out w1 hb;have QJ:=QN HB hb;clear hb HN QK;have HR:=QA (cK A n C c w1 (HF.out.later QJ.out));go_wp2_with fail;refine c₁ HR.out fun w2 hb=>?_;have QR:=QN QJ hb;clear hb;go_wp2;go_ret;exact⟨by rw[HV.out];rfl,QR.out⟩
  |false =>
  cases x1:(x.toList==[45,45])with
  |true =>
   have HV:Hid (Qa 22 x c=Qe [.one [Zv]] c):=by show _=_;unfold Qa Q2 Q1;simp[x0,x1]
   go_enter func22,ntmps22;go_wp2_with fail;refine c₁ HN.out fun w1 hb=>?_;obtain⟨q0,q1,q3⟩:=QK.out w1 hb;have QJ:=QN HB hb;clear hb HN QK;have HR:=QA (cK A n C c w1 (HF.out.later QJ.out));go_wp2_with fail;refine c₁ HR.out fun w2 hb=>?_;have QR:=QN QJ hb;clear hb;go_wp2;go_ret;exact⟨by rw[HV.out];rfl,QR.out⟩
  |false =>
  have HV:Hid (Qa 22 x c=false):=by show _=_;unfold Qa Q2 Q1;simp[x0,x1]
  go_enter func22,ntmps22;go_wp2_with fail;refine c₁ HN.out fun w1 hb=>?_;obtain⟨q0,q1,q3⟩:=QK.out w1 hb;have QJ:=QN HB hb;clear hb HN QK;go_wp2;go_ret;exact⟨by rw[HV.out];rfl,QJ.out⟩
theorem Qs5(x y:ByteArray)(A:Option Addr)(n C:Nat)(c:F)(w:World)(hf:Fs w (Lo w.heap.size) (ς A n C) c)(hx:x.size≤100000):Calls prog 22 #[ξ #[ι κ 28,σ x,σ y,ς A n C]] w fun e w'=>e = ρ (τ (Qa 28 x c))∧Below w.heap.size w w':=by
  have b1:=Qb w (θ #[ι κ 28,σ x,σ y,ς A n C] 24);have HN:=QA (Qx x (by omega) (w.alloc (θ #[ι κ 28,σ x,σ y,ς A n C] 24)));have HB:=QA b1;have HF:=QA hf
  have QK:Hid (∀W,Below (w.alloc (θ #[ι κ 28,σ x,σ y,ς A n C] 24)).heap.size (w.alloc (θ #[ι κ 28,σ x,σ y,ς A n C] 24)) W→W.cell? ⟨w.heap.size,0,none⟩=some (ι κ 28)∧W.cell? ⟨w.heap.size,1,none⟩=some (σ x)∧W.cell? ⟨w.heap.size,3,none⟩=some (ς A n C)):=fun W hW=>by
    have ZJ:∀i v,#[ι κ 28,σ x,σ y,ς A n C][i]? = some v→W.cell? ⟨w.heap.size,i,none⟩=some v:=fun i v hv=>by
      rw[hW.cell (p:=⟨w.heap.size,i,none⟩) (by simp),World.cell?_alloc_at _ _ _ _ rfl];simpa using hv
    exact⟨ZJ 0 _ rfl,ZJ 1 _ rfl,ZJ 3 _ rfl⟩
  obtain⟨nb,hnb⟩:=Mem.ZB (JC x);rw[hnb]at HN;obtain⟨eb,QV⟩:=Mem.ZB ((x.toList==[]));clear b1 hf;clear QV hnb;cases x0:(x.toList==[45])with
  |true =>
   have HV:Hid (Qa 28 x c=Qe [.one [Qg]] c):=by show _=_;unfold Qa Q2 Q1;simp[x0]
   go_enter func22,ntmps22;go_wp2_with fail;refine c₁ HN.out fun w1 hb=>?_;obtain⟨q0,q1,q3⟩:=QK.out w1 hb;have QJ:=QN HB hb;clear hb HN QK;have HR:=QA (NJ A n C c w1 (HF.out.later QJ.out));go_wp2_with fail;refine c₁ HR.out fun w2 hb=>?_;have QR:=QN QJ hb;clear hb;go_wp2;go_ret;exact⟨by rw[HV.out];rfl,QR.out⟩
  |false =>
  cases x1:(x.toList==[33])with
  |true =>
   have HV:Hid (Qa 28 x c=Qe [.one [Qg]] c):=by show _=_;unfold Qa Q2 Q1;simp[x0,x1]
   go_enter func22,ntmps22;go_wp2_with fail;refine c₁ HN.out fun w1 hb=>?_;obtain⟨q0,q1,q3⟩:=QK.out w1 hb;have QJ:=QN HB hb;clear hb HN QK;have HR:=QA (NJ A n C c w1 (HF.out.later QJ.out));go_wp2_with fail;refine c₁ HR.out fun w2 hb=>?_;have QR:=QN QJ hb;clear hb;go_wp2;go_ret;exact⟨by rw[HV.out];rfl,QR.out⟩
  |false =>
  cases x2:(x.toList==[94])with
  |true =>
   have HV:Hid (Qa 28 x c=Qe [.one [Qg]] c):=by show _=_;unfold Qa Q2 Q1;simp[x0,x1,x2]
   go_enter func22,ntmps22;go_wp2_with fail;refine c₁ HN.out fun w1 hb=>?_;obtain⟨q0,q1,q3⟩:=QK.out w1 hb;have QJ:=QN HB hb;clear hb HN QK;have HR:=QA (NJ A n C c w1 (HF.out.later QJ.out));go_wp2_with fail;refine c₁ HR.out fun w2 hb=>?_;have QR:=QN QJ hb;clear hb;go_wp2;go_ret;exact⟨by rw[HV.out];rfl,QR.out⟩
  |false =>
  cases x3:(x.toList==[42])with
  |true =>
   have HV:Hid (Qa 28 x c=Qe [.one [Qg]] c):=by show _=_;unfold Qa Q2 Q1;simp[x0,x1,x2,x3]
   go_enter func22,ntmps22;go_wp2_with fail;refine c₁ HN.out fun w1 hb=>?_;obtain⟨q0,q1,q3⟩:=QK.out w1 hb;have QJ:=QN HB hb;clear hb HN QK;have HR:=QA (NJ A n C c w1 (HF.out.later QJ.out));go_wp2_with fail;refine c₁ HR.out fun w2 hb=>?_;have QR:=QN QJ hb;clear hb;go_wp2;go_ret;exact⟨by rw[HV.out];rfl,QR.out⟩
  |false =>
  cases x4:(x.toList==[38])with
  |true =>
   have HV:Hid (Qa 28 x c=Qe [.one [Qg]] c):=by show _=_;unfold Qa Q2 Q1;simp[x0,x1,x2,x3,x4]
   go_enter func22,ntmps22;go_wp2_with fail;refine c₁ HN.out fun w1 hb=>?_;obtain⟨q0,q1,q3⟩:=QK.out w1 hb;have QJ:=QN HB hb;clear hb HN QK;have HR:=QA (NJ A n C c w1 (HF.out.later QJ.out));go_wp2_with fail;refine c₁ HR.out fun w2 hb=>?_;have QR:=QN QJ hb;clear hb;go_wp2;go_ret;exact⟨by rw[HV.out];rfl,QR.out⟩
  |false =>
  cases x5:(x.toList==[43])with
  |true =>
   have HV:Hid (Qa 28 x c=Qe [.one [Qg]] c):=by show _=_;unfold Qa Q2 Q1;simp[x0,x1,x2,x3,x4,x5]
   go_enter func22,ntmps22;go_wp2_with fail;refine c₁ HN.out fun w1 hb=>?_;obtain⟨q0,q1,q3⟩:=QK.out w1 hb;have QJ:=QN HB hb;clear hb HN QK;have HR:=QA (NJ A n C c w1 (HF.out.later QJ.out));go_wp2_with fail;refine c₁ HR.out fun w2 hb=>?_;have QR:=QN QJ hb;clear hb;go_wp2;go_ret;exact⟨by rw[HV.out];rfl,QR.out⟩
  |false =>
  have HV:Hid (Qa 28 x c=false):=by show _=_;unfold Qa Q2 Q1;simp[x0,x1,x2,x3,x4,x5]
  go_enter func22,ntmps22;go_wp2_with fail;refine c₁ HN.out fun w1 hb=>?_;obtain⟨q0,q1,q3⟩:=QK.out w1 hb;have QJ:=QN HB hb;clear hb HN QK;go_wp2;go_ret;exact⟨by rw[HV.out];rfl,QJ.out⟩
theorem Qpt(x y:ByteArray)(A:Option Addr)(n C:Nat)(c:F)(w:World)(hf:Fs w (Lo w.heap.size) (ς A n C) c)(hx:x.size≤100000)(hp:(x.toList==[58,61])=false):Calls prog 22 #[ξ #[ι κ 21,σ x,σ y,ς A n C]] w fun e w'=>e = ρ (τ (Qa 21 x c))∧Below w.heap.size w w':=by
  have b1:=Qb w (θ #[ι κ 21,σ x,σ y,ς A n C] 24);have HN:=QA (Qx x (by omega) (w.alloc (θ #[ι κ 21,σ x,σ y,ς A n C] 24)));have HB:=QA b1;have HF:=QA hf
  have QK:Hid (∀W,Below (w.alloc (θ #[ι κ 21,σ x,σ y,ς A n C] 24)).heap.size (w.alloc (θ #[ι κ 21,σ x,σ y,ς A n C] 24)) W→W.cell? ⟨w.heap.size,0,none⟩=some (ι κ 21)∧W.cell? ⟨w.heap.size,1,none⟩=some (σ x)∧W.cell? ⟨w.heap.size,3,none⟩=some (ς A n C)):=fun W hW=>by
    have ZJ:∀i v,#[ι κ 21,σ x,σ y,ς A n C][i]? = some v→W.cell? ⟨w.heap.size,i,none⟩=some v:=fun i v hv=>by
      rw[hW.cell (p:=⟨w.heap.size,i,none⟩) (by simp),World.cell?_alloc_at _ _ _ _ rfl];simpa using hv
    exact⟨ZJ 0 _ rfl,ZJ 1 _ rfl,ZJ 3 _ rfl⟩
  obtain⟨nb,hnb⟩:=Mem.ZB (JC x);rw[hnb]at HN;obtain⟨eb,QV⟩:=Mem.ZB ((x.toList==[]));clear b1 hf;clear QV hnb;cases x0:(x.toList==[61])with
  |true =>
   have HV:Hid (Qa 21 x c=Qe [.one [Zv],.one [Qg]] c):=by show _=_;unfold Qa Q2 Q1;simp[hp,x0]
   go_enter func22,ntmps22;go_wp2_with fail;refine c₁ HN.out fun w1 hb=>?_;obtain⟨q0,q1,q3⟩:=QK.out w1 hb;have QJ:=QN HB hb;clear hb HN QK;have HR:=QA (Fa A n C c w1 (HF.out.later QJ.out));go_wp2_with fail;refine c₁ HR.out fun w2 hb=>?_;have QR:=QN QJ hb;clear hb;go_wp2;go_ret;exact⟨by rw[HV.out];rfl,QR.out⟩
  |false =>
  cases x1:(x.toList==[43,61])with
  |true =>
   have HV:Hid (Qa 21 x c=Qe [.one [Zv],.one [Qg]] c):=by show _=_;unfold Qa Q2 Q1;simp[hp,x0,x1]
   go_enter func22,ntmps22;go_wp2_with fail;refine c₁ HN.out fun w1 hb=>?_;obtain⟨q0,q1,q3⟩:=QK.out w1 hb;have QJ:=QN HB hb;clear hb HN QK;have HR:=QA (Fa A n C c w1 (HF.out.later QJ.out));go_wp2_with fail;refine c₁ HR.out fun w2 hb=>?_;have QR:=QN QJ hb;clear hb;go_wp2;go_ret;exact⟨by rw[HV.out];rfl,QR.out⟩
  |false =>
  cases x2:(x.toList==[45,61])with
  |true =>
   have HV:Hid (Qa 21 x c=Qe [.one [Zv],.one [Qg]] c):=by show _=_;unfold Qa Q2 Q1;simp[hp,x0,x1,x2]
   go_enter func22,ntmps22;go_wp2_with fail;refine c₁ HN.out fun w1 hb=>?_;obtain⟨q0,q1,q3⟩:=QK.out w1 hb;have QJ:=QN HB hb;clear hb HN QK;have HR:=QA (Fa A n C c w1 (HF.out.later QJ.out));go_wp2_with fail;refine c₁ HR.out fun w2 hb=>?_;have QR:=QN QJ hb;clear hb;go_wp2;go_ret;exact⟨by rw[HV.out];rfl,QR.out⟩
  |false =>
  cases x3:(x.toList==[42,61])with
  |true =>
   have HV:Hid (Qa 21 x c=Qe [.one [Zv],.one [Qg]] c):=by show _=_;unfold Qa Q2 Q1;simp[hp,x0,x1,x2,x3]
   go_enter func22,ntmps22;go_wp2_with fail;refine c₁ HN.out fun w1 hb=>?_;obtain⟨q0,q1,q3⟩:=QK.out w1 hb;have QJ:=QN HB hb;clear hb HN QK;have HR:=QA (Fa A n C c w1 (HF.out.later QJ.out));go_wp2_with fail;refine c₁ HR.out fun w2 hb=>?_;have QR:=QN QJ hb;clear hb;go_wp2;go_ret;exact⟨by rw[HV.out];rfl,QR.out⟩
  |false =>
  cases x4:(x.toList==[47,61])with
  |true =>
   have HV:Hid (Qa 21 x c=Qe [.one [Zv],.one [Qg]] c):=by show _=_;unfold Qa Q2 Q1;simp[hp,x0,x1,x2,x3,x4]
   go_enter func22,ntmps22;go_wp2_with fail;refine c₁ HN.out fun w1 hb=>?_;obtain⟨q0,q1,q3⟩:=QK.out w1 hb;have QJ:=QN HB hb;clear hb HN QK;have HR:=QA (Fa A n C c w1 (HF.out.later QJ.out));go_wp2_with fail;refine c₁ HR.out fun w2 hb=>?_;have QR:=QN QJ hb;clear hb;go_wp2;go_ret;exact⟨by rw[HV.out];rfl,QR.out⟩
  |false =>
  cases x5:(x.toList==[37,61])with
  |true =>
   have HV:Hid (Qa 21 x c=Qe [.one [Zv],.one [Qg]] c):=by show _=_;unfold Qa Q2 Q1;simp[hp,x0,x1,x2,x3,x4,x5]
   go_enter func22,ntmps22;go_wp2_with fail;refine c₁ HN.out fun w1 hb=>?_;obtain⟨q0,q1,q3⟩:=QK.out w1 hb;have QJ:=QN HB hb;clear hb HN QK;have HR:=QA (Fa A n C c w1 (HF.out.later QJ.out));go_wp2_with fail;refine c₁ HR.out fun w2 hb=>?_;have QR:=QN QJ hb;clear hb;go_wp2;go_ret;exact⟨by rw[HV.out];rfl,QR.out⟩
  |false =>
  have HV:Hid (Qa 21 x c=false):=by show _=_;unfold Qa Q2 Q1;simp[hp,x0,x1,x2,x3,x4,x5]
  go_enter func22,ntmps22;go_wp2_with fail;refine c₁ HN.out fun w1 hb=>?_;obtain⟨q0,q1,q3⟩:=QK.out w1 hb;have QJ:=QN HB hb;clear hb HN QK;go_wp2;go_ret;exact⟨by rw[HV.out];rfl,QJ.out⟩
theorem Qps(x y:ByteArray)(A:Option Addr)(n C:Nat)(c:F)(w:World)(hf:Fs w (Lo w.heap.size) (ς A n C) c)(hx:x.size≤100000)(hp:(x.toList==[58,61])=true):Calls prog 22 #[ξ #[ι κ 21,σ x,σ y,ς A n C]] w fun e w'=>e = ρ (τ (Qa 21 x c))∧Below w.heap.size w w':=by
  have b1:=Qb w (θ #[ι κ 21,σ x,σ y,ς A n C] 24);have HN:=QA (Qx x (by omega) (w.alloc (θ #[ι κ 21,σ x,σ y,ς A n C] 24)));have HB:=QA b1;have HF:=QA hf
  have QK:Hid (∀W,Below (w.alloc (θ #[ι κ 21,σ x,σ y,ς A n C] 24)).heap.size (w.alloc (θ #[ι κ 21,σ x,σ y,ς A n C] 24)) W→W.cell? ⟨w.heap.size,0,none⟩=some (ι κ 21)∧W.cell? ⟨w.heap.size,1,none⟩=some (σ x)∧W.cell? ⟨w.heap.size,3,none⟩=some (ς A n C)):=fun W hW=>by
    have ZJ:∀i v,#[ι κ 21,σ x,σ y,ς A n C][i]? = some v→W.cell? ⟨w.heap.size,i,none⟩=some v:=fun i v hv=>by
      rw[hW.cell (p:=⟨w.heap.size,i,none⟩) (by simp),World.cell?_alloc_at _ _ _ _ rfl];simpa using hv
    exact⟨ZJ 0 _ rfl,ZJ 1 _ rfl,ZJ 3 _ rfl⟩
  obtain⟨nb,hnb⟩:=Mem.ZB (JC x);rw[hnb]at HN;obtain⟨eb,QV⟩:=Mem.ZB ((x.toList==[]));clear b1 hf;clear QV hnb;have HV:Hid (Qa 21 x c=Qe [.one [Qk [9]],.one [Qg]] c):=by show _=_;unfold Qa Q2 Q1;simp[hp]
  go_enter func22,ntmps22;go_wp2_with fail;refine c₁ HN.out fun w1 hb=>?_;obtain⟨q0,q1,q3⟩:=QK.out w1 hb;have QJ:=QN HB hb;clear hb HN QK;have HR:=QA (Q2i A n C c w1 (HF.out.later QJ.out));go_wp2_with fail;refine c₁ HR.out fun w2 hb=>?_;have QR:=QN QJ hb;clear hb;go_wp2;go_ret;exact⟨by rw[HV.out];rfl,QR.out⟩
theorem Qs4(x y:ByteArray)(A:Option Addr)(n C:Nat)(c:F)(w:World)(hf:Fs w (Lo w.heap.size) (ς A n C) c)(hx:x.size≤100000):Calls prog 22 #[ξ #[ι κ 29,σ x,σ y,ς A n C]] w fun e w'=>e = ρ (τ (Qa 29 x c))∧Below w.heap.size w w':=by
  have b1:=Qb w (θ #[ι κ 29,σ x,σ y,ς A n C] 24);have HN:=QA (Qx x (by omega) (w.alloc (θ #[ι κ 29,σ x,σ y,ς A n C] 24)));have HB:=QA b1;have HF:=QA hf
  have QK:Hid (∀W,Below (w.alloc (θ #[ι κ 29,σ x,σ y,ς A n C] 24)).heap.size (w.alloc (θ #[ι κ 29,σ x,σ y,ς A n C] 24)) W→W.cell? ⟨w.heap.size,0,none⟩=some (ι κ 29)∧W.cell? ⟨w.heap.size,1,none⟩=some (σ x)∧W.cell? ⟨w.heap.size,3,none⟩=some (ς A n C)):=fun W hW=>by
    have ZJ:∀i v,#[ι κ 29,σ x,σ y,ς A n C][i]? = some v→W.cell? ⟨w.heap.size,i,none⟩=some v:=fun i v hv=>by
      rw[hW.cell (p:=⟨w.heap.size,i,none⟩) (by simp),World.cell?_alloc_at _ _ _ _ rfl];simpa using hv
    exact⟨ZJ 0 _ rfl,ZJ 1 _ rfl,ZJ 3 _ rfl⟩
  obtain⟨nb,hnb⟩:=Mem.ZB (JC x);rw[hnb]at HN;obtain⟨eb,QV⟩:=Mem.ZB ((x.toList==[]));clear b1 hf;clear QV hnb;have HL:=QA (fun W:World=>Ut x W);by_cases hl:0<Ql x
  ·have WK:(0:Int)<((Ql x:Nat):Int):=by omega
   have HV:Hid (Qa 29 x c=Qe [.one [Qg],.one [Qg]] c):=by show _=_;unfold Qa Q2 Q1;simp[hl]
   clear hl;generalize Ql x=lx at *;go_enter func22,ntmps22;go_wp2_with fail;refine c₁ HN.out fun w1 hb=>?_;obtain⟨q0,q1,q3⟩:=QK.out w1 hb;have QJ:=QN HB hb;clear hb HN QK;go_wp2_with fail;refine c₁ (HL.out _) fun w' hw=>?_;subst hw;have HR:=QA (dm A n C c _ (HF.out.later QJ.out));go_wp2_with fail;refine c₁ HR.out fun w2 hb=>?_;have QR:=QN QJ hb;clear hb;go_wp2;go_ret;exact⟨by rw[HV.out];rfl,QR.out⟩
  ·have WK:¬(0:Int)<((Ql x:Nat):Int):=by omega
   have HV:Hid (Qa 29 x c=false):=by show _=_;unfold Qa Q2 Q1;simp[hl]
   clear hl;generalize Ql x=lx at *;go_enter func22,ntmps22;go_wp2_with fail;refine c₁ HN.out fun w1 hb=>?_;obtain⟨q0,q1,q3⟩:=QK.out w1 hb;have QJ:=QN HB hb;clear hb HN QK;go_wp2_with fail;refine c₁ (HL.out _) fun w' hw=>?_;subst hw;go_wp2;go_ret;exact⟨by rw[HV.out];rfl,QJ.out⟩
theorem Qw2(x y:ByteArray)(A:Option Addr)(n C:Nat)(c:F)(w:World)(hf:Fs w (Lo w.heap.size) (ς A n C) c)(hx:x.size≤100000):Calls prog 22 #[ξ #[ι κ 5,σ x,σ y,ς A n C]] w fun e w'=>e = ρ (τ (Qa 5 x c))∧Below w.heap.size w w':=by
  have b1:=Qb w (θ #[ι κ 5,σ x,σ y,ς A n C] 24);have HN:=QA (Qx x (by omega) (w.alloc (θ #[ι κ 5,σ x,σ y,ς A n C] 24)));have HB:=QA b1;have HF:=QA hf
  have QK:Hid (∀W,Below (w.alloc (θ #[ι κ 5,σ x,σ y,ς A n C] 24)).heap.size (w.alloc (θ #[ι κ 5,σ x,σ y,ς A n C] 24)) W→W.cell? ⟨w.heap.size,0,none⟩=some (ι κ 5)∧W.cell? ⟨w.heap.size,1,none⟩=some (σ x)∧W.cell? ⟨w.heap.size,3,none⟩=some (ς A n C)):=fun W hW=>by
    have ZJ:∀i v,#[ι κ 5,σ x,σ y,ς A n C][i]? = some v→W.cell? ⟨w.heap.size,i,none⟩=some v:=fun i v hv=>by
      rw[hW.cell (p:=⟨w.heap.size,i,none⟩) (by simp),World.cell?_alloc_at _ _ _ _ rfl];simpa using hv
    exact⟨ZJ 0 _ rfl,ZJ 1 _ rfl,ZJ 3 _ rfl⟩
  obtain⟨nb,hnb⟩:=Mem.ZB (JC x);rw[hnb]at HN;obtain⟨eb,QV⟩:=Mem.ZB ((x.toList==[]));clear b1 hf;clear QV;have QX:Hid (Qa 5 x c=(nb&&(Qe [.one [Qt,Qk [33]],.one [Qg,Qk [33]]] c && !Qe [.one [Qk [33]],.one [Qk [33]]] c))):=by show _=_;rw[←hnb];unfold Qa Q2 Q1;simp
  clear hnb;cases nb with
  |false =>
   have HV:Hid (Qa 5 x c=false):=by show _=_;rw[QX.out];rfl
   clear QX;go_enter func22,ntmps22;go_wp2_with fail;refine c₁ HN.out fun w1 hb=>?_;obtain⟨q0,q1,q3⟩:=QK.out w1 hb;have QJ:=QN HB hb;clear hb HN QK;go_wp2;go_ret;exact⟨by rw[HV.out];rfl,QJ.out⟩
  |true =>
   cases hrow:Qe [.one [Qt,Qk [33]],.one [Qg,Qk [33]]] c with
   |false =>
    have HV:Hid (Qa 5 x c=false):=by show _=_;rw[QX.out,hrow];rfl
    clear QX;go_enter func22,ntmps22;go_wp2_with fail;refine c₁ HN.out fun w1 hb=>?_;obtain⟨q0,q1,q3⟩:=QK.out w1 hb;have QJ:=QN HB hb;clear hb HN QK;have HR:=QA (ql A n C c w1 (HF.out.later QJ.out));rw[hrow]at HR;clear hrow;go_wp2_with fail;refine c₁ HR.out fun w2 hb=>?_;have QR:=QN QJ hb;clear hb;go_wp2;go_ret;exact⟨by rw[HV.out];rfl,QR.out⟩
   |true =>
    obtain⟨k1,x1,y1,c1,k2,x2,y2,c2,hc⟩:=Q0s hrow;have FN:Hid (Qa 5 x c=!(k1==33&&k2==33)):=by show _=_;rw[QX.out,hrow,hc,Q2k];rfl
    obtain⟨b,off,s1,rfl,XP,hi0,U'⟩:=HF.out.at_ (i:=0) (by rw[hc];rfl);obtain⟨b',PO,s2,e,_,hi1,XR⟩:=HF.out.at_ (i:=1) (by rw[hc];rfl);injection e with e;injection e with e1 e2;subst e1;subst e2;have hb1:b<w.heap.size:=XP;have c0:=U'.c0;have c4:=XR.c0;simp only[Nat.zero_mul,Nat.add_zero,Nat.one_mul]at c0 c4;have h0n:(0:Int)<(n:Int):=by omega
    have iO:(1:Int)<(n:Int):=by omega
    have HC:Hid (∀W,Below w.heap.size w W→W.cell? ⟨b,off,none⟩=some (ι κ k1)∧W.cell? ⟨b,off+4,none⟩=some (ι κ k2)):=fun W hW=>⟨(hW.cell (p:=⟨b,off,none⟩) hb1).trans c0,(hW.cell (p:=⟨b,off+4,none⟩) hb1).trans c4⟩
    clear QX U' XR c0 c4 XP;by_cases z1:k1=33
    ·subst z1;by_cases z2:k2=33
     ·subst z2;have HV:Hid (Qa 5 x c=false):=by show _=_;rw[FN.out];simp
      clear FN;go_enter func22,ntmps22;go_wp2_with fail;refine c₁ HN.out fun w1 hb=>?_;obtain⟨q0,q1,q3⟩:=QK.out w1 hb;have QJ:=QN HB hb;clear hb HN QK;have HR:=QA (ql (some ⟨b,off,none⟩) n C c w1 (HF.out.later QJ.out));rw[hrow]at HR;clear hrow;go_wp2_with fail;refine c₁ HR.out fun w2 hb=>?_;have QR:=QN QJ hb;obtain⟨m0,m4⟩:=HC.out w2 QR.out;clear hb;go_wp2;go_ret;exact⟨by rw[HV.out];rfl,QR.out⟩
     ·have z2':(k2 != 33)=true:=by simpa using z2
      have bp:=ZC z2;have HV:Hid (Qa 5 x c=true):=by show _=_;rw[FN.out];simp[z2]
      clear FN;go_enter func22,ntmps22;go_wp2_with fail;refine c₁ HN.out fun w1 hb=>?_;obtain⟨q0,q1,q3⟩:=QK.out w1 hb;have QJ:=QN HB hb;clear hb HN QK;have HR:=QA (ql (some ⟨b,off,none⟩) n C c w1 (HF.out.later QJ.out));rw[hrow]at HR;clear hrow;go_wp2_with fail;refine c₁ HR.out fun w2 hb=>?_;have QR:=QN QJ hb;obtain⟨m0,m4⟩:=HC.out w2 QR.out;clear hb;go_wp2;go_ret;exact⟨by rw[HV.out];rfl,QR.out⟩
    ·have z1':(k1 != 33)=true:=by simpa using z1
     have bu:=ZC z1;have HV:Hid (Qa 5 x c=true):=by show _=_;rw[FN.out];simp[z1]
     clear FN;go_enter func22,ntmps22;go_wp2_with fail;refine c₁ HN.out fun w1 hb=>?_;obtain⟨q0,q1,q3⟩:=QK.out w1 hb;have QJ:=QN HB hb;clear hb HN QK;have HR:=QA (ql (some ⟨b,off,none⟩) n C c w1 (HF.out.later QJ.out));rw[hrow]at HR;clear hrow;go_wp2_with fail;refine c₁ HR.out fun w2 hb=>?_;have QR:=QN QJ hb;obtain⟨m0,m4⟩:=HC.out w2 QR.out;clear hb;go_wp2;go_ret;exact⟨by rw[HV.out];rfl,QR.out⟩
theorem Qmr(k:Int)(x y:ByteArray)(A:Option Addr)(n C:Nat)(c:F)(w:World)(hf:Fs w (Lo w.heap.size) (ς A n C) c)(hx:x.size≤100000)(b1:(k==1)=false)(b2:(k==2)=false)(b3:(k==3)=false)(b4:(k==4)=false)(b5:(k==5)=false)(b6:(k==6)=false)(b7:(k==7)=false)(b8:(k==8)=false)(b9:(k==9)=false)(YT:(k==10)=false)(EI:(k==11)=false)(Lm:(k==12)=false)(Ll:(k==13)=false)(RF:(k==14)=false)(RD:(k==15)=false)(NF:(k==16)=false)(TT:(k==17)=false)(Ci:(k==18)=false)(b19:(k==19)=false)(b20:(k==20)=false)(b21:(k==21)=false)(b22:(k==22)=false)(b23:(k==23)=false)(b24:(k==24)=false)(b25:(k==25)=false)(b26:(k==26)=false)(b27:(k==27)=false)(eP:(k==28)=false)(eO:(k==29)=false)(eN:(k==30)=false)(eK:(k==31)=false)(b32:(k==32)=false)(b33:(k==33)=false):Calls prog 22 #[ξ #[ι κ k,σ x,σ y,ς A n C]] w fun e w'=>e = ρ (τ false)∧Below w.heap.size w w':=by
  have HN:=QA (Qx x (by omega) (w.alloc (θ #[ι κ k,σ x,σ y,ς A n C] 24)));have HB:=QA (Qb w (θ #[ι κ k,σ x,σ y,ς A n C] 24));obtain⟨nb,hnb⟩:=Mem.ZB (JC x);rw[hnb]at HN;clear hf hnb;go_enter func22,ntmps22;go_wp2_with fail;refine c₁ HN.out fun w1 hb=>?_;have q0:w1.cell? ⟨w.heap.size,0,none⟩=some (ι κ k):=by rw[hb.cell (p:=⟨w.heap.size,0,none⟩) (by simp),World.cell?_alloc_at _ _ _ _ rfl];rfl
  have QJ:=QN HB hb;clear hb HN;go_wp2;go_ret;exact⟨rfl,QJ.out⟩
theorem Qpr(k:Int)(x y:ByteArray)(A:Option Addr)(n C:Nat)(c:F)(w:World)(hf:Fs w (Lo w.heap.size) (ς A n C) c)(hx:x.size≤100000):Calls prog 22 #[ξ #[ι κ k,σ x,σ y,ς A n C]] w fun e w'=>e = ρ (τ (Qa k x c))∧Below w.heap.size w w':=by
  by_cases h1:k=1
  ·subst h1;exact Qw6 x y A n C c w hf hx
  by_cases h2:k=2
  ·subst h2;exact Qw5 x y A n C c w hf hx
  by_cases h3:k=3
  ·subst h3;exact Qw4 x y A n C c w hf hx
  by_cases h4:k=4
  ·subst h4;exact Qw3 x y A n C c w hf hx
  by_cases h5:k=5
  ·subst h5;exact Qw2 x y A n C c w hf hx
  by_cases h6:k=6
  ·subst h6;exact Qw1 x y A n C c w hf hx
  by_cases h7:k=7
  ·subst h7;exact Qw0 x y A n C c w hf hx
  by_cases h8:k=8
  ·subst h8;exact wU x y A n C c w hf hx
  by_cases h9:k=9
  ·subst h9;exact wV x y A n C c w hf hx
  by_cases h10:k=10
  ·subst h10;exact Qtm x y A n C c w hf hx
  by_cases h11:k=11
  ·subst h11;exact Qtl x y A n C c w hf hx
  by_cases h12:k=12
  ·subst h12;exact Qtk x y A n C c w hf hx
  by_cases VQ:k=13
  ·subst VQ;exact Qtj x y A n C c w hf hx
  by_cases OT:k=14
  ·subst OT;exact Qti x y A n C c w hf hx
  by_cases Cf:k=15
  ·subst Cf;exact Qth x y A n C c w hf hx
  by_cases jx:k=16
  ·subst jx;exact Qtg x y A n C c w hf hx
  by_cases VB:k=17
  ·subst VB;exact Qtf x y A n C c w hf hx
  by_cases Ce:k=18
  ·subst Ce;exact Qte x y A n C c w hf hx
  by_cases h19:k=19
  ·subst h19;exact Qtd x y A n C c w hf hx
  by_cases h20:k=20
  ·subst h20;exact Qtc x y A n C c w hf hx
  by_cases h21:k=21
  ·subst h21;cases hp:(x.toList==[58,61])with
   |true=>exact Qps x y A n C c w hf hx hp
   |false=>exact Qpt x y A n C c w hf hx hp
  by_cases h22:k=22
  ·subst h22;exact Qtb x y A n C c w hf hx
  by_cases h23:k=23
  ·subst h23;exact Qta x y A n C c w hf hx
  by_cases jw:k=24
  ·subst jw;exact Qs9 x y A n C c w hf hx
  by_cases KX:k=25
  ·subst KX;exact Qs8 x y A n C c w hf hx
  by_cases VP:k=26
  ·subst VP;exact Qs7 x y A n C c w hf hx
  by_cases jv:k=27
  ·subst jv;exact Qs6 x y A n C c w hf hx
  by_cases Ca:k=28
  ·subst Ca;exact Qs5 x y A n C c w hf hx
  by_cases Sy:k=29
  ·subst Sy;exact Qs4 x y A n C c w hf hx
  by_cases MZ:k=30
  ·subst MZ;exact Qs3 x y A n C c w hf hx
  by_cases MX:k=31
  ·subst MX;exact Qs2 x y A n C c w hf hx
  by_cases GY:k=32
  ·subst GY;exact Qs1 x y A n C c w hf hx
  by_cases OS:k=33
  ·subst OS;exact Qs0 x y A n C c w hf hx
  rw[show Qa k x c=false by unfold Qa Q1;simp only[h1,h2,h3,h4,h5,h6,h7,h8,h9,h10,h11,h12,VQ,OT,Cf,jx,VB,Ce,h19,h20,h21,h22,h23,jw,KX,VP,jv,Ca,Sy,MZ,MX,GY,OS,or_self,if_false,Bool.and_false]];exact Qmr k x y A n C c w hf hx (ZC h1) (ZC h2) (ZC h3) (ZC h4) (ZC h5) (ZC h6) (ZC h7) (ZC h8) (ZC h9) (ZC h10) (ZC h11) (ZC h12) (ZC VQ) (ZC OT) (ZC Cf) (ZC jx) (ZC VB) (ZC Ce) (ZC h19) (ZC h20) (ZC h21) (ZC h22) (ZC h23) (ZC jw) (ZC KX) (ZC VP) (ZC jv) (ZC Ca) (ZC Sy) (ZC MZ) (ZC MX) (ZC GY) (ZC OS)
