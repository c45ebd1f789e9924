import Derived.Test.YtaiihnniblibaaaGreatDoorG38
set_option maxHeartbeats 4000000
set_option maxRecDepth 100000
set_option linter.unusedVariables false
open Go.Proofs.Tryz Go.ChangeShapes Go.WideShapes Go.ChangeAt Go.RowKit
open Go.Lib renaming hid→QA
open _root_.Nat renaming le_refl→QH
open Go.Value renaming string→σ,int→ι,slice→ς,agg→ξ
open Go.IntKind renaming i64→κ
open Go.Obj renaming cells→θ
open Go.Ending renaming returned→ρ
namespace Go.Proofs.YtaiihnniblibaaaGreatDoor
namespace Tree
open Mem
theorem Qt5(px py:ByteArray)(A:Option Addr)(n C:Nat)(f:F)(w:World)(hf:Fs w (Lo w.heap.size) (ς A n C) f)(p:Int):Calls prog 24 #[ξ #[ι κ 28,σ px,σ py,ς A n C],ι κ p] w fun e w'=>e = ρ (ι κ ((if Ze 28 px f p then 1 else 0)+1))∧Below w.heap.size w w':=by
  have b1:=Qb w (θ #[ι κ 28,σ px,σ py,ς A n C] 24);have HP:=QA (Zj (w.alloc (θ #[ι κ 28,σ px,σ py,ς A n C] 24)) 28 px py A n C f p (QH _) (hf.later b1));have HB:=QA b1
  have QK:Hid (∀W,Below (w.alloc (θ #[ι κ 28,σ px,σ py,ς A n C] 24)).heap.size (w.alloc (θ #[ι κ 28,σ px,σ py,ς A n C] 24)) W→W.cell? ⟨w.heap.size,0,none⟩=some (ι κ 28)):=fun W hW=>by
    rw[hW.cell (p:=⟨w.heap.size,0,none⟩) (by simp),World.cell?_alloc_at _ _ _ _ rfl];rfl
  generalize Ze 28 px f p=pb at *;clear b1 hf;cases pb with
  |true=>go_enter func24,ntmps24;go_wp2_with fail;refine c₁ (HP.out) fun w1 hb=>?_;have HE:=QN HB hb;have q0:=QK.out w1 hb;clear hb QK HP;go_wp2;go_ret;exact⟨rfl,HE.out⟩
  |false=>go_enter func24,ntmps24;go_wp2_with fail;refine c₁ (HP.out) fun w1 hb=>?_;have HE:=QN HB hb;have q0:=QK.out w1 hb;clear hb QK HP;go_wp2;go_ret;exact⟨rfl,HE.out⟩
theorem Qub(px py:ByteArray)(A:Option Addr)(n C:Nat)(f:F)(w:World)(hf:Fs w (Lo w.heap.size) (ς A n C) f)(p:Int):Calls prog 24 #[ξ #[ι κ 10,σ px,σ py,ς A n C],ι κ p] w fun e w'=>e = ρ (ι κ ((if Ze 10 px f p then 1 else 0)+1))∧Below w.heap.size w w':=by
  have b1:=Qb w (θ #[ι κ 10,σ px,σ py,ς A n C] 24);have HP:=QA (Zj (w.alloc (θ #[ι κ 10,σ px,σ py,ς A n C] 24)) 10 px py A n C f p (QH _) (hf.later b1));have HB:=QA b1
  have QK:Hid (∀W,Below (w.alloc (θ #[ι κ 10,σ px,σ py,ς A n C] 24)).heap.size (w.alloc (θ #[ι κ 10,σ px,σ py,ς A n C] 24)) W→W.cell? ⟨w.heap.size,0,none⟩=some (ι κ 10)):=fun W hW=>by
    rw[hW.cell (p:=⟨w.heap.size,0,none⟩) (by simp),World.cell?_alloc_at _ _ _ _ rfl];rfl
  generalize Ze 10 px f p=pb at *;clear b1 hf;cases pb with
  |true=>go_enter func24,ntmps24;go_wp2_with fail;refine c₁ (HP.out) fun w1 hb=>?_;have HE:=QN HB hb;have q0:=QK.out w1 hb;clear hb QK HP;go_wp2;go_ret;exact⟨rfl,HE.out⟩
  |false=>go_enter func24,ntmps24;go_wp2_with fail;refine c₁ (HP.out) fun w1 hb=>?_;have HE:=QN HB hb;have q0:=QK.out w1 hb;clear hb QK HP;go_wp2;go_ret;exact⟨rfl,HE.out⟩
theorem Qua(px py:ByteArray)(A:Option Addr)(n C:Nat)(f:F)(w:World)(hf:Fs w (Lo w.heap.size) (ς A n C) f)(p:Int):Calls prog 24 #[ξ #[ι κ 11,σ px,σ py,ς A n C],ι κ p] w fun e w'=>e = ρ (ι κ ((if Ze 11 px f p then 1 else 0)+1))∧Below w.heap.size w w':=by
  have b1:=Qb w (θ #[ι κ 11,σ px,σ py,ς A n C] 24);have HP:=QA (Zj (w.alloc (θ #[ι κ 11,σ px,σ py,ς A n C] 24)) 11 px py A n C f p (QH _) (hf.later b1));have HB:=QA b1
  have QK:Hid (∀W,Below (w.alloc (θ #[ι κ 11,σ px,σ py,ς A n C] 24)).heap.size (w.alloc (θ #[ι κ 11,σ px,σ py,ς A n C] 24)) W→W.cell? ⟨w.heap.size,0,none⟩=some (ι κ 11)):=fun W hW=>by
    rw[hW.cell (p:=⟨w.heap.size,0,none⟩) (by simp),World.cell?_alloc_at _ _ _ _ rfl];rfl
  generalize Ze 11 px f p=pb at *;clear b1 hf;cases pb with
  |true=>go_enter func24,ntmps24;go_wp2_with fail;refine c₁ (HP.out) fun w1 hb=>?_;have HE:=QN HB hb;have q0:=QK.out w1 hb;clear hb QK HP;go_wp2;go_ret;exact⟨rfl,HE.out⟩
  |false=>go_enter func24,ntmps24;go_wp2_with fail;refine c₁ (HP.out) fun w1 hb=>?_;have HE:=QN HB hb;have q0:=QK.out w1 hb;clear hb QK HP;go_wp2;go_ret;exact⟨rfl,HE.out⟩
theorem Qt9(px py:ByteArray)(A:Option Addr)(n C:Nat)(f:F)(w:World)(hf:Fs w (Lo w.heap.size) (ς A n C) f)(p:Int):Calls prog 24 #[ξ #[ι κ 12,σ px,σ py,ς A n C],ι κ p] w fun e w'=>e = ρ (ι κ ((if Ze 12 px f p then 1 else 0)+1))∧Below w.heap.size w w':=by
  have b1:=Qb w (θ #[ι κ 12,σ px,σ py,ς A n C] 24);have HP:=QA (Zj (w.alloc (θ #[ι κ 12,σ px,σ py,ς A n C] 24)) 12 px py A n C f p (QH _) (hf.later b1));have HB:=QA b1
  have QK:Hid (∀W,Below (w.alloc (θ #[ι κ 12,σ px,σ py,ς A n C] 24)).heap.size (w.alloc (θ #[ι κ 12,σ px,σ py,ς A n C] 24)) W→W.cell? ⟨w.heap.size,0,none⟩=some (ι κ 12)):=fun W hW=>by
    rw[hW.cell (p:=⟨w.heap.size,0,none⟩) (by simp),World.cell?_alloc_at _ _ _ _ rfl];rfl
  generalize Ze 12 px f p=pb at *;clear b1 hf;cases pb with
  |true=>go_enter func24,ntmps24;go_wp2_with fail;refine c₁ (HP.out) fun w1 hb=>?_;have HE:=QN HB hb;have q0:=QK.out w1 hb;clear hb QK HP;go_wp2;go_ret;exact⟨rfl,HE.out⟩
  |false=>go_enter func24,ntmps24;go_wp2_with fail;refine c₁ (HP.out) fun w1 hb=>?_;have HE:=QN HB hb;have q0:=QK.out w1 hb;clear hb QK HP;go_wp2;go_ret;exact⟨rfl,HE.out⟩
theorem Qt8(px py:ByteArray)(A:Option Addr)(n C:Nat)(f:F)(w:World)(hf:Fs w (Lo w.heap.size) (ς A n C) f)(p:Int):Calls prog 24 #[ξ #[ι κ 13,σ px,σ py,ς A n C],ι κ p] w fun e w'=>e = ρ (ι κ ((if Ze 13 px f p then 1 else 0)+1))∧Below w.heap.size w w':=by
  have b1:=Qb w (θ #[ι κ 13,σ px,σ py,ς A n C] 24);have HP:=QA (Zj (w.alloc (θ #[ι κ 13,σ px,σ py,ς A n C] 24)) 13 px py A n C f p (QH _) (hf.later b1));have HB:=QA b1
  have QK:Hid (∀W,Below (w.alloc (θ #[ι κ 13,σ px,σ py,ς A n C] 24)).heap.size (w.alloc (θ #[ι κ 13,σ px,σ py,ς A n C] 24)) W→W.cell? ⟨w.heap.size,0,none⟩=some (ι κ 13)):=fun W hW=>by
    rw[hW.cell (p:=⟨w.heap.size,0,none⟩) (by simp),World.cell?_alloc_at _ _ _ _ rfl];rfl
  generalize Ze 13 px f p=pb at *;clear b1 hf;cases pb with
  |true=>go_enter func24,ntmps24;go_wp2_with fail;refine c₁ (HP.out) fun w1 hb=>?_;have HE:=QN HB hb;have q0:=QK.out w1 hb;clear hb QK HP;go_wp2;go_ret;exact⟨rfl,HE.out⟩
  |false=>go_enter func24,ntmps24;go_wp2_with fail;refine c₁ (HP.out) fun w1 hb=>?_;have HE:=QN HB hb;have q0:=QK.out w1 hb;clear hb QK HP;go_wp2;go_ret;exact⟨rfl,HE.out⟩
theorem Qt7(px py:ByteArray)(A:Option Addr)(n C:Nat)(f:F)(w:World)(hf:Fs w (Lo w.heap.size) (ς A n C) f)(p:Int):Calls prog 24 #[ξ #[ι κ 15,σ px,σ py,ς A n C],ι κ p] w fun e w'=>e = ρ (ι κ ((if Ze 15 px f p then 1 else 0)+1))∧Below w.heap.size w w':=by
  have b1:=Qb w (θ #[ι κ 15,σ px,σ py,ς A n C] 24);have HP:=QA (Zj (w.alloc (θ #[ι κ 15,σ px,σ py,ς A n C] 24)) 15 px py A n C f p (QH _) (hf.later b1));have HB:=QA b1
  have QK:Hid (∀W,Below (w.alloc (θ #[ι κ 15,σ px,σ py,ς A n C] 24)).heap.size (w.alloc (θ #[ι κ 15,σ px,σ py,ς A n C] 24)) W→W.cell? ⟨w.heap.size,0,none⟩=some (ι κ 15)):=fun W hW=>by
    rw[hW.cell (p:=⟨w.heap.size,0,none⟩) (by simp),World.cell?_alloc_at _ _ _ _ rfl];rfl
  generalize Ze 15 px f p=pb at *;clear b1 hf;cases pb with
  |true=>go_enter func24,ntmps24;go_wp2_with fail;refine c₁ (HP.out) fun w1 hb=>?_;have HE:=QN HB hb;have q0:=QK.out w1 hb;clear hb QK HP;go_wp2;go_ret;exact⟨rfl,HE.out⟩
  |false=>go_enter func24,ntmps24;go_wp2_with fail;refine c₁ (HP.out) fun w1 hb=>?_;have HE:=QN HB hb;have q0:=QK.out w1 hb;clear hb QK HP;go_wp2;go_ret;exact⟨rfl,HE.out⟩
theorem Qt6(px py:ByteArray)(A:Option Addr)(n C:Nat)(f:F)(w:World)(hf:Fs w (Lo w.heap.size) (ς A n C) f)(p:Int):Calls prog 24 #[ξ #[ι κ 17,σ px,σ py,ς A n C],ι κ p] w fun e w'=>e = ρ (ι κ ((if Ze 17 px f p then 1 else 0)+1))∧Below w.heap.size w w':=by
  have b1:=Qb w (θ #[ι κ 17,σ px,σ py,ς A n C] 24);have HP:=QA (Zj (w.alloc (θ #[ι κ 17,σ px,σ py,ς A n C] 24)) 17 px py A n C f p (QH _) (hf.later b1));have HB:=QA b1
  have QK:Hid (∀W,Below (w.alloc (θ #[ι κ 17,σ px,σ py,ς A n C] 24)).heap.size (w.alloc (θ #[ι κ 17,σ px,σ py,ς A n C] 24)) W→W.cell? ⟨w.heap.size,0,none⟩=some (ι κ 17)):=fun W hW=>by
    rw[hW.cell (p:=⟨w.heap.size,0,none⟩) (by simp),World.cell?_alloc_at _ _ _ _ rfl];rfl
  generalize Ze 17 px f p=pb at *;clear b1 hf;cases pb with
  |true=>go_enter func24,ntmps24;go_wp2_with fail;refine c₁ (HP.out) fun w1 hb=>?_;have HE:=QN HB hb;have q0:=QK.out w1 hb;clear hb QK HP;go_wp2;go_ret;exact⟨rfl,HE.out⟩
  |false=>go_enter func24,ntmps24;go_wp2_with fail;refine c₁ (HP.out) fun w1 hb=>?_;have HE:=QN HB hb;have q0:=QK.out w1 hb;clear hb QK HP;go_wp2;go_ret;exact⟨rfl,HE.out⟩
theorem Qp0(px py:ByteArray)(A:Option Addr)(n C:Nat)(f:F)(w:World)(hf:Fs w (Lo w.heap.size) (ς A n C) f)(p:Int)(hp:(0:Int)<p):Calls prog 24 #[ξ #[ι κ 30,σ px,σ py,ς A n C],ι κ p] w fun e w'=>e = ρ (ι κ ((if Ze 30 px f p then 1 else 0)+1))∧Below w.heap.size w w':=by
  have b1:=Qb w (θ #[ι κ 30,σ px,σ py,ς A n C] 24);have HP:=QA (Zj (w.alloc (θ #[ι κ 30,σ px,σ py,ς A n C] 24)) 30 px py A n C f p (QH _) (hf.later b1));have HB:=QA b1
  have QK:Hid (∀W,Below (w.alloc (θ #[ι κ 30,σ px,σ py,ς A n C] 24)).heap.size (w.alloc (θ #[ι κ 30,σ px,σ py,ς A n C] 24)) W→W.cell? ⟨w.heap.size,0,none⟩=some (ι κ 30)):=fun W hW=>by
    rw[hW.cell (p:=⟨w.heap.size,0,none⟩) (by simp),World.cell?_alloc_at _ _ _ _ rfl];rfl
  generalize Ze 30 px f p=pb at *;clear b1 hf;cases pb with
  |true=>go_enter func24,ntmps24;go_wp2_with fail;refine c₁ (HP.out) fun w1 hb=>?_;have HE:=QN HB hb;have q0:=QK.out w1 hb;clear hb QK HP;go_wp2;go_ret;exact⟨rfl,HE.out⟩
  |false=>go_enter func24,ntmps24;go_wp2_with fail;refine c₁ (HP.out) fun w1 hb=>?_;have HE:=QN HB hb;have q0:=QK.out w1 hb;clear hb QK HP;go_wp2;go_ret;exact⟨rfl,HE.out⟩
theorem Qpz(px py:ByteArray)(A:Option Addr)(n C:Nat)(f:F)(w:World)(hf:Fs w (Lo w.heap.size) (ς A n C) f):Calls prog 24 #[ξ #[ι κ 30,σ px,σ py,ς A n C],ι κ 0] w fun e w'=>e = ρ (ι κ ((if Ze 30 px f 0 then 1 else 0)+0))∧Below w.heap.size w w':=by
  have b1:=Qb w (θ #[ι κ 30,σ px,σ py,ς A n C] 24);have HP:=QA (Zj (w.alloc (θ #[ι κ 30,σ px,σ py,ς A n C] 24)) 30 px py A n C f 0 (QH _) (hf.later b1));have HB:=QA b1
  have QK:Hid (∀W,Below (w.alloc (θ #[ι κ 30,σ px,σ py,ς A n C] 24)).heap.size (w.alloc (θ #[ι κ 30,σ px,σ py,ς A n C] 24)) W→W.cell? ⟨w.heap.size,0,none⟩=some (ι κ 30)):=fun W hW=>by
    rw[hW.cell (p:=⟨w.heap.size,0,none⟩) (by simp),World.cell?_alloc_at _ _ _ _ rfl];rfl
  generalize Ze 30 px f 0=pb at *;clear b1 hf;cases pb with
  |true=>go_enter func24,ntmps24;go_wp2_with fail;refine c₁ (HP.out) fun w1 hb=>?_;have HE:=QN HB hb;have q0:=QK.out w1 hb;clear hb QK HP;go_wp2;go_ret;exact⟨rfl,HE.out⟩
  |false=>go_enter func24,ntmps24;go_wp2_with fail;refine c₁ (HP.out) fun w1 hb=>?_;have HE:=QN HB hb;have q0:=QK.out w1 hb;clear hb QK HP;go_wp2;go_ret;exact⟨rfl,HE.out⟩
theorem Qpy(px py:ByteArray)(A:Option Addr)(n C:Nat)(f:F)(w:World)(hf:Fs w (Lo w.heap.size) (ς A n C) f)(p:Int)(hp:(0:Int)<p):Calls prog 24 #[ξ #[ι κ 31,σ px,σ py,ς A n C],ι κ p] w fun e w'=>e = ρ (ι κ ((if Ze 31 px f p then 1 else 0)+1))∧Below w.heap.size w w':=by
  have b1:=Qb w (θ #[ι κ 31,σ px,σ py,ς A n C] 24);have HP:=QA (Zj (w.alloc (θ #[ι κ 31,σ px,σ py,ς A n C] 24)) 31 px py A n C f p (QH _) (hf.later b1));have HB:=QA b1
  have QK:Hid (∀W,Below (w.alloc (θ #[ι κ 31,σ px,σ py,ς A n C] 24)).heap.size (w.alloc (θ #[ι κ 31,σ px,σ py,ς A n C] 24)) W→W.cell? ⟨w.heap.size,0,none⟩=some (ι κ 31)):=fun W hW=>by
    rw[hW.cell (p:=⟨w.heap.size,0,none⟩) (by simp),World.cell?_alloc_at _ _ _ _ rfl];rfl
  generalize Ze 31 px f p=pb at *;clear b1 hf;cases pb with
  |true=>go_enter func24,ntmps24;go_wp2_with fail;refine c₁ (HP.out) fun w1 hb=>?_;have HE:=QN HB hb;have q0:=QK.out w1 hb;clear hb QK HP;go_wp2;go_ret;exact⟨rfl,HE.out⟩
  |false=>go_enter func24,ntmps24;go_wp2_with fail;refine c₁ (HP.out) fun w1 hb=>?_;have HE:=QN HB hb;have q0:=QK.out w1 hb;clear hb QK HP;go_wp2;go_ret;exact⟨rfl,HE.out⟩
theorem Qpx(px py:ByteArray)(A:Option Addr)(n C:Nat)(f:F)(w:World)(hf:Fs w (Lo w.heap.size) (ς A n C) f):Calls prog 24 #[ξ #[ι κ 31,σ px,σ py,ς A n C],ι κ 0] w fun e w'=>e = ρ (ι κ ((if Ze 31 px f 0 then 1 else 0)+0))∧Below w.heap.size w w':=by
  have b1:=Qb w (θ #[ι κ 31,σ px,σ py,ς A n C] 24);have HP:=QA (Zj (w.alloc (θ #[ι κ 31,σ px,σ py,ς A n C] 24)) 31 px py A n C f 0 (QH _) (hf.later b1));have HB:=QA b1
  have QK:Hid (∀W,Below (w.alloc (θ #[ι κ 31,σ px,σ py,ς A n C] 24)).heap.size (w.alloc (θ #[ι κ 31,σ px,σ py,ς A n C] 24)) W→W.cell? ⟨w.heap.size,0,none⟩=some (ι κ 31)):=fun W hW=>by
    rw[hW.cell (p:=⟨w.heap.size,0,none⟩) (by simp),World.cell?_alloc_at _ _ _ _ rfl];rfl
  generalize Ze 31 px f 0=pb at *;clear b1 hf;cases pb with
  |true=>go_enter func24,ntmps24;go_wp2_with fail;refine c₁ (HP.out) fun w1 hb=>?_;have HE:=QN HB hb;have q0:=QK.out w1 hb;clear hb QK HP;go_wp2;go_ret;exact⟨rfl,HE.out⟩
  |false=>go_enter func24,ntmps24;go_wp2_with fail;refine c₁ (HP.out) fun w1 hb=>?_;have HE:=QN HB hb;have q0:=QK.out w1 hb;clear hb QK HP;go_wp2;go_ret;exact⟨rfl,HE.out⟩
theorem Qp2(px py:ByteArray)(A:Option Addr)(n C:Nat)(f:F)(w:World)(hf:Fs w (Lo w.heap.size) (ς A n C) f)(p:Int)(hp:(p==2)=false):Calls prog 24 #[ξ #[ι κ 18,σ px,σ py,ς A n C],ι κ p] w fun e w'=>e = ρ (ι κ ((if Ze 18 px f p then 1 else 0)+0))∧Below w.heap.size w w':=by
  have b1:=Qb w (θ #[ι κ 18,σ px,σ py,ς A n C] 24);have HP:=QA (Zj (w.alloc (θ #[ι κ 18,σ px,σ py,ς A n C] 24)) 18 px py A n C f p (QH _) (hf.later b1));have HB:=QA b1
  have QK:Hid (∀W,Below (w.alloc (θ #[ι κ 18,σ px,σ py,ς A n C] 24)).heap.size (w.alloc (θ #[ι κ 18,σ px,σ py,ς A n C] 24)) W→W.cell? ⟨w.heap.size,0,none⟩=some (ι κ 18)):=fun W hW=>by
    rw[hW.cell (p:=⟨w.heap.size,0,none⟩) (by simp),World.cell?_alloc_at _ _ _ _ rfl];rfl
  generalize Ze 18 px f p=pb at *;clear b1 hf;cases pb with
  |true=>go_enter func24,ntmps24;go_wp2_with fail;refine c₁ (HP.out) fun w1 hb=>?_;have HE:=QN HB hb;have q0:=QK.out w1 hb;clear hb QK HP;go_wp2;go_ret;exact⟨rfl,HE.out⟩
  |false=>go_enter func24,ntmps24;go_wp2_with fail;refine c₁ (HP.out) fun w1 hb=>?_;have HE:=QN HB hb;have q0:=QK.out w1 hb;clear hb QK HP;go_wp2;go_ret;exact⟨rfl,HE.out⟩
theorem Qp1(px py:ByteArray)(b off n C:Nat)(f:F)(w:World)(hf:Fs w (Lo w.heap.size) (ς (some ⟨b,off,none⟩) n C) f)(kk:Int)(hkk:(kk==18)=true)(hn:(2:Int)<(n:Int))(hbl:b<w.heap.size)(c0:w.cell? ⟨b,off+8,none⟩=some (ι κ kk)):Calls prog 24 #[ξ #[ι κ 18,σ px,σ py,ς (some ⟨b,off,none⟩) n C],ι κ 2] w fun e w'=>e = ρ (ι κ ((if Ze 18 px f 2 then 1 else 0)+1))∧Below w.heap.size w w':=by
  have CS:Hid (∀W,Below w.heap.size w W→W.cell? ⟨b,off+8,none⟩=some (ι κ kk)):=fun W hW=>(hW.cell (p:=⟨b,off+8,none⟩) hbl).trans c0
  have Ic:Hid (∀W,Below (w.alloc (θ #[ι κ 18,σ px,σ py,ς (some ⟨b,off,none⟩) n C] 24)).heap.size (w.alloc (θ #[ι κ 18,σ px,σ py,ς (some ⟨b,off,none⟩) n C] 24)) W→W.cell? ⟨w.heap.size,3,none⟩=some (ς (some ⟨b,off,none⟩) n C)):=fun W hW=>by
    rw[hW.cell (p:=⟨w.heap.size,3,none⟩) (by simp),World.cell?_alloc_at _ _ _ _ rfl];rfl
  have b1:=Qb w (θ #[ι κ 18,σ px,σ py,ς (some ⟨b,off,none⟩) n C] 24);have HP:=QA (Zj (w.alloc (θ #[ι κ 18,σ px,σ py,ς (some ⟨b,off,none⟩) n C] 24)) 18 px py (some ⟨b,off,none⟩) n C f 2 (QH _) (hf.later b1));have HB:=QA b1
  have QK:Hid (∀W,Below (w.alloc (θ #[ι κ 18,σ px,σ py,ς (some ⟨b,off,none⟩) n C] 24)).heap.size (w.alloc (θ #[ι κ 18,σ px,σ py,ς (some ⟨b,off,none⟩) n C] 24)) W→W.cell? ⟨w.heap.size,0,none⟩=some (ι κ 18)):=fun W hW=>by
    rw[hW.cell (p:=⟨w.heap.size,0,none⟩) (by simp),World.cell?_alloc_at _ _ _ _ rfl];rfl
  generalize Ze 18 px f 2=pb at *;clear b1 hf;clear c0;cases pb with
  |true=>go_enter func24,ntmps24;go_wp2_with fail;refine c₁ (HP.out) fun w1 hb=>?_;have HE:=QN HB hb;have q0:=QK.out w1 hb;have q3:=Ic.out w1 hb;have qk:=CS.out w1 HE.out;clear hb QK HP;go_wp2;go_ret;exact⟨rfl,HE.out⟩
  |false=>go_enter func24,ntmps24;go_wp2_with fail;refine c₁ (HP.out) fun w1 hb=>?_;have HE:=QN HB hb;have q0:=QK.out w1 hb;have q3:=Ic.out w1 hb;have qk:=CS.out w1 HE.out;clear hb QK HP;go_wp2;go_ret;exact⟨rfl,HE.out⟩
theorem Qmz(px py:ByteArray)(b off n C:Nat)(f:F)(w:World)(hf:Fs w (Lo w.heap.size) (ς (some ⟨b,off,none⟩) n C) f)(kk:Int)(hkk:(kk==18)=false)(hn:(2:Int)<(n:Int))(hbl:b<w.heap.size)(c0:w.cell? ⟨b,off+8,none⟩=some (ι κ kk)):Calls prog 24 #[ξ #[ι κ 18,σ px,σ py,ς (some ⟨b,off,none⟩) n C],ι κ 2] w fun e w'=>e = ρ (ι κ ((if Ze 18 px f 2 then 1 else 0)+0))∧Below w.heap.size w w':=by
  have CS:Hid (∀W,Below w.heap.size w W→W.cell? ⟨b,off+8,none⟩=some (ι κ kk)):=fun W hW=>(hW.cell (p:=⟨b,off+8,none⟩) hbl).trans c0
  have Ic:Hid (∀W,Below (w.alloc (θ #[ι κ 18,σ px,σ py,ς (some ⟨b,off,none⟩) n C] 24)).heap.size (w.alloc (θ #[ι κ 18,σ px,σ py,ς (some ⟨b,off,none⟩) n C] 24)) W→W.cell? ⟨w.heap.size,3,none⟩=some (ς (some ⟨b,off,none⟩) n C)):=fun W hW=>by
    rw[hW.cell (p:=⟨w.heap.size,3,none⟩) (by simp),World.cell?_alloc_at _ _ _ _ rfl];rfl
  have b1:=Qb w (θ #[ι κ 18,σ px,σ py,ς (some ⟨b,off,none⟩) n C] 24);have HP:=QA (Zj (w.alloc (θ #[ι κ 18,σ px,σ py,ς (some ⟨b,off,none⟩) n C] 24)) 18 px py (some ⟨b,off,none⟩) n C f 2 (QH _) (hf.later b1));have HB:=QA b1
  have QK:Hid (∀W,Below (w.alloc (θ #[ι κ 18,σ px,σ py,ς (some ⟨b,off,none⟩) n C] 24)).heap.size (w.alloc (θ #[ι κ 18,σ px,σ py,ς (some ⟨b,off,none⟩) n C] 24)) W→W.cell? ⟨w.heap.size,0,none⟩=some (ι κ 18)):=fun W hW=>by
    rw[hW.cell (p:=⟨w.heap.size,0,none⟩) (by simp),World.cell?_alloc_at _ _ _ _ rfl];rfl
  generalize Ze 18 px f 2=pb at *;clear b1 hf;clear c0;cases pb with
  |true=>go_enter func24,ntmps24;go_wp2_with fail;refine c₁ (HP.out) fun w1 hb=>?_;have HE:=QN HB hb;have q0:=QK.out w1 hb;have q3:=Ic.out w1 hb;have qk:=CS.out w1 HE.out;clear hb QK HP;go_wp2;go_ret;exact⟨rfl,HE.out⟩
  |false=>go_enter func24,ntmps24;go_wp2_with fail;refine c₁ (HP.out) fun w1 hb=>?_;have HE:=QN HB hb;have q0:=QK.out w1 hb;have q3:=Ic.out w1 hb;have qk:=CS.out w1 HE.out;clear hb QK HP;go_wp2;go_ret;exact⟨rfl,HE.out⟩
theorem Qi4(px py:ByteArray)(A:Option Addr)(n C:Nat)(f:F)(w:World)(hf:Fs w (Lo w.heap.size) (ς A n C) f)(k p:Int)(eP:(k==28)=false)(RD:(k==15)=false)(TT:(k==17)=false)(eN:(k==30)=false)(eK:(k==31)=false)(Ci:(k==18)=false)(lo:decide ((10:Int)≤k)=false):Calls prog 24 #[ξ #[ι κ k,σ px,σ py,ς A n C],ι κ p] w fun e w'=>e = ρ (ι κ ((if Ze k px f p then 1 else 0)+0))∧Below w.heap.size w w':=by
  have b1:=Qb w (θ #[ι κ k,σ px,σ py,ς A n C] 24);have HP:=QA (Zj (w.alloc (θ #[ι κ k,σ px,σ py,ς A n C] 24)) k px py A n C f p (QH _) (hf.later b1));have HB:=QA b1
  have QK:Hid (∀W,Below (w.alloc (θ #[ι κ k,σ px,σ py,ς A n C] 24)).heap.size (w.alloc (θ #[ι κ k,σ px,σ py,ς A n C] 24)) W→W.cell? ⟨w.heap.size,0,none⟩=some (ι κ k)):=fun W hW=>by
    rw[hW.cell (p:=⟨w.heap.size,0,none⟩) (by simp),World.cell?_alloc_at _ _ _ _ rfl];rfl
  generalize Ze k px f p=pb at *;clear b1 hf;cases pb with
  |true=>go_enter func24,ntmps24;go_wp2_with fail;refine c₁ (HP.out) fun w1 hb=>?_;have HE:=QN HB hb;have q0:=QK.out w1 hb;clear hb QK HP;go_wp2;go_ret;exact⟨rfl,HE.out⟩
  |false=>go_enter func24,ntmps24;go_wp2_with fail;refine c₁ (HP.out) fun w1 hb=>?_;have HE:=QN HB hb;have q0:=QK.out w1 hb;clear hb QK HP;go_wp2;go_ret;exact⟨rfl,HE.out⟩
theorem Qi5(px py:ByteArray)(A:Option Addr)(n C:Nat)(f:F)(w:World)(hf:Fs w (Lo w.heap.size) (ς A n C) f)(k p:Int)(eP:(k==28)=false)(RD:(k==15)=false)(TT:(k==17)=false)(eN:(k==30)=false)(eK:(k==31)=false)(Ci:(k==18)=false)(lo:(10:Int)≤k)(hi:decide (k≤(13:Int))=false):Calls prog 24 #[ξ #[ι κ k,σ px,σ py,ς A n C],ι κ p] w fun e w'=>e = ρ (ι κ ((if Ze k px f p then 1 else 0)+0))∧Below w.heap.size w w':=by
  have b1:=Qb w (θ #[ι κ k,σ px,σ py,ς A n C] 24);have HP:=QA (Zj (w.alloc (θ #[ι κ k,σ px,σ py,ς A n C] 24)) k px py A n C f p (QH _) (hf.later b1));have HB:=QA b1
  have QK:Hid (∀W,Below (w.alloc (θ #[ι κ k,σ px,σ py,ς A n C] 24)).heap.size (w.alloc (θ #[ι κ k,σ px,σ py,ς A n C] 24)) W→W.cell? ⟨w.heap.size,0,none⟩=some (ι κ k)):=fun W hW=>by
    rw[hW.cell (p:=⟨w.heap.size,0,none⟩) (by simp),World.cell?_alloc_at _ _ _ _ rfl];rfl
  generalize Ze k px f p=pb at *;clear b1 hf;cases pb with
  |true=>go_enter func24,ntmps24;go_wp2_with fail;refine c₁ (HP.out) fun w1 hb=>?_;have HE:=QN HB hb;have q0:=QK.out w1 hb;clear hb QK HP;go_wp2;go_ret;exact⟨rfl,HE.out⟩
  |false=>go_enter func24,ntmps24;go_wp2_with fail;refine c₁ (HP.out) fun w1 hb=>?_;have HE:=QN HB hb;have q0:=QK.out w1 hb;clear hb QK HP;go_wp2;go_ret;exact⟨rfl,HE.out⟩
theorem Qky(pk:Int)(px py:ByteArray)(A:Option Addr)(n C:Nat)(f:F)(i:Nat)(kk:Int)(kx ky:ByteArray)(kc kr:F)(w:World)(hf:Fs w (Lo w.heap.size) (ς A n C) f)(hd:f.drop i=.cons kk kx ky kc kr) :
    Calls prog 24 #[ξ #[ι κ pk,σ px,σ py,ς A n C],ι κ (i:Int)] w fun e w'=>e=ρ (ι κ ((down pk px i kk kx:Nat):Int))∧Below w.heap.size w w':=by
  have hp:Ze pk px f (i:Int)=Qi pk px i kk kx:=by unfold Ze;rw[if_pos (by omega),Int.toNat_natCast,hd]
  have GW:((down pk px i kk kx:Nat):Int)=(if Ze pk px f (i:Int)then 1 else 0)+((more pk i kk:Nat):Int):=by unfold down;rw[hp];split <;> simp
  rw[GW];clear GW;by_cases Ca:pk=28
  ·subst Ca;rw[show more 28 i kk=1 from rfl];exact Qt5 px py A n C f w hf _
  by_cases h10:pk=10
  ·subst h10;rw[show more 10 i kk=1 from rfl];exact Qub px py A n C f w hf _
  by_cases h11:pk=11
  ·subst h11;rw[show more 11 i kk=1 from rfl];exact Qua px py A n C f w hf _
  by_cases h12:pk=12
  ·subst h12;rw[show more 12 i kk=1 from rfl];exact Qt9 px py A n C f w hf _
  by_cases VQ:pk=13
  ·subst VQ;rw[show more 13 i kk=1 from rfl];exact Qt8 px py A n C f w hf _
  by_cases Cf:pk=15
  ·subst Cf;rw[show more 15 i kk=1 from rfl];exact Qt7 px py A n C f w hf _
  by_cases VB:pk=17
  ·subst VB;rw[show more 17 i kk=1 from rfl];exact Qt6 px py A n C f w hf _
  by_cases MZ:pk=30
  ·subst MZ;by_cases hi:0<i
   ·rw[show more 30 i kk=1 by simp[more,hi]];exact Qp0 px py A n C f w hf _ (by omega)
   ·obtain rfl:i=0:=by omega
    rw[show more 30 0 kk=0 by simp[more]];exact Qpz px py A n C f w hf
  by_cases MX:pk=31
  ·subst MX;by_cases hi:0<i
   ·rw[show more 31 i kk=1 by simp[more,hi]];exact Qpy px py A n C f w hf _ (by omega)
   ·obtain rfl:i=0:=by omega
    rw[show more 31 0 kk=0 by simp[more]];exact Qpx px py A n C f w hf
  by_cases Ce:pk=18
  ·subst Ce;by_cases hi:i=2
   ·subst hi;obtain⟨b,off,s,rfl,hb,hn,hat⟩:=hf.at_ hd;have c0:=hat.c0;rw[show off+2*4=off+8 by omega]at c0;by_cases hk:kk=18
    ·subst hk;rw[show more 18 2 18=1 from rfl];exact Qp1 px py b off n C f w hf 18 rfl (by omega) hb c0
    ·rw[show more 18 2 kk=0 by simp[more,hk]];exact Qmz px py b off n C f w hf kk (ZC hk) (by omega) hb c0
   ·rw[show more 18 i kk=0 by simp[more,hi]];exact Qp2 px py A n C f w hf _ (by simpa using(show ¬(i:Int)=2 by omega))
  rw[show more pk i kk=0 by simp[more,Ca,h10,h11,h12,VQ,Cf,VB,MZ,MX,Ce]];by_cases lo:(10:Int)≤pk
  ·exact Qi5 px py A n C f w hf pk _ (ZC Ca) (ZC Cf) (ZC VB) (ZC MZ) (ZC MX) (ZC Ce) lo (by simp;omega)
  ·exact Qi4 px py A n C f w hf pk _ (ZC Ca) (ZC Cf) (ZC VB) (ZC MZ) (ZC MX) (ZC Ce) (by simpa using lo)
