import Derived.Test.YtaiihnniblibaaaGreatDoorG35
import Derived.Deep.RegionHeldLaw
set_option maxHeartbeats 8000000
set_option maxRecDepth 100000
set_option linter.unusedVariables false
open Go.ChangeShapes Go.WideShapes Go.ChangeAt Go.RowKit Go.Proofs.Tryz
open _root_.List renaming length_append→JF
open Go.Value renaming string→σ,int→ι,slice→ς,bool→τ,agg→ξ
open Go.IntKind renaming i64→κ
open Go.Obj renaming cells→θ
open Go.Ending renaming returned→ρ
namespace Go.Proofs.YtaiihnniblibaaaGreatDoor
namespace Tree
open Mem
def NM:F→Prop
  | .nil=>True
  | .cons k x y c r=>x.size≤1000000∧y.size≤1000000∧NM c∧NM r
theorem NM.drop:∀{n:Nat}{f:F},NM f→NM (f.drop n)
  |0,f,h=>h
  |n+1,.nil,_=>by simp[F.drop,NM]
  |n+1,.cons k x y c r,h=>NM.drop (n:=n) h.2.2.2
theorem Qrd(w:World)(k:Int)(x y:ByteArray)(s:Value):JS (w.alloc (θ #[ι κ k,σ x,σ y,s] 24)) w.heap.size k x y s:=heap_alloc_new w _
theorem VD{w:World}{g:Nat}{k:Int}{x y:ByteArray}{s:Value}(h:JS w g k x y s):w.frozen? ⟨g,0,none⟩=false∧w.frozen? ⟨g,1,none⟩=false∧w.frozen? ⟨g,2,none⟩=false∧w.frozen? ⟨g,3,none⟩=false:=by
  unfold JS at h;refine⟨?_,?_,?_,?_⟩ <;> simp[World.frozen?,h]
structure RAt(w wr:World)(cr:Nat)(res:Bool)(k:Int)(x y:ByteArray)(A:Option Addr)(n C:Nat)(c:F)(it:Bool)(d:Nat):Prop where
  KN:Below w.heap.size w wr
  box:JS wr w.heap.size k x y (ς A n C)
  fs:Fs wr (Lo w.heap.size) (ς A n C) c
  hx:x.size≤1000000
  hy:y.size≤1000000
  sm:NM c
  eq:Zg JC JT k x y c it d=res
theorem Qnc{k:Int}{x y:ByteArray}{c:F}{it:Bool}{d:Nat}(h:256<d):Zg JC JT k x y c it d=false:=by
  unfold Zg;rw[decide_eq_false (by omega)];rfl
theorem Qnb{k:Int}{x y:ByteArray}{c:F}{it:Bool}{d:Nat}(h:Fb JC JT k x y c it=false):Zg JC JT k x y c it d=false:=by
  unfold Zg;rw[h];simp
theorem Fm{w:World}{g:Nat}{cs:Array Value}{T:TypeId}(h:w.heap[g]?=some (θ cs T (0,0)))(i:Nat)(v:Value):(w.setCell ⟨g,i,none⟩ v).heap[g]?=some (θ (cs.setIfInBounds i v) T (0,0)):=by
  have hlt:=lt_of_block h;have h':w.heap[g]=θ cs T (0,0):=by simpa[Array.getElem?_eq_getElem hlt]using h
  show(w.heap.modify g _)[g]?=_;rw[Array.getElem?_eq_getElem (by simpa using hlt),Array.getElem_modify_self,h'];simp
theorem wrap_small{i:Int}(h1 : -1000000000000≤i)(h2:i≤9223372036854775807):IntKind.i64.wrap i=i:=by
  rw[IntKind.wrap_i64];omega
theorem Y8{w W:World}{S:Nat→Prop}{b off:Nat}{k:Int}{x y:ByteArray}{c:F}{s:Value}(h:At w S b off 0 k x y c s)(hb:Below w.heap.size w W)(hlt:b<w.heap.size) :
    W.cell? ⟨b,off,none⟩=some (ι κ k)∧W.cell? ⟨b,off+1,none⟩=some (σ x)∧W.cell? ⟨b,off+2,none⟩=some (σ y)∧W.cell? ⟨b,off+3,none⟩=some s:=by
  have c0:=h.c0;have c1:=h.c1;have c2:=h.c2;have c3:=h.c3;simp only[Nat.zero_mul,Nat.add_zero]at c0 c1 c2 c3;exact⟨(hb.cell (p:=⟨b,off,none⟩) hlt).trans c0,(hb.cell (p:=⟨b,off+1,none⟩) hlt).trans c1,(hb.cell (p:=⟨b,off+2,none⟩) hlt).trans c2,(hb.cell (p:=⟨b,off+3,none⟩) hlt).trans c3⟩
end Tree
namespace Tree
theorem aH(k:Int)(x y:ByteArray)(A:Option Addr)(n C:Nat)(w:World):Calls prog 60 #[ξ #[ι κ k,σ x,σ y,ς A n C],ι .u8 116] w fun e w'=>e = ρ (τ (Qj 116 k x))∧Below w.heap.size w w':=by
  by_cases e9:k=9
  ·subst e9;rw[show Qj 116 9 x=true by rfl];go_enter func60,ntmps60;go_wp2;go_ret;exact⟨rfl,Qb _ _⟩
  have n9:=ZC e9;by_cases cT:10≤k∧k≤13
  ·skip
   have h10:(10:Int)≤k:=by omega
   have VQ:k≤13:=by omega
   have VP:¬(26:Int)≤k:=by omega
   have VB:¬(17:Int)≤k:=by omega
   rw[show Qj 116 k x=true by(show Qt k x=_;rw[V9,decide_eq_true (by omega)])];go_enter func60,ntmps60;go_wp2;go_ret;exact⟨rfl,Qb _ _⟩
  by_cases cL:k<10
  ·skip
   have h10:¬(10:Int)≤k:=by omega
   have VP:¬(26:Int)≤k:=by omega
   have VB:¬(17:Int)≤k:=by omega
   rw[show Qj 116 k x=false by(show Qt k x=_;rw[V9,decide_eq_false (by omega)])];go_enter func60,ntmps60;go_wp2;go_ret;exact⟨rfl,Qb _ _⟩
  by_cases cM:14≤k∧k≤16
  ·skip
   have h10:(10:Int)≤k:=by omega
   have VQ:¬k≤13:=by omega
   have VP:¬(26:Int)≤k:=by omega
   have VB:¬(17:Int)≤k:=by omega
   rw[show Qj 116 k x=false by(show Qt k x=_;rw[V9,decide_eq_false (by omega)])];go_enter func60,ntmps60;go_wp2;go_ret;exact⟨rfl,Qb _ _⟩
  by_cases cN:17≤k∧k≤25
  ·skip
   have h10:(10:Int)≤k:=by omega
   have VQ:¬k≤13:=by omega
   have VP:¬(26:Int)≤k:=by omega
   have VB:(17:Int)≤k:=by omega
   have KX:k≤25:=by omega
   rw[show Qj 116 k x=false by(show Qt k x=_;rw[V9,decide_eq_false (by omega)])];go_enter func60,ntmps60;go_wp2;go_ret;exact⟨rfl,Qb _ _⟩
  by_cases cV:26≤k∧k≤32
  ·skip
   have h10:(10:Int)≤k:=by omega
   have VQ:¬k≤13:=by omega
   have VP:(26:Int)≤k:=by omega
   have GY:k≤32:=by omega
   have VB:(17:Int)≤k:=by omega
   have KX:¬k≤25:=by omega
   rw[show Qj 116 k x=false by(show Qt k x=_;rw[V9,decide_eq_false (by omega)])];go_enter func60,ntmps60;go_wp2;go_ret;exact⟨rfl,Qb _ _⟩
  have h10:(10:Int)≤k:=by omega
  have VQ:¬k≤13:=by omega
  have VP:(26:Int)≤k:=by omega
  have GY:¬k≤32:=by omega
  have VB:(17:Int)≤k:=by omega
  have KX:¬k≤25:=by omega
  rw[show Qj 116 k x=false by(show Qt k x=_;rw[V9,decide_eq_false (by omega)])];go_enter func60,ntmps60;go_wp2;go_ret;exact⟨rfl,Qb _ _⟩
theorem oO(k:Int)(x y:ByteArray)(A:Option Addr)(n C:Nat)(w:World):Calls prog 60 #[ξ #[ι κ k,σ x,σ y,ς A n C],ι .u8 101] w fun e w'=>e = ρ (τ (Qj 101 k x))∧Below w.heap.size w w':=by
  by_cases e9:k=9
  ·subst e9;rw[show Qj 101 9 x=true by rfl];go_enter func60,ntmps60;go_wp2;go_ret;exact⟨rfl,Qb _ _⟩
  have n9:=ZC e9;by_cases cT:10≤k∧k≤13
  ·skip
   have h10:(10:Int)≤k:=by omega
   have VQ:k≤13:=by omega
   have VP:¬(26:Int)≤k:=by omega
   have VB:¬(17:Int)≤k:=by omega
   rw[show Qj 101 k x=false by(show Qg k x=_;rw[V8,n9,decide_eq_false (by omega)];rfl)];go_enter func60,ntmps60;go_wp2;go_ret;exact⟨rfl,Qb _ _⟩
  by_cases cL:k<10
  ·skip
   have h10:¬(10:Int)≤k:=by omega
   have VP:¬(26:Int)≤k:=by omega
   have VB:¬(17:Int)≤k:=by omega
   rw[show Qj 101 k x=false by(show Qg k x=_;rw[V8,n9,decide_eq_false (by omega)];rfl)];go_enter func60,ntmps60;go_wp2;go_ret;exact⟨rfl,Qb _ _⟩
  by_cases cM:14≤k∧k≤16
  ·skip
   have h10:(10:Int)≤k:=by omega
   have VQ:¬k≤13:=by omega
   have VP:¬(26:Int)≤k:=by omega
   have VB:¬(17:Int)≤k:=by omega
   rw[show Qj 101 k x=false by(show Qg k x=_;rw[V8,n9,decide_eq_false (by omega)];rfl)];go_enter func60,ntmps60;go_wp2;go_ret;exact⟨rfl,Qb _ _⟩
  by_cases cN:17≤k∧k≤25
  ·skip
   have h10:(10:Int)≤k:=by omega
   have VQ:¬k≤13:=by omega
   have VP:¬(26:Int)≤k:=by omega
   have VB:(17:Int)≤k:=by omega
   have KX:k≤25:=by omega
   rw[show Qj 101 k x=false by(show Qg k x=_;rw[V8,n9,decide_eq_false (by omega)];rfl)];go_enter func60,ntmps60;go_wp2;go_ret;exact⟨rfl,Qb _ _⟩
  by_cases cV:26≤k∧k≤32
  ·skip
   have h10:(10:Int)≤k:=by omega
   have VQ:¬k≤13:=by omega
   have VP:(26:Int)≤k:=by omega
   have GY:k≤32:=by omega
   have VB:(17:Int)≤k:=by omega
   have KX:¬k≤25:=by omega
   rw[show Qj 101 k x=true by(show Qg k x=_;rw[V8,n9,decide_eq_true (by omega)];rfl)];go_enter func60,ntmps60;go_wp2;go_ret;exact⟨rfl,Qb _ _⟩
  have h10:(10:Int)≤k:=by omega
  have VQ:¬k≤13:=by omega
  have VP:(26:Int)≤k:=by omega
  have GY:¬k≤32:=by omega
  have VB:(17:Int)≤k:=by omega
  have KX:¬k≤25:=by omega
  rw[show Qj 101 k x=false by(show Qg k x=_;rw[V8,n9,decide_eq_false (by omega)];rfl)];go_enter func60,ntmps60;go_wp2;go_ret;exact⟨rfl,Qb _ _⟩
theorem aL(k:Int)(x y:ByteArray)(A:Option Addr)(n C:Nat)(w:World):Calls prog 60 #[ξ #[ι κ k,σ x,σ y,ς A n C],ι .u8 69] w fun e w'=>e = ρ (τ (Qj 69 k x))∧Below w.heap.size w w':=by
  by_cases e9:k=9
  ·subst e9;rw[show Qj 69 9 x=true by rfl];go_enter func60,ntmps60;go_wp2;go_ret;exact⟨rfl,Qb _ _⟩
  have n9:=ZC e9;by_cases cT:10≤k∧k≤13
  ·skip
   have h10:(10:Int)≤k:=by omega
   have VQ:k≤13:=by omega
   have VP:¬(26:Int)≤k:=by omega
   have VB:¬(17:Int)≤k:=by omega
   rw[show Qj 69 k x=(k==33)by(show(Qg k x||k==33)=_;rw[V8,n9,decide_eq_false (by omega)];simp)];go_enter func60,ntmps60;go_wp2;go_ret;exact⟨rfl,Qb _ _⟩
  by_cases cL:k<10
  ·skip
   have h10:¬(10:Int)≤k:=by omega
   have VP:¬(26:Int)≤k:=by omega
   have VB:¬(17:Int)≤k:=by omega
   rw[show Qj 69 k x=(k==33)by(show(Qg k x||k==33)=_;rw[V8,n9,decide_eq_false (by omega)];simp)];go_enter func60,ntmps60;go_wp2;go_ret;exact⟨rfl,Qb _ _⟩
  by_cases cM:14≤k∧k≤16
  ·skip
   have h10:(10:Int)≤k:=by omega
   have VQ:¬k≤13:=by omega
   have VP:¬(26:Int)≤k:=by omega
   have VB:¬(17:Int)≤k:=by omega
   rw[show Qj 69 k x=(k==33)by(show(Qg k x||k==33)=_;rw[V8,n9,decide_eq_false (by omega)];simp)];go_enter func60,ntmps60;go_wp2;go_ret;exact⟨rfl,Qb _ _⟩
  by_cases cN:17≤k∧k≤25
  ·skip
   have h10:(10:Int)≤k:=by omega
   have VQ:¬k≤13:=by omega
   have VP:¬(26:Int)≤k:=by omega
   have VB:(17:Int)≤k:=by omega
   have KX:k≤25:=by omega
   rw[show Qj 69 k x=(k==33)by(show(Qg k x||k==33)=_;rw[V8,n9,decide_eq_false (by omega)];simp)];go_enter func60,ntmps60;go_wp2;go_ret;exact⟨rfl,Qb _ _⟩
  by_cases cV:26≤k∧k≤32
  ·skip
   have h10:(10:Int)≤k:=by omega
   have VQ:¬k≤13:=by omega
   have VP:(26:Int)≤k:=by omega
   have GY:k≤32:=by omega
   have VB:(17:Int)≤k:=by omega
   have KX:¬k≤25:=by omega
   rw[show Qj 69 k x=true by(show(Qg k x||k==33)=_;rw[V8,n9,decide_eq_true (by omega)];simp)];go_enter func60,ntmps60;go_wp2;go_ret;exact⟨rfl,Qb _ _⟩
  have h10:(10:Int)≤k:=by omega
  have VQ:¬k≤13:=by omega
  have VP:(26:Int)≤k:=by omega
  have GY:¬k≤32:=by omega
  have VB:(17:Int)≤k:=by omega
  have KX:¬k≤25:=by omega
  rw[show Qj 69 k x=(k==33)by(show(Qg k x||k==33)=_;rw[V8,n9,decide_eq_false (by omega)];simp)];go_enter func60,ntmps60;go_wp2;go_ret;exact⟨rfl,Qb _ _⟩
theorem aI(k:Int)(x y:ByteArray)(A:Option Addr)(n C:Nat)(w:World):Calls prog 60 #[ξ #[ι κ k,σ x,σ y,ς A n C],ι .u8 65] w fun e w'=>e = ρ (τ (Qj 65 k x))∧Below w.heap.size w w':=by
  by_cases e9:k=9
  ·subst e9;rw[show Qj 65 9 x=false by rfl];go_enter func60,ntmps60;go_wp2;go_ret;exact⟨rfl,Qb _ _⟩
  have n9:=ZC e9;by_cases cT:10≤k∧k≤13
  ·skip
   have h10:(10:Int)≤k:=by omega
   have VQ:k≤13:=by omega
   have VP:¬(26:Int)≤k:=by omega
   have VB:¬(17:Int)≤k:=by omega
   rw[show Qj 65 k x=(k==15)from rfl];go_enter func60,ntmps60;go_wp2;go_ret;exact⟨rfl,Qb _ _⟩
  by_cases cL:k<10
  ·skip
   have h10:¬(10:Int)≤k:=by omega
   have VP:¬(26:Int)≤k:=by omega
   have VB:¬(17:Int)≤k:=by omega
   rw[show Qj 65 k x=(k==15)from rfl];go_enter func60,ntmps60;go_wp2;go_ret;exact⟨rfl,Qb _ _⟩
  by_cases cM:14≤k∧k≤16
  ·skip
   have h10:(10:Int)≤k:=by omega
   have VQ:¬k≤13:=by omega
   have VP:¬(26:Int)≤k:=by omega
   have VB:¬(17:Int)≤k:=by omega
   rw[show Qj 65 k x=(k==15)from rfl];go_enter func60,ntmps60;go_wp2;go_ret;exact⟨rfl,Qb _ _⟩
  by_cases cN:17≤k∧k≤25
  ·skip
   have h10:(10:Int)≤k:=by omega
   have VQ:¬k≤13:=by omega
   have VP:¬(26:Int)≤k:=by omega
   have VB:(17:Int)≤k:=by omega
   have KX:k≤25:=by omega
   rw[show Qj 65 k x=(k==15)from rfl];go_enter func60,ntmps60;go_wp2;go_ret;exact⟨rfl,Qb _ _⟩
  by_cases cV:26≤k∧k≤32
  ·skip
   have h10:(10:Int)≤k:=by omega
   have VQ:¬k≤13:=by omega
   have VP:(26:Int)≤k:=by omega
   have GY:k≤32:=by omega
   have VB:(17:Int)≤k:=by omega
   have KX:¬k≤25:=by omega
   rw[show Qj 65 k x=(k==15)from rfl];go_enter func60,ntmps60;go_wp2;go_ret;exact⟨rfl,Qb _ _⟩
  have h10:(10:Int)≤k:=by omega
  have VQ:¬k≤13:=by omega
  have VP:(26:Int)≤k:=by omega
  have GY:¬k≤32:=by omega
  have VB:(17:Int)≤k:=by omega
  have KX:¬k≤25:=by omega
  rw[show Qj 65 k x=(k==15)from rfl];go_enter func60,ntmps60;go_wp2;go_ret;exact⟨rfl,Qb _ _⟩
theorem oP(k:Int)(x y:ByteArray)(A:Option Addr)(n C:Nat)(w:World):Calls prog 60 #[ξ #[ι κ k,σ x,σ y,ς A n C],ι .u8 80] w fun e w'=>e = ρ (τ (Qj 80 k x))∧Below w.heap.size w w':=by
  by_cases e9:k=9
  ·subst e9;rw[show Qj 80 9 x=false by rfl];go_enter func60,ntmps60;go_wp2;go_ret;exact⟨rfl,Qb _ _⟩
  have n9:=ZC e9;by_cases cT:10≤k∧k≤13
  ·skip
   have h10:(10:Int)≤k:=by omega
   have VQ:k≤13:=by omega
   have VP:¬(26:Int)≤k:=by omega
   have VB:¬(17:Int)≤k:=by omega
   rw[show Qj 80 k x=(k==16)from rfl];go_enter func60,ntmps60;go_wp2;go_ret;exact⟨rfl,Qb _ _⟩
  by_cases cL:k<10
  ·skip
   have h10:¬(10:Int)≤k:=by omega
   have VP:¬(26:Int)≤k:=by omega
   have VB:¬(17:Int)≤k:=by omega
   rw[show Qj 80 k x=(k==16)from rfl];go_enter func60,ntmps60;go_wp2;go_ret;exact⟨rfl,Qb _ _⟩
  by_cases cM:14≤k∧k≤16
  ·skip
   have h10:(10:Int)≤k:=by omega
   have VQ:¬k≤13:=by omega
   have VP:¬(26:Int)≤k:=by omega
   have VB:¬(17:Int)≤k:=by omega
   rw[show Qj 80 k x=(k==16)from rfl];go_enter func60,ntmps60;go_wp2;go_ret;exact⟨rfl,Qb _ _⟩
  by_cases cN:17≤k∧k≤25
  ·skip
   have h10:(10:Int)≤k:=by omega
   have VQ:¬k≤13:=by omega
   have VP:¬(26:Int)≤k:=by omega
   have VB:(17:Int)≤k:=by omega
   have KX:k≤25:=by omega
   rw[show Qj 80 k x=(k==16)from rfl];go_enter func60,ntmps60;go_wp2;go_ret;exact⟨rfl,Qb _ _⟩
  by_cases cV:26≤k∧k≤32
  ·skip
   have h10:(10:Int)≤k:=by omega
   have VQ:¬k≤13:=by omega
   have VP:(26:Int)≤k:=by omega
   have GY:k≤32:=by omega
   have VB:(17:Int)≤k:=by omega
   have KX:¬k≤25:=by omega
   rw[show Qj 80 k x=(k==16)from rfl];go_enter func60,ntmps60;go_wp2;go_ret;exact⟨rfl,Qb _ _⟩
  have h10:(10:Int)≤k:=by omega
  have VQ:¬k≤13:=by omega
  have VP:(26:Int)≤k:=by omega
  have GY:¬k≤32:=by omega
  have VB:(17:Int)≤k:=by omega
  have KX:¬k≤25:=by omega
  rw[show Qj 80 k x=(k==16)from rfl];go_enter func60,ntmps60;go_wp2;go_ret;exact⟨rfl,Qb _ _⟩
def jI:List Int:=[116,101,112,84,69,82,65,80,66,76,67,115,102,78]
theorem Ua(s:Int)(hs:s∈jI)(k:Int)(x y:ByteArray)(A:Option Addr)(n C:Nat)(w:World):Calls Tryz.prog 60 #[ξ #[ι κ k,σ x,σ y,ς A n C],ι .u8 s] w fun e w'=>e = ρ (τ (Qj s k x))∧Below w.heap.size w w':=by
  simp only[jI,List.mem_cons,List.not_mem_nil,or_false]at hs;rcases hs with rfl|rfl|rfl|rfl|rfl|rfl|rfl|rfl|rfl|rfl|rfl|rfl|rfl|rfl
  ·exact aH k x y A n C w
  ·exact oO k x y A n C w
  ·exact aF k x y A n C w
  ·exact oU k x y A n C w
  ·exact aL k x y A n C w
  ·exact oQ k x y A n C w
  ·exact aI k x y A n C w
  ·exact oP k x y A n C w
  ·exact aJ k x y A n C w
  ·exact aM k x y A n C w
  ·exact aK k x y A n C w
  ·exact aG k x y A n C w
  ·exact aD k x y A n C w
  ·exact aN k x y A n C w
end Tree
namespace Lex
open KL ZR
theorem mE:(prog.info? 51).map (fun i=>(i.zero,i.size,i.bytes))=some (some (ξ #[ι κ 0,σ ⟨#[]⟩,ι κ 0,τ false]),4,40):=by kernel_rfl
def Ul(w:World)(base:Nat)(v:Value)(L:List Tok):Prop:=w.ownsRow base 51 4 v L.length (L.flatMap Ye)
def NG(w:World)(base:Nat)(v:Value)(ks:List Int):Prop:=w.ownsRow base 3 1 v ks.length (ks.map (ι κ))
theorem Uu{w:World}{base:Nat}{v:Value}{L:List Tok}(h:Ul w base v L):∃a cap,v=ς a L.length cap∧L.length≤cap∧cap≤maxLen:=zx h
theorem Qm5{w:World}{base:Nat}{v:Value}{L:List Int}(h:NG w base v L):∃a cap,v=ς a L.length cap∧L.length≤cap∧cap≤maxLen:=zx h
theorem Qp8{w:World}{base base':Nat}{v:Value}{L:List Tok}(h:Ul w base v L)(hb:base'≤base):Ul w base' v L :=
 ⟨h.1,by
  rcases h.2 with h' |⟨g,cap,cur,a,b,c⟩
  ·exact .inl h'
  ·exact .inr ⟨g,cap,cur,a,by omega,c⟩⟩
theorem sA(w:World){ops:Array Oper}{rest:List Oper}{o:Oper}{a:Act}{Q:Exit→Act→World→Prop}(hgd:o.guard=none)(s x:Operand)
  (ho:o.op=.call { callee:=.builtin .append,args:=#[s,x],argTypes:=#[47,47] }) (base:Nat) (v u:Value) (L:List Tok) (I:List Int) (t:Tok) (hs:a.eval s=v) (hown:Ul w base v L) (UU:NG w base u I)
  (g:Nat) (hg:g=w.heap.size) (hx:a.eval x=ς (some ⟨g,0,none⟩) 1 1) (h63:L.length≤10000000) (hbase:base≤w.heap.size)
  (h:∀v' w',Ul w' base v' (L++[t])→NG w' base u I→Below base w w'→wpList prog ops Q rest (a.put o.dst v') w') :
  wpList prog ops Q (o::rest) a (w.alloc (θ (Ye t).toArray 51)):=by
 obtain⟨i0,hi0,hz0,hz1,hz2⟩:=info_parts mE;refine zD w hgd s x ho underlying47 hi0 hz0 hz1 hz2 rfl (by decide) base v L.length _ (Ye t) hs hown rfl (by intro u hu;simp[Ye]at hu;rcases hu with rfl|rfl|rfl|rfl <;> rfl) g hg hx h63 (by omega) hbase fun v' w' h1 h2 h3 h4=>?_
 exact h v' w' (by unfold Ul;rw[JF,List.flatMap_append];simpa using h1) ((UU.alloc _).kept h2 (nE UU hown (by decide))) (h3 base (fun b hb=>(hown.lt b hb).1) hbase)
theorem Qwa(w:World){ops:Array Oper}{rest:List Oper}{o:Oper}{a:Act}{Q:Exit→Act→World→Prop}(hgd:o.guard=none)(s x:Operand)
  (ho:o.op=.call { callee:=.builtin .append,args:=#[s,x],argTypes:=#[61,61] }) (base:Nat) (v u:Value) (L:List Tok) (I:List Int) (k:Int) (hs:a.eval s=v) (hown:NG w base v I) (UU:Ul w base u L)
  (g:Nat) (hg:g=w.heap.size) (hx:a.eval x=ς (some ⟨g,0,none⟩) 1 1) (h63:I.length≤10000000) (hbase:base≤w.heap.size)
  (h:∀v' w',NG w' base v' (I++[k])→Ul w' base u L→Below base w w'→wpList prog ops Q rest (a.put o.dst v') w') :
  wpList prog ops Q (o::rest) a (w.alloc (θ #[ι κ k] 3)):=by
 obtain⟨i0,hi0,hz0,hz1,hz2⟩:=info_parts rW;refine zD w hgd s x ho underlying61 hi0 hz0 hz1 hz2 rfl (by decide) base v I.length _ [ι κ k] hs hown rfl (by intro u hu;simp at hu;subst hu;rfl) g hg hx h63 (by omega) hbase fun v' w' h1 h2 h3 h4=>?_
 exact h v' w' (by unfold NG;rw[JF,List.map_append];simpa using h1) ((UU.alloc _).kept h2 (nE UU hown (by decide))) (h3 base (fun b hb=>(hown.lt b hb).1) hbase)
theorem wZ(w:World)(t:Tok):∀j u,(Ye t)[j]? = some u→((w.alloc (θ (Ye t).toArray 51)).drew).cell? ⟨w.heap.size,j,none⟩=some u:=fun j u hj=>by
 have:(w.alloc (θ (Ye t).toArray 51)).cell? ⟨w.heap.size,j,none⟩=some u:=by rw[World.cell?_alloc_at _ _ _ _ rfl];simpa using hj
 exact this
theorem Qgo{ops:Array Oper}{o:Oper}{a:Act}{w:World}{K:Act→World→Prop}{Q:Exit→Act→World→Prop}{R:Prop}(hgd:o.guard=none)(s x:Operand)
  (ho:o.op=.call { callee:=.builtin .append,args:=#[s,x],argTypes:=#[47,47] }) (base:Nat) (v:Value) (L:List Tok) (t:Tok) (hs:a.eval s=v) (hown:Ul w base v L)
  (g:Nat) (hx:a.eval x=ς (some ⟨g,0,none⟩) 1 1) (hcell:∀j u,(Ye t)[j]?=some u→w.cell? ⟨g,j,none⟩=some u) (h63:L.length≤10000000) (hbase:base≤w.heap.size)
  (hK:∀v' w',Ul w' base v' (L++[t])→(∀w0,Below base w0 w→Below base w0 w')→K (a.put o.dst v') w') :
  if Region.wanted o (yielded ops a.tmps)=true then Oper.wp prog o a w K Q else R:=by
 have hw:Region.wanted o (yielded ops a.tmps)=true:=by simp[Region.wanted,hgd]
 rw[if_pos hw];obtain⟨i0,hi0,hz0,hz1,hz2⟩:=info_parts mE;have hmul:(L.length+1)*40≤10000001*40:=Nat.mul_le_mul (by omega) (Nat.le_refl _)
 obtain⟨v',w',hrun,h1,h2,h3⟩:=run_append_own_at (P:=prog) w base 47 o.type 51 i0 _ 4 40 underlying47 hi0 hz0 hz1 hz2 rfl (by decide) v L.length _ hown ⟨g,0,none⟩ 1 1 (Ye t) rfl (fun j u hj=>by
  have e2:(⟨g,0,none⟩:Addr).add j=⟨g,j,none⟩:=by unfold Addr.add;split <;> simp_all
  rw[e2];exact hcell j u hj) (by intro u hu;simp[Ye]at hu;rcases hu with rfl|rfl|rfl|rfl <;> rfl) (by unfold maxLen;omega) (by omega) hbase
 unfold Oper.wp;simp[execOp,ho,resolve,invoke,builtin,hs,hx,hrun,Result.andThen];exact hK v' w' (by unfold Ul;rw[JF,List.flatMap_append];simpa using h1) (fun w0 hb=>hb.grown h2 hbase (fun q hq=>(hown.lt q hq).1))
def Yd(xs:List Int)(w:World)(e:Ending)(w':World):Prop :=
 ∃v,e=ρ (.tuple #[v,ι κ (RJ xs:Int),ι κ (K6 xs)])∧Ul w' w.heap.size v (Uz xs)∧Below w.heap.size w w'
theorem gg{xs:List Int}{w w':World}{v:Value}{nn:Int}{ee:Int}(h1:nn=(RJ xs:Int))(h2:ee=K6 xs)(h3:Ul w' w.heap.size v (Uz xs))(h4:Below w.heap.size w w') :
  Yd xs w (ρ (.tuple #[v,ι κ nn,ι κ ee])) w':=⟨v,by rw[h1,h2],h3,h4⟩
theorem rO(xs:List Int)(hb:ZZ xs)(a b:Nat):(strOfNums xs).extract a b=strOfNums ((xs.drop a).take (b-a)):=by
 have:(strOfNums xs).extract a b=strOfNums (((nums (strOfNums xs)).drop a).take (b-a)):=by
  rw[←Xo ((strOfNums xs).extract a b)]
  congr 1
  simp[nums,List.map_take,List.map_drop]
 rw[this,Vz (Gy _) hb (Xo _)]
def FI(wr:World)(B:Nat)(v8 v9:Value)(P:List (Tok×Nat)):Prop:=Ul wr B v8 (P.map (·.1))∧NG wr B v9 (P.map fun x=>(x.2:Int))
