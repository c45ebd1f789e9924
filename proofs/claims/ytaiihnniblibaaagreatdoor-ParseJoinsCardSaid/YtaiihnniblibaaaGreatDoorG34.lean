import Derived.Test.YtaiihnniblibaaaGreatDoorG33
set_option maxHeartbeats 8000000
set_option maxRecDepth 100000
set_option linter.unusedVariables false
open Go.Proofs.Tryz Go.ChangeShapes Go.WideShapes Go.ChangeAt Go.RowKit
open Go.Lib renaming hid→QA
open Go.RowKit.Below renaming refl→QF
open _root_.List renaming setIfInBounds_toArray→VG,set_cons_succ→VF,set_cons_zero→VE
open _root_.Nat renaming zero_add→JN
open _root_.ByteArray renaming size_append→VT
open Go.Value renaming string→σ,int→ι,slice→ς,pointer→π,agg→ξ
open Go.IntKind renaming i64→κ
open Go.Obj renaming cells→θ
open Go.Ending renaming returned→ρ
namespace Go.Proofs.YtaiihnniblibaaaGreatDoor
namespace JI
open Tree Mem
def Cl(w:World)(b o0 o1 o2 o3:Nat)(k:Int)(x y:ByteArray)(s:Value):Prop:=∀W,Below w.heap.size w W→W.cell? ⟨b,o0,none⟩=some (ι κ k)∧W.cell? ⟨b,o1,none⟩=some (σ x)∧W.cell? ⟨b,o2,none⟩=some (σ y)∧W.cell? ⟨b,o3,none⟩=some s
def Wd(w:World)(k:Int)(x y:ByteArray)(s:Value)(t:ByteArray):Prop:=∀W,Below w.heap.size w W→Calls prog 29 #[ξ #[ι κ k,σ x,σ y,s]] W fun e w'=>e=ρ (σ t)∧Below W.heap.size W w'
def kX(c:F):Prop:=∀(A:Option Addr)(n C:Nat)(W:World),Fs W (Lo W.heap.size) (ς A n C) c→Calls prog 54 #[ς A n C] W fun e w'=>e=ρ (σ (sB c))∧Below W.heap.size W w'
def E7(c:F):Prop:=∀(A:Option Addr)(n C:Nat)(W:World),Fs W (Lo W.heap.size) (ς A n C) c→Calls prog 53 #[ς A n C] W fun e w'=>e=ρ (σ (sM c))∧Below W.heap.size W w'
theorem Zp(w:World)(k:Int)(x y:ByteArray)(s:Value):Cl (w.alloc (θ #[ι κ k,σ x,σ y,s] 24)) w.heap.size 0 1 2 3 k x y s:=fun W hW=>Ug ((hW.block w.heap.size (by simp)).trans (heap_alloc_new w _))
theorem Z5{w:World}{S:Nat→Prop}{A:Option Addr}{n C:Nat}{f:F}(hf:Fs w S (ς A n C) f):n=f.len:=by
  obtain⟨_,_,e,_,_⟩:=hf.slice;injection e
section
variable {w w1:World}{A:Option Addr}{b off n C:Nat}{k k' k2 k3:Int}{x y x' y' x2 y2 x3 y3:ByteArray}{c r c' r' c2 r2 c3 r3 f:F}
theorem AB(i:Nat)(hd:f.drop i=.cons k x y c r)(hf:Fs w (Lo w.heap.size) (ς A n C) f)(hb:Below w.heap.size w w1):∃b off B D,A=some ⟨b,off,none⟩∧Cl w1 b (off+i*4) (off+i*4+1) (off+i*4+2) (off+i*4+3) k x y (ς B c.len D)∧Fs w (Lo w.heap.size) (ς B c.len D) c:=by
  obtain⟨b,off,s,e,hS,_,hat⟩:=hf.at_ hd;obtain⟨B,D,rfl,_,_⟩:=hat.kids.slice;refine⟨b,off,B,D,e,fun W hW=>?_,hat.kids⟩;have UJ:=hb.trans (hW.mono hb.size);exact⟨(UJ.cell (p:=⟨b,off+i*4,none⟩) hS).trans hat.c0,(UJ.cell (p:=⟨b,off+i*4+1,none⟩) hS).trans hat.c1,(UJ.cell (p:=⟨b,off+i*4+2,none⟩) hS).trans hat.c2,(UJ.cell (p:=⟨b,off+i*4+3,none⟩) hS).trans hat.c3⟩
theorem Av{B:Option Addr}{D m:Nat}(hk:Fs w (Lo w.heap.size) (ς B m D) c)(h:Q0 k x y c)(hb:Below w.heap.size w w1):Wd w1 k x y (ς B m D) (sW k x c):=fun W hW=>h B _ D W (hk.later (hb.trans (hW.mono hb.size)))
theorem Y8(hf:Fs w (Lo w.heap.size) (ς A n C) (.cons k x y c r))(h:Q0 k x y c)(hb:Below w.heap.size w w1):∃b off B D,A=some ⟨b,off,none⟩∧Cl w1 b off (off+1) (off+2) (off+3) k x y (ς B c.len D)∧Wd w1 k x y (ς B c.len D) (sW k x c):=by
  obtain⟨b,off,B,D,e,h1,h2⟩:=AB 0 rfl hf hb;exact⟨b,off,B,D,e,by simpa only[Nat.zero_mul,Nat.add_zero]using h1,Av h2 h hb⟩
theorem gK(i:Nat)(hd:f.drop i=.cons k x y c r)(hf:Fs w (Lo w.heap.size) (ς (some ⟨b,off,none⟩) n C) f)(hb:Below w.heap.size w w1):∃B D,Cl w1 b (off+i*4) (off+i*4+1) (off+i*4+2) (off+i*4+3) k x y (ς B c.len D)∧Fs w (Lo w.heap.size) (ς B c.len D) c:=by
  obtain⟨b',PO,B,D,e,h1,h2⟩:=AB i hd hf hb;injection e with e;injection e with e1 e2;subst e1;subst e2;exact⟨B,D,h1,h2⟩
theorem dg(hf:Fs w (Lo w.heap.size) (ς (some ⟨b,off,none⟩) n C) (.cons k' x' y' c' (.cons k x y c r)))(hb:Below w.heap.size w w1):∃B D,Cl w1 b (off+4) (off+5) (off+6) (off+7) k x y (ς B c.len D)∧Fs w (Lo w.heap.size) (ς B c.len D) c:=gK 1 rfl hf hb
theorem DY(hf:Fs w (Lo w.heap.size) (ς (some ⟨b,off,none⟩) n C) (.cons k' x' y' c' (.cons k x y c r)))(h:Q0 k x y c)(hb:Below w.heap.size w w1):∃B D,Cl w1 b (off+4) (off+5) (off+6) (off+7) k x y (ς B c.len D)∧Wd w1 k x y (ς B c.len D) (sW k x c):=by
  obtain⟨B,D,h1,h2⟩:=dg hf hb;exact⟨B,D,h1,Av h2 h hb⟩
theorem cD(hf:Fs w (Lo w.heap.size) (ς (some ⟨b,off,none⟩) n C) (.cons k' x' y' c' (.cons k2 x2 y2 c2 (.cons k x y c r))))(h:Q0 k x y c)(hb:Below w.heap.size w w1):∃B D,Cl w1 b (off+8) (off+9) (off+10) (off+11) k x y (ς B c.len D)∧Wd w1 k x y (ς B c.len D) (sW k x c):=by
  obtain⟨B,D,h1,h2⟩:=gK 2 rfl hf hb;exact⟨B,D,h1,Av h2 h hb⟩
theorem Q3n(hf:Fs w (Lo w.heap.size) (ς (some ⟨b,off,none⟩) n C) (.cons k' x' y' c' (.cons k2 x2 y2 c2 (.cons k3 x3 y3 c3 (.cons k x y c r)))))(h:Q0 k x y c)(hb:Below w.heap.size w w1):∃B D,Cl w1 b (off+12) (off+13) (off+14) (off+15) k x y (ς B c.len D)∧Wd w1 k x y (ς B c.len D) (sW k x c):=by
  obtain⟨B,D,h1,h2⟩:=gK 3 rfl hf hb;exact⟨B,D,h1,Av h2 h hb⟩
end
theorem Qwq(x y:ByteArray)(A:Option Addr)(n C:Nat)(w:World)(hf:Fs w (Lo w.heap.size) (ς A n C) (.nil))(hsz:(sW 2 x (.nil)).size≤1000000) :
    Calls prog 29 #[ξ #[ι κ 2,σ x,σ y,ς A n C]] w fun e w'=>e=ρ (σ (sW 2 x (.nil)))∧Below w.heap.size w w':=by
  have hb:=Qb w (θ #[ι κ 2,σ x,σ y,ς A n C] 24);obtain rfl:n=0:=Z5 hf;have HX:=QA (Zp w 2 x y (ς A 0 C));have HB:=QA hb;rw[Q21]at hsz⊢;simp only[VT]at hsz;have hx:x.size≤1000000:=by omega
  clear hf hb hsz;obtain⟨KJ,KI,KH,KG⟩:=HX.out _ (QF _ _);go_enter func29,ntmps29;go_wp2;go_ret;exact⟨rfl,HB.out⟩
theorem Qwp(x y:ByteArray)(A:Option Addr)(n C:Nat)(w:World)(hf:Fs w (Lo w.heap.size) (ς A n C) (.nil))(hsz:(sW 3 x (.nil)).size≤1000000) :
    Calls prog 29 #[ξ #[ι κ 3,σ x,σ y,ς A n C]] w fun e w'=>e=ρ (σ (sW 3 x (.nil)))∧Below w.heap.size w w':=by
  have hb:=Qb w (θ #[ι κ 3,σ x,σ y,ς A n C] 24);obtain rfl:n=0:=Z5 hf;have HX:=QA (Zp w 3 x y (ς A 0 C));have HB:=QA hb;rw[Q20]at hsz⊢;simp only[VT]at hsz;have hx:x.size≤1000000:=by omega
  clear hf hb hsz;obtain⟨KJ,KI,KH,KG⟩:=HX.out _ (QF _ _);go_enter func29,ntmps29;go_wp2;go_ret;exact⟨rfl,HB.out⟩
theorem Qwk(x y:ByteArray)(A:Option Addr)(n C:Nat)(w:World)(hf:Fs w (Lo w.heap.size) (ς A n C) (.nil))(hsz:(sW 8 x (.nil)).size≤1000000) :
    Calls prog 29 #[ξ #[ι κ 8,σ x,σ y,ς A n C]] w fun e w'=>e=ρ (σ (sW 8 x (.nil)))∧Below w.heap.size w w':=by
  have hb:=Qb w (θ #[ι κ 8,σ x,σ y,ς A n C] 24);obtain rfl:n=0:=Z5 hf;have HX:=QA (Zp w 8 x y (ς A 0 C));have HB:=QA hb;rw[Q2z]at hsz⊢;clear hf hb hsz;obtain⟨KJ,KI,KH,KG⟩:=HX.out _ (QF _ _);go_enter func29,ntmps29;go_wp2;go_ret;exact⟨rfl,HB.out⟩
theorem Qwj(x y:ByteArray)(A:Option Addr)(n C:Nat)(w:World)(hf:Fs w (Lo w.heap.size) (ς A n C) (.nil))(hsz:(sW 9 x (.nil)).size≤1000000) :
    Calls prog 29 #[ξ #[ι κ 9,σ x,σ y,ς A n C]] w fun e w'=>e=ρ (σ (sW 9 x (.nil)))∧Below w.heap.size w w':=by
  have hb:=Qb w (θ #[ι κ 9,σ x,σ y,ς A n C] 24);obtain rfl:n=0:=Z5 hf;have HX:=QA (Zp w 9 x y (ς A 0 C));have HB:=QA hb;rw[Q2y]at hsz⊢;clear hf hb hsz;obtain⟨KJ,KI,KH,KG⟩:=HX.out _ (QF _ _);go_enter func29,ntmps29;go_wp2;go_ret;exact⟨rfl,HB.out⟩
theorem Qrr(x y:ByteArray)(A:Option Addr)(n C:Nat)(w:World)(hf:Fs w (Lo w.heap.size) (ς A n C) (.nil))(hsz:(sW 26 x (.nil)).size≤1000000) :
    Calls prog 29 #[ξ #[ι κ 26,σ x,σ y,ς A n C]] w fun e w'=>e=ρ (σ (sW 26 x (.nil)))∧Below w.heap.size w w':=by
  have hb:=Qb w (θ #[ι κ 26,σ x,σ y,ς A n C] 24);obtain rfl:n=0:=Z5 hf;have HX:=QA (Zp w 26 x y (ς A 0 C));have HB:=QA hb;rw[Q17]at hsz⊢;clear hf hb hsz;obtain⟨KJ,KI,KH,KG⟩:=HX.out _ (QF _ _);go_enter func29,ntmps29;go_wp2;go_ret;exact⟨rfl,HB.out⟩
theorem Qrq(x y:ByteArray)(A:Option Addr)(n C:Nat)(w:World)(hf:Fs w (Lo w.heap.size) (ς A n C) (.nil))(hsz:(sW 27 x (.nil)).size≤1000000) :
    Calls prog 29 #[ξ #[ι κ 27,σ x,σ y,ς A n C]] w fun e w'=>e=ρ (σ (sW 27 x (.nil)))∧Below w.heap.size w w':=by
  have hb:=Qb w (θ #[ι κ 27,σ x,σ y,ς A n C] 24);obtain rfl:n=0:=Z5 hf;have HX:=QA (Zp w 27 x y (ς A 0 C));have HB:=QA hb;rw[Q16]at hsz⊢;clear hf hb hsz;obtain⟨KJ,KI,KH,KG⟩:=HX.out _ (QF _ _);go_enter func29,ntmps29;go_wp2;go_ret;exact⟨rfl,HB.out⟩
theorem Qrt(x y:ByteArray)(A:Option Addr)(n C:Nat)(w:World)(hf:Fs w (Lo w.heap.size) (ς A n C) (.nil))(hsz:(sW 24 x (.nil)).size≤1000000) :
    Calls prog 29 #[ξ #[ι κ 24,σ x,σ y,ς A n C]] w fun e w'=>e=ρ (σ (sW 24 x (.nil)))∧Below w.heap.size w w':=by
  have hb:=Qb w (θ #[ι κ 24,σ x,σ y,ς A n C] 24);obtain rfl:n=0:=Z5 hf;have HX:=QA (Zp w 24 x y (ς A 0 C));have HB:=QA hb;rw[Q19]at hsz⊢;clear hf hb hsz;obtain⟨KJ,KI,KH,KG⟩:=HX.out _ (QF _ _);go_enter func29,ntmps29;go_wp2;go_ret;exact⟨rfl,HB.out⟩
theorem Qrs(x y:ByteArray)(A:Option Addr)(n C:Nat)(w:World)(hf:Fs w (Lo w.heap.size) (ς A n C) (.nil))(hsz:(sW 25 x (.nil)).size≤1000000) :
    Calls prog 29 #[ξ #[ι κ 25,σ x,σ y,ς A n C]] w fun e w'=>e=ρ (σ (sW 25 x (.nil)))∧Below w.heap.size w w':=by
  have hb:=Qb w (θ #[ι κ 25,σ x,σ y,ς A n C] 24);obtain rfl:n=0:=Z5 hf;have HX:=QA (Zp w 25 x y (ς A 0 C));have HB:=QA hb;rw[Q18]at hsz⊢;clear hf hb hsz;obtain⟨KJ,KI,KH,KG⟩:=HX.out _ (QF _ _);go_enter func29,ntmps29;go_wp2;go_ret;exact⟨rfl,HB.out⟩
theorem Qr6(x y:ByteArray)(A:Option Addr)(n C:Nat)(k0:Int)(x0 y0:ByteArray)(c0:F)(w:World)(hf:Fs w (Lo w.heap.size) (ς A n C) (.cons k0 x0 y0 c0 (.nil)))(h0:Q0 k0 x0 y0 c0)(hsz:(sW 10 x (.cons k0 x0 y0 c0 (.nil))).size≤1000000) :
    Calls prog 29 #[ξ #[ι κ 10,σ x,σ y,ς A n C]] w fun e w'=>e=ρ (σ (sW 10 x (.cons k0 x0 y0 c0 (.nil))))∧Below w.heap.size w w':=by
  have hb:=Qb w (θ #[ι κ 10,σ x,σ y,ς A n C] 24);obtain⟨b,off,B0,D0,rfl,hc0,hw0⟩:=Y8 hf h0 hb;obtain rfl:n=1:=Z5 hf;have HX:=QA (Zp w 10 x y (ς (some ⟨b,off,none⟩) 1 C));have HB:=QA hb;have XF:=QA hc0;rw[dA]at hsz⊢;generalize sW k0 x0 c0=s0 at *;simp only[VT]at hsz;have hs0:s0.size≤1000000:=by omega
  have XQ:=QA hw0;clear hf hb hsz h0 hc0 hw0;obtain⟨KJ,KI,KH,KG⟩:=HX.out _ (QF _ _);obtain⟨YQ,YP,YO,YN⟩:=XF.out _ (QF _ _);go_enter func29,ntmps29;go_wp2_with fail;refine c₁ (XQ.out _ (QF _ _)) fun w2 hb=>?_;have XK:=QA (hb);clear hb;go_wp2;go_ret;exact⟨rfl,HB.out.trans (XK.out.mono HB.out.size)⟩
theorem Qr5(x y:ByteArray)(A:Option Addr)(n C:Nat)(k0:Int)(x0 y0:ByteArray)(c0:F)(w:World)(hf:Fs w (Lo w.heap.size) (ς A n C) (.cons k0 x0 y0 c0 (.nil)))(h0:Q0 k0 x0 y0 c0)(hsz:(sW 11 x (.cons k0 x0 y0 c0 (.nil))).size≤1000000) :
    Calls prog 29 #[ξ #[ι κ 11,σ x,σ y,ς A n C]] w fun e w'=>e=ρ (σ (sW 11 x (.cons k0 x0 y0 c0 (.nil))))∧Below w.heap.size w w':=by
  have hb:=Qb w (θ #[ι κ 11,σ x,σ y,ς A n C] 24);obtain⟨b,off,B0,D0,rfl,hc0,hw0⟩:=Y8 hf h0 hb;obtain rfl:n=1:=Z5 hf;have HX:=QA (Zp w 11 x y (ς (some ⟨b,off,none⟩) 1 C));have HB:=QA hb;have XF:=QA hc0;rw[lg]at hsz⊢;generalize sW k0 x0 c0=s0 at *;simp only[VT]at hsz;have hs0:s0.size≤1000000:=by omega
  have XQ:=QA hw0;clear hf hb hsz h0 hc0 hw0;obtain⟨KJ,KI,KH,KG⟩:=HX.out _ (QF _ _);obtain⟨YQ,YP,YO,YN⟩:=XF.out _ (QF _ _);go_enter func29,ntmps29;go_wp2_with fail;refine c₁ (XQ.out _ (QF _ _)) fun w2 hb=>?_;have XK:=QA (hb);clear hb;go_wp2;go_ret;exact⟨rfl,HB.out.trans (XK.out.mono HB.out.size)⟩
theorem Qru(x y:ByteArray)(A:Option Addr)(n C:Nat)(k0:Int)(x0 y0:ByteArray)(c0:F)(w:World)(hf:Fs w (Lo w.heap.size) (ς A n C) (.cons k0 x0 y0 c0 (.nil)))(h0:Q0 k0 x0 y0 c0)(hsz:(sW 23 x (.cons k0 x0 y0 c0 (.nil))).size≤1000000) :
    Calls prog 29 #[ξ #[ι κ 23,σ x,σ y,ς A n C]] w fun e w'=>e=ρ (σ (sW 23 x (.cons k0 x0 y0 c0 (.nil))))∧Below w.heap.size w w':=by
  have hb:=Qb w (θ #[ι κ 23,σ x,σ y,ς A n C] 24);obtain⟨b,off,B0,D0,rfl,hc0,hw0⟩:=Y8 hf h0 hb;obtain rfl:n=1:=Z5 hf;have HX:=QA (Zp w 23 x y (ς (some ⟨b,off,none⟩) 1 C));have HB:=QA hb;have XF:=QA hc0;rw[eV]at hsz⊢;generalize sW k0 x0 c0=s0 at *;have hs0:s0.size≤1000000:=by omega
  have XQ:=QA hw0;clear hf hb hsz h0 hc0 hw0;obtain⟨KJ,KI,KH,KG⟩:=HX.out _ (QF _ _);obtain⟨YQ,YP,YO,YN⟩:=XF.out _ (QF _ _);go_enter func29,ntmps29;go_wp2_with fail;refine c₁ (XQ.out _ (QF _ _)) fun w2 hb=>?_;have XK:=QA (hb);clear hb;go_wp2;go_ret;exact⟨rfl,HB.out.trans (XK.out.mono HB.out.size)⟩
theorem Qwo(x y:ByteArray)(A:Option Addr)(n C:Nat)(k0:Int)(x0 y0:ByteArray)(c0:F)(w:World)(hf:Fs w (Lo w.heap.size) (ς A n C) (.cons k0 x0 y0 c0 (.nil)))(h0:Q0 k0 x0 y0 c0)(hsz:(sW 4 x (.cons k0 x0 y0 c0 (.nil))).size≤1000000) :
    Calls prog 29 #[ξ #[ι κ 4,σ x,σ y,ς A n C]] w fun e w'=>e=ρ (σ (sW 4 x (.cons k0 x0 y0 c0 (.nil))))∧Below w.heap.size w w':=by
  have hb:=Qb w (θ #[ι κ 4,σ x,σ y,ς A n C] 24);obtain⟨b,off,B0,D0,rfl,hc0,hw0⟩:=Y8 hf h0 hb;obtain rfl:n=1:=Z5 hf;have HX:=QA (Zp w 4 x y (ς (some ⟨b,off,none⟩) 1 C));have HB:=QA hb;have XF:=QA hc0;rw[cO]at hsz⊢;generalize sW k0 x0 c0=s0 at *;simp only[VT]at hsz;have hx:x.size≤1000000:=by omega
  have hs0:s0.size≤1000000:=by omega
  have XQ:=QA hw0;clear hf hb hsz h0 hc0 hw0;obtain⟨KJ,KI,KH,KG⟩:=HX.out _ (QF _ _);go_enter func29,ntmps29;go_wp2;refine Qz (([π (some ⟨w.heap.size,1,none⟩),σ x,σ ((⟨#[99,111,110,115,116,32]⟩:ByteArray)++x),σ (((⟨#[99,111,110,115,116,32]⟩:ByteArray)++x)++(⟨#[32,61,32]⟩:ByteArray)),ς (some ⟨b,off,none⟩) 1 C,π (some ⟨b,off,none⟩),ξ #[ι κ k0,σ x0,σ y0,ς B0 c0.len D0],σ s0,σ ((((⟨#[99,111,110,115,116,32]⟩:ByteArray)++x)++(⟨#[32,61,32]⟩:ByteArray))++s0),σ ((((⟨#[99,111,110,115,116,32]⟩:ByteArray)++x)++(⟨#[32,61,32]⟩:ByteArray))++s0)]:List Value).map Cd.is) ?steps ?behind
  case steps =>
    intro xv W hW;have hV:=hW;obtain⟨PM,PL,PK,PJ⟩:=HX.out W hV;obtain⟨Tn,Tm,Tj,Ti⟩:=XF.out W hV;have t0:=XQ.out W hV;refine⟨fun hd K hK=>?s0,fun hd K hK=>?s1,fun hd K hK=>?s2,fun hd K hK=>?s3,fun hd K hK=>?s4,fun hd K hK=>?s5,fun hd K hK=>?s6,fun hd K hK=>?s7,fun hd K hK=>?s8,fun hd K hK=>?s9,trivial⟩;all_goals simp only[Act.put,VG,VF,VE]at hK
    case' s1=>rw[show xv 0=_ from hd 0]at hK⊢
    case' s2=>rw[show xv 1=_ from hd 1]at hK⊢
    case' s3=>rw[show xv 2=_ from hd 2]at hK⊢
    case' s5=>rw[show xv 4=_ from hd 4]at hK⊢
    case' s6=>rw[show xv 5=_ from hd 5]at hK⊢
    case' s7=>rw[show xv 6=_ from hd 6]at hK⊢
    case' s8=>rw[show xv 3=_ from hd 3,show xv 7=_ from hd 7]at hK⊢
    case' s9=>rw[show xv 8=_ from hd 8]at hK⊢
    all_goals clear hd
    all_goals go_simp
    all_goals first|exact hK.out _ _ (QF _ _) rfl|(rw[if_neg (by omega)];exact hK.out _ _ (QF _ _) rfl)|(go_at_call 29;(with_reducible refine t0.mono ?_);rintro e w' ⟨rfl,hb⟩;exact hK.out _ _ hb rfl)
  case behind=>intro xv W hW hx;rw[show xv 9=_ from hx 9];have HE:=QN HB hW;clear hx hW;go_wp2;go_ret;exact⟨rfl,HE.out⟩
theorem Qwm(x y:ByteArray)(A:Option Addr)(n C:Nat)(k0:Int)(x0 y0:ByteArray)(c0:F)(w:World)(hf:Fs w (Lo w.heap.size) (ς A n C) (.cons k0 x0 y0 c0 (.nil)))(h0:Q0 k0 x0 y0 c0)(hsz:(sW 6 x (.cons k0 x0 y0 c0 (.nil))).size≤1000000) :
    Calls prog 29 #[ξ #[ι κ 6,σ x,σ y,ς A n C]] w fun e w'=>e=ρ (σ (sW 6 x (.cons k0 x0 y0 c0 (.nil))))∧Below w.heap.size w w':=by
  have hb:=Qb w (θ #[ι κ 6,σ x,σ y,ς A n C] 24);obtain⟨b,off,B0,D0,rfl,hc0,hw0⟩:=Y8 hf h0 hb;obtain rfl:n=1:=Z5 hf;have HX:=QA (Zp w 6 x y (ς (some ⟨b,off,none⟩) 1 C));have HB:=QA hb;have XF:=QA hc0;rw[cQ]at hsz⊢;generalize sW k0 x0 c0=s0 at *;simp only[VT]at hsz;have hx:x.size≤1000000:=by omega
  have hs0:s0.size≤1000000:=by omega
  have XQ:=QA hw0;clear hf hb hsz h0 hc0 hw0;obtain⟨KJ,KI,KH,KG⟩:=HX.out _ (QF _ _);go_enter func29,ntmps29;go_wp2;refine Qz (([π (some ⟨w.heap.size,1,none⟩),σ x,σ ((⟨#[116,121,112,101,32]⟩:ByteArray)++x),σ (((⟨#[116,121,112,101,32]⟩:ByteArray)++x)++(⟨#[32]⟩:ByteArray)),ς (some ⟨b,off,none⟩) 1 C,π (some ⟨b,off,none⟩),ξ #[ι κ k0,σ x0,σ y0,ς B0 c0.len D0],σ s0,σ ((((⟨#[116,121,112,101,32]⟩:ByteArray)++x)++(⟨#[32]⟩:ByteArray))++s0),σ ((((⟨#[116,121,112,101,32]⟩:ByteArray)++x)++(⟨#[32]⟩:ByteArray))++s0)]:List Value).map Cd.is) ?steps ?behind
  case steps =>
    intro xv W hW;have hV:=hW;obtain⟨PM,PL,PK,PJ⟩:=HX.out W hV;obtain⟨Tn,Tm,Tj,Ti⟩:=XF.out W hV;have t0:=XQ.out W hV;refine⟨fun hd K hK=>?s0,fun hd K hK=>?s1,fun hd K hK=>?s2,fun hd K hK=>?s3,fun hd K hK=>?s4,fun hd K hK=>?s5,fun hd K hK=>?s6,fun hd K hK=>?s7,fun hd K hK=>?s8,fun hd K hK=>?s9,trivial⟩;all_goals simp only[Act.put,VG,VF,VE]at hK
    case' s1=>rw[show xv 0=_ from hd 0]at hK⊢
    case' s2=>rw[show xv 1=_ from hd 1]at hK⊢
    case' s3=>rw[show xv 2=_ from hd 2]at hK⊢
    case' s5=>rw[show xv 4=_ from hd 4]at hK⊢
    case' s6=>rw[show xv 5=_ from hd 5]at hK⊢
    case' s7=>rw[show xv 6=_ from hd 6]at hK⊢
    case' s8=>rw[show xv 3=_ from hd 3,show xv 7=_ from hd 7]at hK⊢
    case' s9=>rw[show xv 8=_ from hd 8]at hK⊢
    all_goals clear hd
    all_goals go_simp
    all_goals first|exact hK.out _ _ (QF _ _) rfl|(rw[if_neg (by omega)];exact hK.out _ _ (QF _ _) rfl)|(go_at_call 29;(with_reducible refine t0.mono ?_);rintro e w' ⟨rfl,hb⟩;exact hK.out _ _ hb rfl)
  case behind=>intro xv W hW hx;rw[show xv 9=_ from hx 9];have HE:=QN HB hW;clear hx hW;go_wp2;go_ret;exact⟨rfl,HE.out⟩
theorem Qr4(x y:ByteArray)(A:Option Addr)(n C:Nat)(k0 k1:Int)(x0 y0 x1 y1:ByteArray)(c0 c1:F)(w:World)(hf:Fs w (Lo w.heap.size) (ς A n C) (.cons k0 x0 y0 c0 (.cons k1 x1 y1 c1 (.nil))))(h0:Q0 k0 x0 y0 c0)(h1:Q0 k1 x1 y1 c1)(hsz:(sW 12 x (.cons k0 x0 y0 c0 (.cons k1 x1 y1 c1 (.nil)))).size≤1000000) :
    Calls prog 29 #[ξ #[ι κ 12,σ x,σ y,ς A n C]] w fun e w'=>e=ρ (σ (sW 12 x (.cons k0 x0 y0 c0 (.cons k1 x1 y1 c1 (.nil)))))∧Below w.heap.size w w':=by
  have hb:=Qb w (θ #[ι κ 12,σ x,σ y,ς A n C] 24);obtain⟨b,off,B0,D0,rfl,hc0,hw0⟩:=Y8 hf h0 hb;obtain⟨B1,D1,hc1,hw1⟩:=DY hf h1 hb;obtain rfl:n=2:=Z5 hf;have HX:=QA (Zp w 12 x y (ς (some ⟨b,off,none⟩) 2 C));have HB:=QA hb;have XF:=QA hc0;have XC:=QA hc1;rw[lh]at hsz⊢;generalize sW k0 x0 c0=s0 at *;generalize sW k1 x1 c1=s1 at *;simp only[VT]at hsz;have hs0:s0.size≤1000000:=by omega
  have hs1:s1.size≤1000000:=by omega
  have XQ:=QA hw0;have Lp:=QA hw1;clear hf hb hsz h0 hc0 hw0 h1 hc1 hw1;obtain⟨KJ,KI,KH,KG⟩:=HX.out _ (QF _ _);go_enter func29,ntmps29;go_wp2;refine Qz (([ς (some ⟨b,off,none⟩) 2 C,π (some ⟨b,off,none⟩),ξ #[ι κ k0,σ x0,σ y0,ς B0 c0.len D0],σ s0,σ ((⟨#[109,97,112,91]⟩:ByteArray)++s0),σ (((⟨#[109,97,112,91]⟩:ByteArray)++s0)++(⟨#[93]⟩:ByteArray)),ς (some ⟨b,off,none⟩) 2 C,π (some ⟨b,off+4,none⟩),ξ #[ι κ k1,σ x1,σ y1,ς B1 c1.len D1],σ s1,σ ((((⟨#[109,97,112,91]⟩:ByteArray)++s0)++(⟨#[93]⟩:ByteArray))++s1),σ ((((⟨#[109,97,112,91]⟩:ByteArray)++s0)++(⟨#[93]⟩:ByteArray))++s1)]:List Value).map Cd.is) ?steps ?behind
  case steps =>
    intro xv W hW;have hV:=hW;obtain⟨PM,PL,PK,PJ⟩:=HX.out W hV;obtain⟨Tn,Tm,Tj,Ti⟩:=XF.out W hV;obtain⟨Io,Im,Il,Df⟩:=XC.out W hV;have t0:=XQ.out W hV;have t1:=Lp.out W hV;refine⟨fun hd K hK=>?s0,fun hd K hK=>?s1,fun hd K hK=>?s2,fun hd K hK=>?s3,fun hd K hK=>?s4,fun hd K hK=>?s5,fun hd K hK=>?s6,fun hd K hK=>?s7,fun hd K hK=>?s8,fun hd K hK=>?s9,fun hd K hK=>?GH,fun hd K hK=>?Sg,trivial⟩;all_goals simp only[Act.put,VG,VF,VE]at hK
    case' s1=>rw[show xv 0=_ from hd 0]at hK⊢
    case' s2=>rw[show xv 1=_ from hd 1]at hK⊢
    case' s3=>rw[show xv 2=_ from hd 2]at hK⊢
    case' s4=>rw[show xv 3=_ from hd 3]at hK⊢
    case' s5=>rw[show xv 4=_ from hd 4]at hK⊢
    case' s7=>rw[show xv 6=_ from hd 6]at hK⊢
    case' s8=>rw[show xv 7=_ from hd 7]at hK⊢
    case' s9=>rw[show xv 8=_ from hd 8]at hK⊢
    case' GH=>rw[show xv 5=_ from hd 5,show xv 9=_ from hd 9]at hK⊢
    case' Sg=>rw[show xv 10=_ from hd 10]at hK⊢
    all_goals clear hd
    all_goals go_simp
    all_goals first|exact hK.out _ _ (QF _ _) rfl|(rw[if_neg (by omega)];exact hK.out _ _ (QF _ _) rfl)|(go_at_call 29;(with_reducible refine t0.mono ?_);rintro e w' ⟨rfl,hb⟩;exact hK.out _ _ hb rfl)|(go_at_call 29;(with_reducible refine t1.mono ?_);rintro e w' ⟨rfl,hb⟩;exact hK.out _ _ hb rfl)
  case behind=>intro xv W hW hx;rw[show xv 11=_ from hx 11];have HE:=QN HB hW;clear hx hW;go_wp2;go_ret;exact⟨rfl,HE.out⟩
theorem Qr2(x y:ByteArray)(A:Option Addr)(n C:Nat)(k0:Int)(x0 y0:ByteArray)(c0:F)(w:World)(hf:Fs w (Lo w.heap.size) (ς A n C) (.cons k0 x0 y0 c0 (.nil)))(h0:Q0 k0 x0 y0 c0)(hsz:(sW 14 x (.cons k0 x0 y0 c0 (.nil))).size≤1000000) :
    Calls prog 29 #[ξ #[ι κ 14,σ x,σ y,ς A n C]] w fun e w'=>e=ρ (σ (sW 14 x (.cons k0 x0 y0 c0 (.nil))))∧Below w.heap.size w w':=by
  have hb:=Qb w (θ #[ι κ 14,σ x,σ y,ς A n C] 24);obtain⟨b,off,B0,D0,rfl,hc0,hw0⟩:=Y8 hf h0 hb;obtain rfl:n=1:=Z5 hf;have HX:=QA (Zp w 14 x y (ς (some ⟨b,off,none⟩) 1 C));have HB:=QA hb;have XF:=QA hc0;rw[ll]at hsz⊢;generalize sW k0 x0 c0=s0 at *;simp only[VT]at hsz;have hx:x.size≤1000000:=by omega
  have hs0:s0.size≤1000000:=by omega
  have XQ:=QA hw0;clear hf hb hsz h0 hc0 hw0;obtain⟨KJ,KI,KH,KG⟩:=HX.out _ (QF _ _);go_enter func29,ntmps29;go_wp2;refine Qz (([π (some ⟨w.heap.size,1,none⟩),σ x,σ (x++(⟨#[32]⟩:ByteArray)),ς (some ⟨b,off,none⟩) 1 C,π (some ⟨b,off,none⟩),ξ #[ι κ k0,σ x0,σ y0,ς B0 c0.len D0],σ s0,σ ((x++(⟨#[32]⟩:ByteArray))++s0),σ ((x++(⟨#[32]⟩:ByteArray))++s0)]:List Value).map Cd.is) ?steps ?behind
  case steps =>
    intro xv W hW;have hV:=hW;obtain⟨PM,PL,PK,PJ⟩:=HX.out W hV;obtain⟨Tn,Tm,Tj,Ti⟩:=XF.out W hV;have t0:=XQ.out W hV;refine⟨fun hd K hK=>?s0,fun hd K hK=>?s1,fun hd K hK=>?s2,fun hd K hK=>?s3,fun hd K hK=>?s4,fun hd K hK=>?s5,fun hd K hK=>?s6,fun hd K hK=>?s7,fun hd K hK=>?s8,trivial⟩;all_goals simp only[Act.put,VG,VF,VE]at hK
    case' s1=>rw[show xv 0=_ from hd 0]at hK⊢
    case' s2=>rw[show xv 1=_ from hd 1]at hK⊢
    case' s4=>rw[show xv 3=_ from hd 3]at hK⊢
    case' s5=>rw[show xv 4=_ from hd 4]at hK⊢
    case' s6=>rw[show xv 5=_ from hd 5]at hK⊢
    case' s7=>rw[show xv 2=_ from hd 2,show xv 6=_ from hd 6]at hK⊢
    case' s8=>rw[show xv 7=_ from hd 7]at hK⊢
    all_goals clear hd
    all_goals go_simp
    all_goals first|exact hK.out _ _ (QF _ _) rfl|(rw[if_neg (by omega)];exact hK.out _ _ (QF _ _) rfl)|(go_at_call 29;(with_reducible refine t0.mono ?_);rintro e w' ⟨rfl,hb⟩;exact hK.out _ _ hb rfl)
  case behind=>intro xv W hW hx;rw[show xv 8=_ from hx 8];have HE:=QN HB hW;clear hx hW;go_wp2;go_ret;exact⟨rfl,HE.out⟩
theorem Qr1(x y:ByteArray)(A:Option Addr)(n C:Nat)(k0:Int)(x0 y0:ByteArray)(c0:F)(w:World)(hf:Fs w (Lo w.heap.size) (ς A n C) (.cons k0 x0 y0 c0 (.nil)))(h0:Q0 k0 x0 y0 c0)(hsz:(sW 16 x (.cons k0 x0 y0 c0 (.nil))).size≤1000000) :
    Calls prog 29 #[ξ #[ι κ 16,σ x,σ y,ς A n C]] w fun e w'=>e=ρ (σ (sW 16 x (.cons k0 x0 y0 c0 (.nil))))∧Below w.heap.size w w':=by
  have hb:=Qb w (θ #[ι κ 16,σ x,σ y,ς A n C] 24);obtain⟨b,off,B0,D0,rfl,hc0,hw0⟩:=Y8 hf h0 hb;obtain rfl:n=1:=Z5 hf;have HX:=QA (Zp w 16 x y (ς (some ⟨b,off,none⟩) 1 C));have HB:=QA hb;have XF:=QA hc0;rw[lq]at hsz⊢;generalize sW k0 x0 c0=s0 at *;simp only[VT]at hsz;have hx:x.size≤1000000:=by omega
  have hs0:s0.size≤1000000:=by omega
  have XQ:=QA hw0;clear hf hb hsz h0 hc0 hw0;obtain⟨KJ,KI,KH,KG⟩:=HX.out _ (QF _ _);go_enter func29,ntmps29;go_wp2;refine Qz (([π (some ⟨w.heap.size,1,none⟩),σ x,σ (x++(⟨#[32]⟩:ByteArray)),ς (some ⟨b,off,none⟩) 1 C,π (some ⟨b,off,none⟩),ξ #[ι κ k0,σ x0,σ y0,ς B0 c0.len D0],σ s0,σ ((x++(⟨#[32]⟩:ByteArray))++s0),σ ((x++(⟨#[32]⟩:ByteArray))++s0)]:List Value).map Cd.is) ?steps ?behind
  case steps =>
    intro xv W hW;have hV:=hW;obtain⟨PM,PL,PK,PJ⟩:=HX.out W hV;obtain⟨Tn,Tm,Tj,Ti⟩:=XF.out W hV;have t0:=XQ.out W hV;refine⟨fun hd K hK=>?s0,fun hd K hK=>?s1,fun hd K hK=>?s2,fun hd K hK=>?s3,fun hd K hK=>?s4,fun hd K hK=>?s5,fun hd K hK=>?s6,fun hd K hK=>?s7,fun hd K hK=>?s8,trivial⟩;all_goals simp only[Act.put,VG,VF,VE]at hK
    case' s1=>rw[show xv 0=_ from hd 0]at hK⊢
    case' s2=>rw[show xv 1=_ from hd 1]at hK⊢
    case' s4=>rw[show xv 3=_ from hd 3]at hK⊢
    case' s5=>rw[show xv 4=_ from hd 4]at hK⊢
    case' s6=>rw[show xv 5=_ from hd 5]at hK⊢
    case' s7=>rw[show xv 2=_ from hd 2,show xv 6=_ from hd 6]at hK⊢
    case' s8=>rw[show xv 7=_ from hd 7]at hK⊢
    all_goals clear hd
    all_goals go_simp
    all_goals first|exact hK.out _ _ (QF _ _) rfl|(rw[if_neg (by omega)];exact hK.out _ _ (QF _ _) rfl)|(go_at_call 29;(with_reducible refine t0.mono ?_);rintro e w' ⟨rfl,hb⟩;exact hK.out _ _ hb rfl)
  case behind=>intro xv W hW hx;rw[show xv 8=_ from hx 8];have HE:=QN HB hW;clear hx hW;go_wp2;go_ret;exact⟨rfl,HE.out⟩
theorem Qrw(x y:ByteArray)(A:Option Addr)(n C:Nat)(k0 k1:Int)(x0 y0 x1 y1:ByteArray)(c0 c1:F)(w:World)(hf:Fs w (Lo w.heap.size) (ς A n C) (.cons k0 x0 y0 c0 (.cons k1 x1 y1 c1 (.nil))))(h0:Q0 k0 x0 y0 c0)(h1:Q0 k1 x1 y1 c1)(hsz:(sW 21 x (.cons k0 x0 y0 c0 (.cons k1 x1 y1 c1 (.nil)))).size≤1000000) :
    Calls prog 29 #[ξ #[ι κ 21,σ x,σ y,ς A n C]] w fun e w'=>e=ρ (σ (sW 21 x (.cons k0 x0 y0 c0 (.cons k1 x1 y1 c1 (.nil)))))∧Below w.heap.size w w':=by
  have hb:=Qb w (θ #[ι κ 21,σ x,σ y,ς A n C] 24);obtain⟨b,off,B0,D0,rfl,hc0,hw0⟩:=Y8 hf h0 hb;obtain⟨B1,D1,hc1,hw1⟩:=DY hf h1 hb;obtain rfl:n=2:=Z5 hf;have HX:=QA (Zp w 21 x y (ς (some ⟨b,off,none⟩) 2 C));have HB:=QA hb;have XF:=QA hc0;have XC:=QA hc1;rw[lC]at hsz⊢;generalize sW k0 x0 c0=s0 at *;generalize sW k1 x1 c1=s1 at *;simp only[VT]at hsz;have hx:x.size≤1000000:=by omega
  have hs0:s0.size≤1000000:=by omega
  have hs1:s1.size≤1000000:=by omega
  have XQ:=QA hw0;have Lp:=QA hw1;clear hf hb hsz h0 hc0 hw0 h1 hc1 hw1;obtain⟨KJ,KI,KH,KG⟩:=HX.out _ (QF _ _);go_enter func29,ntmps29;go_wp2;refine Qz (([ς (some ⟨b,off,none⟩) 2 C,π (some ⟨b,off,none⟩),ξ #[ι κ k0,σ x0,σ y0,ς B0 c0.len D0],σ s0,σ (s0++(⟨#[32]⟩:ByteArray)),π (some ⟨w.heap.size,1,none⟩),σ x,σ ((s0++(⟨#[32]⟩:ByteArray))++x),σ (((s0++(⟨#[32]⟩:ByteArray))++x)++(⟨#[32]⟩:ByteArray)),ς (some ⟨b,off,none⟩) 2 C,π (some ⟨b,off+4,none⟩),ξ #[ι κ k1,σ x1,σ y1,ς B1 c1.len D1],σ s1,σ ((((s0++(⟨#[32]⟩:ByteArray))++x)++(⟨#[32]⟩:ByteArray))++s1),σ ((((s0++(⟨#[32]⟩:ByteArray))++x)++(⟨#[32]⟩:ByteArray))++s1)]:List Value).map Cd.is) ?steps ?behind
  case steps =>
    intro xv W hW;have hV:=hW;obtain⟨PM,PL,PK,PJ⟩:=HX.out W hV;obtain⟨Tn,Tm,Tj,Ti⟩:=XF.out W hV;obtain⟨Io,Im,Il,Df⟩:=XC.out W hV;have t0:=XQ.out W hV;have t1:=Lp.out W hV;refine⟨fun hd K hK=>?s0,fun hd K hK=>?s1,fun hd K hK=>?s2,fun hd K hK=>?s3,fun hd K hK=>?s4,fun hd K hK=>?s5,fun hd K hK=>?s6,fun hd K hK=>?s7,fun hd K hK=>?s8,fun hd K hK=>?s9,fun hd K hK=>?GH,fun hd K hK=>?Sg,fun hd K hK=>?Ik,fun hd K hK=>?vq,fun hd K hK=>?vp,trivial⟩;all_goals simp only[Act.put,VG,VF,VE]at hK
    case' s1=>rw[show xv 0=_ from hd 0]at hK⊢
    case' s2=>rw[show xv 1=_ from hd 1]at hK⊢
    case' s3=>rw[show xv 2=_ from hd 2]at hK⊢
    case' s4=>rw[show xv 3=_ from hd 3]at hK⊢
    case' s6=>rw[show xv 5=_ from hd 5]at hK⊢
    case' s7=>rw[show xv 4=_ from hd 4,show xv 6=_ from hd 6]at hK⊢
    case' s8=>rw[show xv 7=_ from hd 7]at hK⊢
    case' GH=>rw[show xv 9=_ from hd 9]at hK⊢
    case' Sg=>rw[show xv 10=_ from hd 10]at hK⊢
    case' Ik=>rw[show xv 11=_ from hd 11]at hK⊢
    case' vq=>rw[show xv 8=_ from hd 8,show xv 12=_ from hd 12]at hK⊢
    case' vp=>rw[show xv 13=_ from hd 13]at hK⊢
    all_goals clear hd
    all_goals go_simp
    all_goals first|exact hK.out _ _ (QF _ _) rfl|(rw[if_neg (by omega)];exact hK.out _ _ (QF _ _) rfl)|(go_at_call 29;(with_reducible refine t0.mono ?_);rintro e w' ⟨rfl,hb⟩;exact hK.out _ _ hb rfl)|(go_at_call 29;(with_reducible refine t1.mono ?_);rintro e w' ⟨rfl,hb⟩;exact hK.out _ _ hb rfl)
  case behind=>intro xv W hW hx;rw[show xv 14=_ from hx 14];have HE:=QN HB hW;clear hx hW;go_wp2;go_ret;exact⟨rfl,HE.out⟩
theorem Qrv(x y:ByteArray)(A:Option Addr)(n C:Nat)(k0:Int)(x0 y0:ByteArray)(c0:F)(w:World)(hf:Fs w (Lo w.heap.size) (ς A n C) (.cons k0 x0 y0 c0 (.nil)))(h0:Q0 k0 x0 y0 c0)(hsz:(sW 22 x (.cons k0 x0 y0 c0 (.nil))).size≤1000000) :
    Calls prog 29 #[ξ #[ι κ 22,σ x,σ y,ς A n C]] w fun e w'=>e=ρ (σ (sW 22 x (.cons k0 x0 y0 c0 (.nil))))∧Below w.heap.size w w':=by
  have hb:=Qb w (θ #[ι κ 22,σ x,σ y,ς A n C] 24);obtain⟨b,off,B0,D0,rfl,hc0,hw0⟩:=Y8 hf h0 hb;obtain rfl:n=1:=Z5 hf;have HX:=QA (Zp w 22 x y (ς (some ⟨b,off,none⟩) 1 C));have HB:=QA hb;have XF:=QA hc0;rw[eU]at hsz⊢;generalize sW k0 x0 c0=s0 at *;simp only[VT]at hsz;have hx:x.size≤1000000:=by omega
  have hs0:s0.size≤1000000:=by omega
  have XQ:=QA hw0;clear hf hb hsz h0 hc0 hw0;obtain⟨KJ,KI,KH,KG⟩:=HX.out _ (QF _ _);go_enter func29,ntmps29;go_wp2;refine Qz (([ς (some ⟨b,off,none⟩) 1 C,π (some ⟨b,off,none⟩),ξ #[ι κ k0,σ x0,σ y0,ς B0 c0.len D0],σ s0,π (some ⟨w.heap.size,1,none⟩),σ x,σ (s0++x),σ (s0++x)]:List Value).map Cd.is) ?steps ?behind
  case steps =>
    intro xv W hW;have hV:=hW;obtain⟨PM,PL,PK,PJ⟩:=HX.out W hV;obtain⟨Tn,Tm,Tj,Ti⟩:=XF.out W hV;have t0:=XQ.out W hV;refine⟨fun hd K hK=>?s0,fun hd K hK=>?s1,fun hd K hK=>?s2,fun hd K hK=>?s3,fun hd K hK=>?s4,fun hd K hK=>?s5,fun hd K hK=>?s6,fun hd K hK=>?s7,trivial⟩;all_goals simp only[Act.put,VG,VF,VE]at hK
    case' s1=>rw[show xv 0=_ from hd 0]at hK⊢
    case' s2=>rw[show xv 1=_ from hd 1]at hK⊢
    case' s3=>rw[show xv 2=_ from hd 2]at hK⊢
    case' s5=>rw[show xv 4=_ from hd 4]at hK⊢
    case' s6=>rw[show xv 3=_ from hd 3,show xv 5=_ from hd 5]at hK⊢
    case' s7=>rw[show xv 6=_ from hd 6]at hK⊢
    all_goals clear hd
    all_goals go_simp
    all_goals first|exact hK.out _ _ (QF _ _) rfl|(rw[if_neg (by omega)];exact hK.out _ _ (QF _ _) rfl)|(go_at_call 29;(with_reducible refine t0.mono ?_);rintro e w' ⟨rfl,hb⟩;exact hK.out _ _ hb rfl)
  case behind=>intro xv W hW hx;rw[show xv 7=_ from hx 7];have HE:=QN HB hW;clear hx hW;go_wp2;go_ret;exact⟨rfl,HE.out⟩
theorem Qwn(x y:ByteArray)(A:Option Addr)(n C:Nat)(k0 k1:Int)(x0 y0 x1 y1:ByteArray)(c0 c1:F)(w:World)(hf:Fs w (Lo w.heap.size) (ς A n C) (.cons k0 x0 y0 c0 (.cons k1 x1 y1 c1 (.nil))))(h0:Q0 k0 x0 y0 c0)(h1:Q0 k1 x1 y1 c1)(hsz:(sW 5 x (.cons k0 x0 y0 c0 (.cons k1 x1 y1 c1 (.nil)))).size≤1000000) :
    Calls prog 29 #[ξ #[ι κ 5,σ x,σ y,ς A n C]] w fun e w'=>e=ρ (σ (sW 5 x (.cons k0 x0 y0 c0 (.cons k1 x1 y1 c1 (.nil)))))∧Below w.heap.size w w':=by
  have hb:=Qb w (θ #[ι κ 5,σ x,σ y,ς A n C] 24);obtain⟨b,off,B0,D0,rfl,hc0,hw0⟩:=Y8 hf h0 hb;obtain⟨B1,D1,hc1,hw1⟩:=DY hf h1 hb;obtain rfl:n=2:=Z5 hf;have HX:=QA (Zp w 5 x y (ς (some ⟨b,off,none⟩) 2 C));have HB:=QA hb;have XF:=QA hc0;have XC:=QA hc1;have hsw:=cP x k0 k1 x0 y0 x1 y1 c0 c1 _ rfl;rw[hsw]at hsz⊢;clear hsw;generalize sW k0 x0 c0=s0 at *;generalize sW k1 x1 c1=s1 at *;have XQ:=QA hw0;have Lp:=QA hw1;clear hf hb h0 hc0 hw0 h1 hc1 hw1;by_cases g0:k0=33
  ·rw[if_pos g0]at hsz⊢;by_cases g1:k1=33
   ·rw[if_pos g1]at hsz⊢;simp only[VT]at hsz;have hx:x.size≤1000000:=by omega
    subst g0;subst g1;clear hsz;obtain⟨KJ,KI,KH,KG⟩:=HX.out _ (QF _ _);obtain⟨YQ,YP,YO,YN⟩:=XF.out _ (QF _ _);obtain⟨EO,EN,EM,EL⟩:=XC.out _ (QF _ _);go_enter func29,ntmps29;go_wp2;go_ret;exact⟨rfl,HB.out⟩
   ·rw[if_neg g1]at hsz⊢;simp only[VT]at hsz;have hx:x.size≤1000000:=by omega
    have hs1:s1.size≤1000000:=by omega
    subst g0;have e1:(k1==33)=false:=by simpa using g1
    clear hsz;obtain⟨KJ,KI,KH,KG⟩:=HX.out _ (QF _ _);obtain⟨YQ,YP,YO,YN⟩:=XF.out _ (QF _ _);obtain⟨EO,EN,EM,EL⟩:=XC.out _ (QF _ _);go_enter func29,ntmps29;go_wp2_with fail;refine c₁ (Lp.out _ (QF _ _)) fun w3 hb=>?_;have MA:=QA (hb);clear hb;go_wp2;go_ret;exact⟨rfl,HB.out.trans (MA.out.mono HB.out.size)⟩
  ·rw[if_neg g0]at hsz⊢;by_cases g1:k1=33
   ·rw[if_pos g1]at hsz⊢;simp only[VT]at hsz;have hx:x.size≤1000000:=by omega
    have hs0:s0.size≤1000000:=by omega
    have e0:(k0==33)=false:=by simpa using g0
    subst g1;clear hsz;obtain⟨KJ,KI,KH,KG⟩:=HX.out _ (QF _ _);obtain⟨YQ,YP,YO,YN⟩:=XF.out _ (QF _ _);obtain⟨EO,EN,EM,EL⟩:=XC.out _ (QF _ _);go_enter func29,ntmps29;go_wp2_with fail;refine c₁ (XQ.out _ (QF _ _)) fun w2 hb=>?_;have XK:=QA (hb);clear hb;clear KJ KI KH KG YQ YP YO YN EO EN EM EL;obtain⟨KJ,KI,KH,KG⟩:=HX.out _ XK.out;obtain⟨YQ,YP,YO,YN⟩:=XF.out _ XK.out;obtain⟨EO,EN,EM,EL⟩:=XC.out _ XK.out;go_wp2;go_ret;exact⟨rfl,HB.out.trans (XK.out.mono HB.out.size)⟩
   ·rw[if_neg g1]at hsz⊢;simp only[VT]at hsz;have hx:x.size≤1000000:=by omega
    have hs0:s0.size≤1000000:=by omega
    have hs1:s1.size≤1000000:=by omega
    have e0:(k0==33)=false:=by simpa using g0
    have e1:(k1==33)=false:=by simpa using g1
    clear hsz;obtain⟨KJ,KI,KH,KG⟩:=HX.out _ (QF _ _);obtain⟨YQ,YP,YO,YN⟩:=XF.out _ (QF _ _);obtain⟨EO,EN,EM,EL⟩:=XC.out _ (QF _ _);go_enter func29,ntmps29;go_wp2_with fail;refine c₁ (XQ.out _ (QF _ _)) fun w2 hb=>?_;have XK:=QA (hb);clear hb;clear KJ KI KH KG YQ YP YO YN EO EN EM EL;obtain⟨KJ,KI,KH,KG⟩:=HX.out _ XK.out;obtain⟨YQ,YP,YO,YN⟩:=XF.out _ XK.out;obtain⟨EO,EN,EM,EL⟩:=XC.out _ XK.out;go_wp2_with fail;refine c₁ (Lp.out _ XK.out) fun w3 hb=>?_;have MA:=QN XK hb;clear hb;go_wp2;go_ret;exact⟨rfl,HB.out.trans (MA.out.mono HB.out.size)⟩
theorem Qrz(x y:ByteArray)(A:Option Addr)(n C:Nat)(k0 k1 k2:Int)(x0 y0 x1 y1 x2 y2:ByteArray)(c0 c1 c2:F)(w:World)(hf:Fs w (Lo w.heap.size) (ς A n C) (.cons k0 x0 y0 c0 (.cons k1 x1 y1 c1 (.cons k2 x2 y2 c2 (.nil)))))(h0:Q0 k0 x0 y0 c0)(h1:Q0 k1 x1 y1 c1)(h2:Q0 k2 x2 y2 c2)(hsz:(sW 18 x (.cons k0 x0 y0 c0 (.cons k1 x1 y1 c1 (.cons k2 x2 y2 c2 (.nil))))).size≤1000000) :
    Calls prog 29 #[ξ #[ι κ 18,σ x,σ y,ς A n C]] w fun e w'=>e=ρ (σ (sW 18 x (.cons k0 x0 y0 c0 (.cons k1 x1 y1 c1 (.cons k2 x2 y2 c2 (.nil))))))∧Below w.heap.size w w':=by
  have hb:=Qb w (θ #[ι κ 18,σ x,σ y,ς A n C] 24);obtain⟨b,off,B0,D0,rfl,hc0,hw0⟩:=Y8 hf h0 hb;obtain⟨B1,D1,hc1,hw1⟩:=DY hf h1 hb;obtain⟨B2,D2,hc2,hw2⟩:=cD hf h2 hb;obtain rfl:n=3:=Z5 hf;have HX:=QA (Zp w 18 x y (ς (some ⟨b,off,none⟩) 3 C));have HB:=QA hb;have XF:=QA hc0;have XC:=QA hc1;have Lq:=QA hc2;have hsw:=ly x k0 k1 k2 x0 y0 x1 y1 x2 y2 c0 c1 c2 _ rfl;rw[hsw]at hsz⊢;clear hsw;generalize sW k0 x0 c0=s0 at *;generalize sW k1 x1 c1=s1 at *;generalize sW k2 x2 c2=s2 at *;have XQ:=QA hw0;have Lp:=QA hw1;have CL:=QA hw2;clear hf hb h0 hc0 hw0 h1 hc1 hw1 h2 hc2 hw2;have ZH:s0.size+s1.size≤900000+100000:=by
    by_cases g2:k2=33
    ·rw[if_pos g2]at hsz;simp only[VT]at hsz;omega
    ·rw[if_neg g2]at hsz;simp only[VT]at hsz;omega
  generalize ht:(ite (k2=33) _ _:ByteArray)=t at hsz⊢;obtain⟨KJ,KI,KH,KG⟩:=HX.out _ (QF _ _);go_enter func29,ntmps29;go_wp2;refine Qz (([ς (some ⟨b,off,none⟩) 3 C,π (some ⟨b,off,none⟩),ξ #[ι κ k0,σ x0,σ y0,ς B0 c0.len D0],σ s0,σ ((⟨#[105,102,32]⟩:ByteArray)++s0),σ (((⟨#[105,102,32]⟩:ByteArray)++s0)++(⟨#[32]⟩:ByteArray)),ς (some ⟨b,off,none⟩) 3 C,π (some ⟨b,off+4,none⟩),ξ #[ι κ k1,σ x1,σ y1,ς B1 c1.len D1],σ s1,σ ((((⟨#[105,102,32]⟩:ByteArray)++s0)++(⟨#[32]⟩:ByteArray))++s1),σ ((((⟨#[105,102,32]⟩:ByteArray)++s0)++(⟨#[32]⟩:ByteArray))++s1)]:List Value).map Cd.is) ?steps ?behind
  case steps =>
    intro xv W hW;have hV:=hW;obtain⟨PM,PL,PK,PJ⟩:=HX.out W hV;obtain⟨Tn,Tm,Tj,Ti⟩:=XF.out W hV;obtain⟨Io,Im,Il,Df⟩:=XC.out W hV;obtain⟨yX,yV,yU,yT⟩:=Lq.out W hV;have t0:=XQ.out W hV;have t1:=Lp.out W hV;refine⟨fun hd K hK=>?s0,fun hd K hK=>?s1,fun hd K hK=>?s2,fun hd K hK=>?s3,fun hd K hK=>?s4,fun hd K hK=>?s5,fun hd K hK=>?s6,fun hd K hK=>?s7,fun hd K hK=>?s8,fun hd K hK=>?s9,fun hd K hK=>?GH,fun hd K hK=>?Sg,trivial⟩;all_goals simp only[Act.put,VG,VF,VE]at hK
    case' s1=>rw[show xv 0=_ from hd 0]at hK⊢
    case' s2=>rw[show xv 1=_ from hd 1]at hK⊢
    case' s3=>rw[show xv 2=_ from hd 2]at hK⊢
    case' s4=>rw[show xv 3=_ from hd 3]at hK⊢
    case' s5=>rw[show xv 4=_ from hd 4]at hK⊢
    case' s7=>rw[show xv 6=_ from hd 6]at hK⊢
    case' s8=>rw[show xv 7=_ from hd 7]at hK⊢
    case' s9=>rw[show xv 8=_ from hd 8]at hK⊢
    case' GH=>rw[show xv 5=_ from hd 5,show xv 9=_ from hd 9]at hK⊢
    case' Sg=>rw[show xv 10=_ from hd 10]at hK⊢
    all_goals clear hd
    all_goals go_simp
    all_goals first|exact hK.out _ _ (QF _ _) rfl|(rw[if_neg (by omega)];exact hK.out _ _ (QF _ _) rfl)|(go_at_call 29;(with_reducible refine t0.mono ?_);rintro e w' ⟨rfl,hb⟩;exact hK.out _ _ hb rfl)|(go_at_call 29;(with_reducible refine t1.mono ?_);rintro e w' ⟨rfl,hb⟩;exact hK.out _ _ hb rfl)
  case behind =>
    intro xv W hW hx;rw[show xv 11=_ from hx 11];have hb:=hW;have XK:=QA hb;clear hx hW hb;clear KJ KI KH KG;obtain⟨KJ,KI,KH,KG⟩:=HX.out _ XK.out;obtain⟨YQ,YP,YO,YN⟩:=XF.out _ XK.out;obtain⟨EO,EN,EM,EL⟩:=XC.out _ XK.out;obtain⟨Y',YZ,p32,SN⟩:=Lq.out _ XK.out;by_cases g2:k2=33
    ·rw[if_pos g2]at ht;subst ht;simp only[VT]at hsz;subst g2;clear hsz;go_wp2;go_ret;exact⟨rfl,HB.out.trans (XK.out.mono HB.out.size)⟩
    ·rw[if_neg g2]at ht;subst ht;simp only[VT]at hsz;have hs2:s2.size≤1000000:=by omega
     have e2:(k2==33)=false:=by simpa using g2
     clear hsz;go_wp2_with fail;refine c₁ (CL.out _ XK.out) fun w3 hb=>?_;have MA:=QN XK hb;clear hb;go_wp2;go_ret;exact⟨rfl,HB.out.trans (MA.out.mono HB.out.size)⟩
theorem Qry(x y:ByteArray)(A:Option Addr)(n C:Nat)(k0 k1:Int)(x0 y0 x1 y1:ByteArray)(c0 c1:F)(w:World)(hf:Fs w (Lo w.heap.size) (ς A n C) (.cons k0 x0 y0 c0 (.cons k1 x1 y1 c1 (.nil))))(h0:Q0 k0 x0 y0 c0)(h1:Q0 k1 x1 y1 c1)(hsz:(sW 19 x (.cons k0 x0 y0 c0 (.cons k1 x1 y1 c1 (.nil)))).size≤1000000) :
    Calls prog 29 #[ξ #[ι κ 19,σ x,σ y,ς A n C]] w fun e w'=>e=ρ (σ (sW 19 x (.cons k0 x0 y0 c0 (.cons k1 x1 y1 c1 (.nil)))))∧Below w.heap.size w w':=by
  have hb:=Qb w (θ #[ι κ 19,σ x,σ y,ς A n C] 24);obtain⟨b,off,B0,D0,rfl,hc0,hw0⟩:=Y8 hf h0 hb;obtain⟨B1,D1,hc1,hw1⟩:=DY hf h1 hb;obtain rfl:n=2:=Z5 hf;have HX:=QA (Zp w 19 x y (ς (some ⟨b,off,none⟩) 2 C));have HB:=QA hb;have XF:=QA hc0;have XC:=QA hc1;rw[lA]at hsz⊢;generalize sW k0 x0 c0=s0 at *;generalize sW k1 x1 c1=s1 at *;have XQ:=QA hw0;have Lp:=QA hw1;clear hf hb h0 hc0 hw0 h1 hc1 hw1;by_cases g0:k0=33
  ·rw[if_pos g0]at hsz⊢;simp only[VT]at hsz;have hs1:s1.size≤1000000:=by omega
   subst g0;clear hsz;obtain⟨KJ,KI,KH,KG⟩:=HX.out _ (QF _ _);obtain⟨YQ,YP,YO,YN⟩:=XF.out _ (QF _ _);obtain⟨EO,EN,EM,EL⟩:=XC.out _ (QF _ _);go_enter func29,ntmps29;go_wp2_with fail;refine c₁ (Lp.out _ (QF _ _)) fun w2 hb=>?_;have XK:=QA (hb);clear hb;go_wp2;go_ret;exact⟨rfl,HB.out.trans (XK.out.mono HB.out.size)⟩
  ·rw[if_neg g0]at hsz⊢;simp only[VT]at hsz;have hs0:s0.size≤1000000:=by omega
   have hs1:s1.size≤1000000:=by omega
   have e0:(k0==33)=false:=by simpa using g0
   clear hsz;obtain⟨KJ,KI,KH,KG⟩:=HX.out _ (QF _ _);obtain⟨YQ,YP,YO,YN⟩:=XF.out _ (QF _ _);go_enter func29,ntmps29;go_wp2;clear KJ KI KH KG YQ YP YO YN;refine Qz (([ς (some ⟨b,off,none⟩) 2 C,π (some ⟨b,off,none⟩),ξ #[ι κ k0,σ x0,σ y0,ς B0 c0.len D0],σ s0,σ ((⟨#[102,111,114,32]⟩:ByteArray)++s0),σ (((⟨#[102,111,114,32]⟩:ByteArray)++s0)++(⟨#[32]⟩:ByteArray)),ς (some ⟨b,off,none⟩) 2 C,π (some ⟨b,off+4,none⟩),ξ #[ι κ k1,σ x1,σ y1,ς B1 c1.len D1],σ s1,σ ((((⟨#[102,111,114,32]⟩:ByteArray)++s0)++(⟨#[32]⟩:ByteArray))++s1),σ ((((⟨#[102,111,114,32]⟩:ByteArray)++s0)++(⟨#[32]⟩:ByteArray))++s1)]:List Value).map Cd.is) ?steps ?behind
   case steps =>
     intro xv W hW;have hV:=hW;obtain⟨PM,PL,PK,PJ⟩:=HX.out W hV;obtain⟨Tn,Tm,Tj,Ti⟩:=XF.out W hV;obtain⟨Io,Im,Il,Df⟩:=XC.out W hV;have t0:=XQ.out W hV;have t1:=Lp.out W hV;refine⟨fun hd K hK=>?s0,fun hd K hK=>?s1,fun hd K hK=>?s2,fun hd K hK=>?s3,fun hd K hK=>?s4,fun hd K hK=>?s5,fun hd K hK=>?s6,fun hd K hK=>?s7,fun hd K hK=>?s8,fun hd K hK=>?s9,fun hd K hK=>?GH,fun hd K hK=>?Sg,trivial⟩;all_goals simp only[Act.put,VG,VF,VE]at hK
     case' s1=>rw[show xv 0=_ from hd 0]at hK⊢
     case' s2=>rw[show xv 1=_ from hd 1]at hK⊢
     case' s3=>rw[show xv 2=_ from hd 2]at hK⊢
     case' s4=>rw[show xv 3=_ from hd 3]at hK⊢
     case' s5=>rw[show xv 4=_ from hd 4]at hK⊢
     case' s7=>rw[show xv 6=_ from hd 6]at hK⊢
     case' s8=>rw[show xv 7=_ from hd 7]at hK⊢
     case' s9=>rw[show xv 8=_ from hd 8]at hK⊢
     case' GH=>rw[show xv 5=_ from hd 5,show xv 9=_ from hd 9]at hK⊢
     case' Sg=>rw[show xv 10=_ from hd 10]at hK⊢
     all_goals clear hd
     all_goals go_simp
     all_goals first|exact hK.out _ _ (QF _ _) rfl|(rw[if_neg (by omega)];exact hK.out _ _ (QF _ _) rfl)|(go_at_call 29;(with_reducible refine t0.mono ?_);rintro e w' ⟨rfl,hb⟩;exact hK.out _ _ hb rfl)|(go_at_call 29;(with_reducible refine t1.mono ?_);rintro e w' ⟨rfl,hb⟩;exact hK.out _ _ hb rfl)
   case behind=>intro xv W hW hx;rw[show xv 11=_ from hx 11];have HE:=QN HB hW;clear hx hW;go_wp2;go_ret;exact⟨rfl,HE.out⟩
theorem Qwl(x y:ByteArray)(A:Option Addr)(n C:Nat)(k0 k2 k3:Int)(x0 y0 x1 y1 x2 y2 x3 y3:ByteArray)(c0 c1 c2 c3:F)(w:World)(hf:Fs w (Lo w.heap.size) (ς A n C) (.cons k0 x0 y0 c0 (.cons 15 x1 y1 c1 (.cons k2 x2 y2 c2 (.cons k3 x3 y3 c3 (.nil))))))(h0:Q0 k0 x0 y0 c0)(h2:Q0 k2 x2 y2 c2)(h3:Q0 k3 x3 y3 c3)(h1:E7 c1)(hsz:(sW 7 x (.cons k0 x0 y0 c0 (.cons 15 x1 y1 c1 (.cons k2 x2 y2 c2 (.cons k3 x3 y3 c3 (.nil)))))).size≤1000000) :
    Calls prog 29 #[ξ #[ι κ 7,σ x,σ y,ς A n C]] w fun e w'=>e=ρ (σ (sW 7 x (.cons k0 x0 y0 c0 (.cons 15 x1 y1 c1 (.cons k2 x2 y2 c2 (.cons k3 x3 y3 c3 (.nil)))))))∧Below w.heap.size w w':=by
  have hb:=Qb w (θ #[ι κ 7,σ x,σ y,ς A n C] 24);obtain⟨b,off,B0,D0,rfl,hc0,hw0⟩:=Y8 hf h0 hb;obtain⟨B1,D1,hc1,hk1⟩:=dg hf hb;obtain⟨B2,D2,hc2,hw2⟩:=cD hf h2 hb;obtain⟨B3,D3,hc3,hw3⟩:=Q3n hf h3 hb;obtain rfl:n=4:=Z5 hf;have HX:=QA (Zp w 7 x y (ς (some ⟨b,off,none⟩) 4 C));have HB:=QA hb;have XF:=QA hc0;have XC:=QA hc1;have Lq:=QA hc2;have MH:=QA hc3;have hsw:=cR x k0 k2 k3 x0 y0 x1 y1 x2 y2 x3 y3 c0 c1 c2 c3 _ _ rfl rfl;rw[hsw]at hsz⊢;clear hsw;generalize sW k0 x0 c0=s0 at *;generalize sW k2 x2 c2=s2 at *;generalize sW k3 x3 c3=s3 at *;have XQ:=QA hw0;have CL:=QA hw2;have ME:=QA hw3;have HM:Hid (∀W,Below (w.alloc (θ #[ι κ 7,σ x,σ y,ς (some ⟨b,off,none⟩) 4 C] 24)).heap.size (w.alloc (θ #[ι κ 7,σ x,σ y,ς (some ⟨b,off,none⟩) 4 C] 24)) W→Calls prog 53 #[ς B1 c1.len D1] W fun e w'=>e=ρ (σ (sM c1))∧Below W.heap.size W w'):=fun W hW=>h1 B1 _ D1 W (hk1.later (hb.trans (hW.mono hb.size)))
  generalize sM c1=m1 at *;clear hf hb h0 hc0 hw0 h1 hc1 hk1 h2 hc2 hw2 h3 hc3 hw3;obtain⟨p,hp⟩:∃p,(if k0=33 then(⟨#[102,117,110,99,32]⟩:ByteArray)else(((⟨#[102,117,110,99,32]⟩:ByteArray)++(⟨#[40]⟩:ByteArray))++s0)++(⟨#[41,32]⟩:ByteArray))=p:=⟨_,rfl⟩;rw[hp]at hsz⊢;generalize ht:((ite (k2=33) _ _:ByteArray)++s3)=t at hsz⊢;obtain⟨hq1,hq2⟩:p.size+x.size+m1.size+s3.size+6≤1000010∧(k2=33∨s2.size≤1000000)∧(k2≠33→p.size+x.size+m1.size+s2.size+s3.size≤1000000):=by
    rw[←ht]at hsz;by_cases g2:k2=33
    ·rw[if_pos g2]at hsz;simp only[VT]at hsz;exact⟨by have e1:(⟨#[40]⟩:ByteArray).size=1:=rfl;have e2:(⟨#[41,32]⟩:ByteArray).size=2:=rfl;omega,.inl g2,fun h=>absurd g2 h⟩
    ·rw[if_neg g2]at hsz;simp only[VT]at hsz;exact⟨by have e1:(⟨#[40]⟩:ByteArray).size=1:=rfl;have e2:(⟨#[41,32]⟩:ByteArray).size=2:=rfl;omega,.inr (by omega),fun _=>by omega⟩
  by_cases g0:k0=33
  ·rw[if_pos g0]at hp;subst g0;obtain⟨KJ,KI,KH,KG⟩:=HX.out _ (QF _ _);obtain⟨YQ,YP,YO,YN⟩:=XF.out _ (QF _ _);obtain⟨EO,EN,EM,EL⟩:=XC.out _ (QF _ _);obtain⟨Y',YZ,p32,SN⟩:=Lq.out _ (QF _ _);obtain⟨Tu,Tt,Tq,Tp⟩:=MH.out _ (QF _ _);go_enter func29,ntmps29;go_wp2;clear KJ KI KH KG YQ YP YO YN EO EN EM EL Y' YZ p32 SN Tu Tt Tq Tp
   (try rw[hp])
   refine mY 0 (fun _=>True) (fun W W'=>Below W.heap.size W W') (([σ p,π (some ⟨w.heap.size,1,none⟩),σ x,σ (p++x),σ ((p++x)++(⟨#[40]⟩:ByteArray)),ς (some ⟨b,off,none⟩) 4 C,π (some ⟨b,off+4,none⟩),π (some ⟨b,off+4+3,none⟩),ς B1 c1.len D1,σ m1,σ (((p++x)++(⟨#[40]⟩:ByteArray))++m1),σ ((((p++x)++(⟨#[40]⟩:ByteArray))++m1)++(⟨#[41,32]⟩:ByteArray)),σ ((((p++x)++(⟨#[40]⟩:ByteArray))++m1)++(⟨#[41,32]⟩:ByteArray))]:List Value).map Cd.is) (by kernel_rfl) (by decide) (by kernel_rfl) trivial (QF _ _) (fun _ _ _ h k=>h.trans (k.mono h.size)) ?Da ?Mt
   case Da =>
     intro xv W hW a ha;replace hW:=VI hW;simp only[Q6]at ha;simp only[VG,VF,VE,JN,Nat.reduceAdd]at ha;subst ha;have hV:=hW;obtain⟨PM,PL,PK,PJ⟩:=HX.out W hV;obtain⟨Tn,Tm,Tj,Ti⟩:=XF.out W hV;obtain⟨Io,Im,Il,Df⟩:=XC.out W hV;obtain⟨yX,yV,yU,yT⟩:=Lq.out W hV;obtain⟨bX,bW,bV,bU⟩:=MH.out W hV;have qz:W.cell? ⟨b,off+4+3,none⟩=some (ς B1 c1.len D1):=Df;have t0:=HM.out W hV;refine⟨fun hI hS hd K hK=>?bP,fun hI hS hd K hK=>?sa1,fun hI hS hd K hK=>?bO,fun hI hS hd K hK=>?bN,fun hI hS hd K hK=>?bM,fun hI hS hd K hK=>?sa5,fun hI hS hd K hK=>?bL,fun hI hS hd K hK=>?bK,fun hI hS hd K hK=>?bJ,fun hI hS hd K hK=>?bI,fun hI hS hd K hK=>?vo,fun hI hS hd K hK=>?vk,fun hI hS hd K hK=>?vh,trivial⟩;all_goals simp only[Act.put,VG,VF,VE]at hK
     case' bO=>rw[show xv 1=_ from hd 1 (by kernel_rfl)]at hK⊢
     case' bN=>rw[show xv 0=_ from hd 0 (by kernel_rfl),show xv 2=_ from hd 2 (by kernel_rfl)]at hK⊢
     case' bM=>rw[show xv 3=_ from hd 3 (by kernel_rfl)]at hK⊢
     case' bL=>rw[show xv 5=_ from hd 5 (by kernel_rfl)]at hK⊢
     case' bK=>rw[show xv 6=_ from hd 6 (by kernel_rfl)]at hK⊢
     case' bJ=>rw[show xv 7=_ from hd 7 (by kernel_rfl)]at hK⊢
     case' bI=>rw[show xv 8=_ from hd 8 (by kernel_rfl)]at hK⊢
     case' vo=>rw[show xv 4=_ from hd 4 (by kernel_rfl),show xv 9=_ from hd 9 (by kernel_rfl)]at hK⊢
     case' vk=>rw[show xv 10=_ from hd 10 (by kernel_rfl)]at hK⊢
     case' vh=>rw[show xv 11=_ from hd 11 (by kernel_rfl)]at hK⊢
     case' bP=>rw[show xv 12=σ p from hI 12 (by kernel_rfl)]at hK⊢
     all_goals clear hd hI hS
     all_goals refine(if_pos (by rfl)).mpr ?_
     all_goals go_simp
     all_goals first|exact hK.out _ _ (QF _ _) (.inr id) rfl|(rw[if_neg (by omega)];exact hK.out _ _ (QF _ _) (.inr id) rfl)|(go_at_call 53;(with_reducible refine t0.mono ?_);rintro e w' ⟨rfl,hb⟩;exact hK.out _ _ hb (.inr id) rfl)
   case Mt =>
     intro xv W hW hx a ha;replace hW:=VI hW;simp only[Q6]at ha;simp only[VG,VF,VE,JN,Nat.reduceAdd]at ha;subst ha;rw[show xv 12=_ from hx 12 (by decide)];have hb:=hW;have LR:=QA (hb);clear hx hW hb;obtain⟨KJ,KI,KH,KG⟩:=HX.out _ LR.out;obtain⟨YQ,YP,YO,YN⟩:=XF.out _ LR.out;obtain⟨EO,EN,EM,EL⟩:=XC.out _ LR.out;obtain⟨Y',YZ,p32,SN⟩:=Lq.out _ LR.out;obtain⟨Tu,Tt,Tq,Tp⟩:=MH.out _ LR.out;by_cases g2:k2=33
     ·rw[if_pos g2]at ht;subst ht;subst g2;clear hq2;go_wp2_with fail;refine c₁ (ME.out _ LR.out) fun wB hb=>?_;have LQ:=QN LR hb;clear hb;go_wp2;go_ret;exact⟨rfl,HB.out.trans (LQ.out.mono HB.out.size)⟩
     ·rw[if_neg g2]at ht;subst ht;have XA:=hq2.2 g2;have e2:(k2==33)=false:=by simpa using g2
      clear hq2;go_wp2_with fail;refine c₁ (CL.out _ LR.out) fun wB hb=>?_;have LQ:=QN LR hb;clear hb;clear KJ KI KH KG YQ YP YO YN EO EN EM EL Y' YZ p32 SN Tu Tt Tq Tp;obtain⟨KJ,KI,KH,KG⟩:=HX.out _ LQ.out;obtain⟨YQ,YP,YO,YN⟩:=XF.out _ LQ.out;obtain⟨EO,EN,EM,EL⟩:=XC.out _ LQ.out;obtain⟨Y',YZ,p32,SN⟩:=Lq.out _ LQ.out;obtain⟨Tu,Tt,Tq,Tp⟩:=MH.out _ LQ.out;go_wp2_with fail;refine c₁ (ME.out _ LQ.out) fun wC hb=>?_;have gX:=QN LQ hb;clear hb;go_wp2;go_ret;exact⟨rfl,HB.out.trans (gX.out.mono HB.out.size)⟩
  ·rw[if_neg g0]at hp;have e0:(k0==33)=false:=by simpa using g0
   have hs0:s0.size≤1000010:=by rw[←hp]at hq1;simp only[VT]at hq1;omega
   obtain⟨KJ,KI,KH,KG⟩:=HX.out _ (QF _ _);obtain⟨YQ,YP,YO,YN⟩:=XF.out _ (QF _ _);obtain⟨EO,EN,EM,EL⟩:=XC.out _ (QF _ _);obtain⟨Y',YZ,p32,SN⟩:=Lq.out _ (QF _ _);obtain⟨Tu,Tt,Tq,Tp⟩:=MH.out _ (QF _ _);go_enter func29,ntmps29;go_wp2_with fail;refine c₁ (XQ.out _ (QF _ _)) fun w2 hb=>?_;have XK:=QA (hb);clear hb;clear KJ KI KH KG YQ YP YO YN EO EN EM EL Y' YZ p32 SN Tu Tt Tq Tp;obtain⟨KJ,KI,KH,KG⟩:=HX.out _ XK.out;obtain⟨YQ,YP,YO,YN⟩:=XF.out _ XK.out;obtain⟨EO,EN,EM,EL⟩:=XC.out _ XK.out;obtain⟨Y',YZ,p32,SN⟩:=Lq.out _ XK.out;obtain⟨Tu,Tt,Tq,Tp⟩:=MH.out _ XK.out;go_wp2;clear KJ KI KH KG YQ YP YO YN EO EN EM EL Y' YZ p32 SN Tu Tt Tq Tp
   (try rw[hp])
   refine mY 0 (fun _=>True) (fun W W'=>Below W.heap.size W W') (([σ p,π (some ⟨w.heap.size,1,none⟩),σ x,σ (p++x),σ ((p++x)++(⟨#[40]⟩:ByteArray)),ς (some ⟨b,off,none⟩) 4 C,π (some ⟨b,off+4,none⟩),π (some ⟨b,off+4+3,none⟩),ς B1 c1.len D1,σ m1,σ (((p++x)++(⟨#[40]⟩:ByteArray))++m1),σ ((((p++x)++(⟨#[40]⟩:ByteArray))++m1)++(⟨#[41,32]⟩:ByteArray)),σ ((((p++x)++(⟨#[40]⟩:ByteArray))++m1)++(⟨#[41,32]⟩:ByteArray))]:List Value).map Cd.is) (by kernel_rfl) (by decide) (by kernel_rfl) trivial (QF _ _) (fun _ _ _ h k=>h.trans (k.mono h.size)) ?CZ ?Ms
   case CZ =>
     intro xv W hW a ha;replace hW:=VI hW;simp only[Q6]at ha;simp only[VG,VF,VE,JN,Nat.reduceAdd]at ha;subst ha;have hV:=XK.out.trans (hW.mono XK.out.size);obtain⟨PM,PL,PK,PJ⟩:=HX.out W hV;obtain⟨Tn,Tm,Tj,Ti⟩:=XF.out W hV;obtain⟨Io,Im,Il,Df⟩:=XC.out W hV;obtain⟨yX,yV,yU,yT⟩:=Lq.out W hV;obtain⟨bX,bW,bV,bU⟩:=MH.out W hV;have qz:W.cell? ⟨b,off+4+3,none⟩=some (ς B1 c1.len D1):=Df;have t0:=HM.out W hV;refine⟨fun hI hS hd K hK=>?sb0,fun hI hS hd K hK=>?sb1,fun hI hS hd K hK=>?bG,fun hI hS hd K hK=>?bF,fun hI hS hd K hK=>?bE,fun hI hS hd K hK=>?sb5,fun hI hS hd K hK=>?bD,fun hI hS hd K hK=>?bC,fun hI hS hd K hK=>?bB,fun hI hS hd K hK=>?bA,fun hI hS hd K hK=>?vg,fun hI hS hd K hK=>?ve,fun hI hS hd K hK=>?vd,trivial⟩;all_goals simp only[Act.put,VG,VF,VE]at hK
     case' bG=>rw[show xv 1=_ from hd 1 (by kernel_rfl)]at hK⊢
     case' bF=>rw[show xv 0=_ from hd 0 (by kernel_rfl),show xv 2=_ from hd 2 (by kernel_rfl)]at hK⊢
     case' bE=>rw[show xv 3=_ from hd 3 (by kernel_rfl)]at hK⊢
     case' bD=>rw[show xv 5=_ from hd 5 (by kernel_rfl)]at hK⊢
     case' bC=>rw[show xv 6=_ from hd 6 (by kernel_rfl)]at hK⊢
     case' bB=>rw[show xv 7=_ from hd 7 (by kernel_rfl)]at hK⊢
     case' bA=>rw[show xv 8=_ from hd 8 (by kernel_rfl)]at hK⊢
     case' vg=>rw[show xv 4=_ from hd 4 (by kernel_rfl),show xv 9=_ from hd 9 (by kernel_rfl)]at hK⊢
     case' ve=>rw[show xv 10=_ from hd 10 (by kernel_rfl)]at hK⊢
     case' vd=>rw[show xv 11=_ from hd 11 (by kernel_rfl)]at hK⊢
     case' sb0=>rw[show xv 12=σ p from hI 12 (by kernel_rfl)]at hK⊢
     all_goals clear hd hI hS
     all_goals refine(if_pos (by rfl)).mpr ?_
     all_goals go_simp
     all_goals first|exact hK.out _ _ (QF _ _) (.inr id) rfl|(rw[if_neg (by omega)];exact hK.out _ _ (QF _ _) (.inr id) rfl)|(go_at_call 53;(with_reducible refine t0.mono ?_);rintro e w' ⟨rfl,hb⟩;exact hK.out _ _ hb (.inr id) rfl)
   case Ms =>
     intro xv W hW hx a ha;replace hW:=VI hW;simp only[Q6]at ha;simp only[VG,VF,VE,JN,Nat.reduceAdd]at ha;subst ha;rw[show xv 12=_ from hx 12 (by decide)];have hb:=hW;have LR:=QN XK hb;clear hx hW hb;obtain⟨KJ,KI,KH,KG⟩:=HX.out _ LR.out;obtain⟨YQ,YP,YO,YN⟩:=XF.out _ LR.out;obtain⟨EO,EN,EM,EL⟩:=XC.out _ LR.out;obtain⟨Y',YZ,p32,SN⟩:=Lq.out _ LR.out;obtain⟨Tu,Tt,Tq,Tp⟩:=MH.out _ LR.out;by_cases g2:k2=33
     ·rw[if_pos g2]at ht;subst ht;subst g2;clear hq2;go_wp2_with fail;refine c₁ (ME.out _ LR.out) fun wB hb=>?_;have LQ:=QN LR hb;clear hb;go_wp2;go_ret;exact⟨rfl,HB.out.trans (LQ.out.mono HB.out.size)⟩
     ·rw[if_neg g2]at ht;subst ht;have XA:=hq2.2 g2;have e2:(k2==33)=false:=by simpa using g2
      clear hq2;go_wp2_with fail;refine c₁ (CL.out _ LR.out) fun wB hb=>?_;have LQ:=QN LR hb;clear hb;clear KJ KI KH KG YQ YP YO YN EO EN EM EL Y' YZ p32 SN Tu Tt Tq Tp;obtain⟨KJ,KI,KH,KG⟩:=HX.out _ LQ.out;obtain⟨YQ,YP,YO,YN⟩:=XF.out _ LQ.out;obtain⟨EO,EN,EM,EL⟩:=XC.out _ LQ.out;obtain⟨Y',YZ,p32,SN⟩:=Lq.out _ LQ.out;obtain⟨Tu,Tt,Tq,Tp⟩:=MH.out _ LQ.out;go_wp2_with fail;refine c₁ (ME.out _ LQ.out) fun wC hb=>?_;have gX:=QN LQ hb;clear hb;go_wp2;go_ret;exact⟨rfl,HB.out.trans (gX.out.mono HB.out.size)⟩
theorem Qr3(x y:ByteArray)(A:Option Addr)(n C:Nat)(c:F)(w:World)(hf:Fs w (Lo w.heap.size) (ς A n C) c)(hB:kX c)(hsz:(sW 13 x c).size≤1000000) :
    Calls prog 29 #[ξ #[ι κ 13,σ x,σ y,ς A n C]] w fun e w'=>e=ρ (σ (sW 13 x c))∧Below w.heap.size w w':=by
  have b1:=(QF w.heap.size w).alloc (Nat.le_refl _) (θ #[ι κ 13,σ x,σ y,ς A n C] 24);obtain⟨q0,q1,q2,q3⟩:=Ug (heap_alloc_new w (θ #[ι κ 13,σ x,σ y,ς A n C] 24));have Tg:=QA (hB A n C _ (hf.later b1));have QJ:=QA b1;rw[lj]at hsz⊢;generalize sB c=sk at *;rw[VT]at hsz;have hs:sk.size≤1000000:=by omega
  clear hf hB b1 hsz;go_enter func29,ntmps29;go_wp2_with fail;refine c₁ Tg.out fun w2 hb=>?_;have HB:=QN QJ hb;clear hb;go_wp2;go_ret;exact⟨rfl,HB.out⟩
theorem Qr0(x y:ByteArray)(A:Option Addr)(n C:Nat)(c:F)(w:World)(hf:Fs w (Lo w.heap.size) (ς A n C) c)(hB:kX c) :
    Calls prog 29 #[ξ #[ι κ 17,σ x,σ y,ς A n C]] w fun e w'=>e=ρ (σ (sW 17 x c))∧Below w.heap.size w w':=by
  have b1:=(QF w.heap.size w).alloc (Nat.le_refl _) (θ #[ι κ 17,σ x,σ y,ς A n C] 24);obtain⟨q0,q1,q2,q3⟩:=Ug (heap_alloc_new w (θ #[ι κ 17,σ x,σ y,ς A n C] 24));have Tg:=QA (hB A n C _ (hf.later b1));have QJ:=QA b1;rw[lu];generalize sB c=sk at *;clear hf hB b1;go_enter func29,ntmps29;go_wp2_with fail;refine c₁ Tg.out fun w2 hb=>?_;have HB:=QN QJ hb;clear hb;go_wp2;go_ret;exact⟨rfl,HB.out⟩
theorem Qrx(x y:ByteArray)(A:Option Addr)(n C:Nat)(c:F)(w:World)(hf:Fs w (Lo w.heap.size) (ς A n C) c)(hB:E7 c)(hsz:(sW 20 x c).size≤1000000) :
    Calls prog 29 #[ξ #[ι κ 20,σ x,σ y,ς A n C]] w fun e w'=>e=ρ (σ (sW 20 x c))∧Below w.heap.size w w':=by
  have b1:=(QF w.heap.size w).alloc (Nat.le_refl _) (θ #[ι κ 20,σ x,σ y,ς A n C] 24);obtain⟨q0,q1,q2,q3⟩:=Ug (heap_alloc_new w (θ #[ι κ 20,σ x,σ y,ς A n C] 24));have Tg:=QA (hB A n C _ (hf.later b1));have QJ:=QA b1;have hlen:n=c.len:=by obtain⟨A0,C0,e,_,_⟩:=hf.slice;injection e
  cases c with
  |nil=>have hn:n=0:=hlen;subst hn;rw[Q0y];clear hf hB b1 hsz hlen Tg;go_enter func29,ntmps29;go_wp2;go_ret;exact⟨rfl,QJ.out⟩
  |cons k0 x0 y0 c0 r =>
   have hn:0<n:=by rw[hlen];simp[F.len]
   have JU:¬(n:Int)=0:=by omega
   have Ld:((n:Int)==0)=false:=by simpa using JU
   rw[lB]at hsz⊢;generalize sM (.cons k0 x0 y0 c0 r)=sk at *;rw[VT]at hsz;have hs:sk.size≤1000000:=by omega
   clear hf hB b1 hsz hlen;go_enter func29,ntmps29;go_wp2_with fail;refine c₁ Tg.out fun w2 hb=>?_;have HB:=QN QJ hb;clear hb;go_wp2;go_ret;exact⟨rfl,HB.out⟩
theorem tL(y:ByteArray):Q0 33 ⟨#[]⟩ y .nil:=fun A n C w hf=>by
  have hb:=Qb w (θ #[ι κ 33,σ ⟨#[]⟩,σ y,ς A n C] 24);obtain rfl:n=0:=Z5 hf;obtain⟨q0,q1,q2,q3⟩:=Zp w 33 ⟨#[]⟩ y (ς A 0 C) _ (QF _ _);have HB:=QA hb;have e:sW 33 ⟨#[]⟩ .nil=⟨#[]⟩:=by decide +kernel
  rw[e];clear hf hb e;go_enter func29,ntmps29;go_wp2;go_ret;exact⟨rfl,HB.out⟩
