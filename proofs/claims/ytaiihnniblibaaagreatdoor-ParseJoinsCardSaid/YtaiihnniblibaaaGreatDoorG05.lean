import Derived.Test.YtaiihnniblibaaaGreatDoorG04
import Derived.Lib.SlTrimSet
import Derived.Lib.SlBytesConst
set_option maxHeartbeats 4000000
set_option linter.unusedVariables false
open Go.Proofs.Tryz Go.ChangeShapes Go.WideShapes Go.ChangeAt Go.RowKit
open Go.Lib renaming hid→QA
open Go.Value renaming string→σ,int→ι,slice→ς,bool→τ,agg→ξ
open Go.IntKind renaming i64→κ
open Go.Obj renaming cells→θ
open Go.Ending renaming returned→ρ
namespace Go.Proofs.YtaiihnniblibaaaGreatDoor
namespace Lex
open KL
theorem qq{x y:Int}(h0:0≤x∧x<256)(h1:0≤y∧y<256):(UInt8.ofNat x.toNat==UInt8.ofNat y.toNat)=decide (x=y):=by
 by_cases h:x=y
 ·subst h;simp
 ·rw[decide_eq_false h,beq_eq_false_iff_ne];intro e;have:=congrArg UInt8.toNat e;rw[Au x.toNat (by omega),Au y.toNat (by omega)]at this;omega
theorem Qri{l:List UInt8}(h:l.all (fun b=>decide (b.toNat<128))=true)(j:Nat)(b:UInt8)(hj:l[j]? = some b):b.toNat<128:=by
 simpa using List.all_eq_true.1 h b (List.mem_of_getElem? hj)
theorem rK{w:World}{B n:Nat}{A:Option Addr}{xs:List Int}(h:RB w B A xs)(hn:xs.length=n):Lib.BytesIn w A n xs:=fun h0=>by
 obtain⟨b,off,e,_,hc⟩:=h.cell (by intro e;rw[e]at hn;simp at hn;omega);exact⟨b,off,e,fun i hi=>hc i (by omega)⟩
theorem rU:∀(xs:List Int),ZZ xs→Lib.indexByte (Lib.bytesOf xs) (UInt8.ofNat (10:Int).toNat)=if lead (fun c=>c != 10) xs<xs.length then(lead (fun c=>c != 10) xs:Int)else -1
 |[],_=>rfl
 |c::r,hb=>by
  have ih:=rU r (fun y hy=>hb y (by simp[hy]));have hc:=hb c (by simp);unfold Lib.bytesOf at ih⊢;simp only[List.map_cons,Lib.indexByte,ih,qq hc (show(0:Int)≤10∧(10:Int)<256 by omega)];have hle:=Kh (fun c=>c != 10) r;by_cases h:c=10
  ·subst h;simp[lead]
  ·have hne:(c != 10)=true:=by rw[bne_iff_ne];exact h
   have e:lead (fun c=>c != 10) (c::r)=lead (fun c=>c != 10) r+1:=by simp only[lead,hne,if_true]
   rw[e,List.length_cons,decide_eq_false h];by_cases hl:lead (fun c=>c != 10) r<r.length
   ·rw[if_pos hl,if_neg (by simp),if_neg (by rw[beq_iff_eq];omega),if_pos (by omega)];simp
   ·rw[if_neg hl,if_neg (by simp),if_pos (by rfl),if_neg (by omega)]
theorem rV(xs:List Int)(hb:ZZ xs):Lib.indexByte (Lib.bytesOf xs) (UInt8.ofNat (10:Int).toNat)=if Zy xs<xs.length then(Zy xs:Int)else -1:=rU xs hb
theorem lT{x:Int}(h:0≤x∧x<256):([32,9,13]:List UInt8).contains (UInt8.ofNat x.toNat)=blk x:=by
 have e:∀y:Int,0≤y∧y<256→(UInt8.ofNat x.toNat==UInt8.ofNat y.toNat)=decide (x=y):=fun y hy=>qq h hy
 have e1:=e 32 (by omega);have e2:=e 9 (by omega);have e3:=e 13 (by omega);rw[Bool.eq_iff_iff,RA];have:([32,9,13]:List UInt8).contains (UInt8.ofNat x.toNat)=((UInt8.ofNat x.toNat==32)||((UInt8.ofNat x.toNat==9)||(UInt8.ofNat x.toNat==13))):=by simp[List.contains,List.elem];cases(UInt8.ofNat x.toNat==32) <;> cases(UInt8.ofNat x.toNat==9) <;> cases(UInt8.ofNat x.toNat==13) <;> rfl
 rw[this];change(UInt8.ofNat x.toNat==32)=_ at e1;change(UInt8.ofNat x.toNat==9)=_ at e2;change(UInt8.ofNat x.toNat==13)=_ at e3;rw[e1,e2,e3];simp
theorem mg{xs:List Int}{j:Nat}{b:UInt8}(h:(Lib.bytesOf xs)[j]?=some b):j<xs.length∧b=UInt8.ofNat (xs.getD j 0).toNat:=by
 unfold Lib.bytesOf at h;rw[List.getElem?_map]at h;cases e:xs[j]? with
 |none=>rw[e]at h;simp at h
 |some x =>
  rw[e]at h;have hl:j<xs.length:=by
   rcases Nat.lt_or_ge j xs.length with h' |h'
   ·exact h'
   ·rw[List.getElem?_eq_none h']at e;cases e
  exact⟨hl,by simp[List.getD,e]at h⊢;exact h.symm⟩
theorem Qwt{xs:List Int}(hb:ZZ xs):(Lib.trimRightS (Lib.bytesOf xs) [32,9,13]).length=Jj xs:=by
 have hle:=Gl xs;rw[Lib.trimRightS_take (Lib.bytesOf xs) [32,9,13] (Jj xs) (by rw[Lib.bytesOf_length];exact hle) (fun j b hj h=>?_) (fun b h0 h=>?_)]
 ·rw[List.length_take,Lib.bytesOf_length];omega
 ·obtain⟨hl,rfl⟩:=mg h;rw[lT (hb.getD j)];exact Yz xs j hj hl
 ·obtain⟨hl,rfl⟩:=mg h;rw[lT (hb.getD _)];exact Uo xs h0
theorem pL(w:World)(xs:List Int)(T:TypeId)(fr:Nat×Nat)(hb:ZZ xs):RB (w.alloc (θ (xs.map (ι .u8)).toArray T fr)) (w.heap.size+1) (some ⟨w.heap.size,0,none⟩) xs :=
 ⟨hb,.inr ⟨_,_,rfl,by omega,fun i hi=>by
  rw[Nat.zero_add,World.cell?_alloc_mark];simp[List.getD,hi]⟩⟩
theorem wm:∀(xs:List Int),ZZ xs→Lib.hasPrefix (Lib.bytesOf xs) (Lib.bytesOf [47,47])=decide (xs.take 2=[47,47])
 |[],_=>rfl
 |[c],hb=>by simp[Lib.hasPrefix,Lib.bytesOf,List.isPrefixOf]
 |c::d::r,hb=>by
  have hc:=hb c (by simp);have hd:=hb d (by simp);have e1:=qq (show(0:Int)≤47∧(47:Int)<256 by omega) hc;have e2:=qq (show(0:Int)≤47∧(47:Int)<256 by omega) hd;simp only[Lib.hasPrefix,Lib.bytesOf,List.map_cons,List.map_nil,List.isPrefixOf,e1,e2,List.take_succ_cons,List.take_zero];rw[Bool.eq_iff_iff];simp;exact⟨fun⟨a,b⟩=>⟨a.symm,b.symm⟩,fun⟨a,b⟩=>⟨a.symm,b.symm⟩⟩
theorem Qvy(p:Option Addr)(xs:List Int)(n c:Nat)(hb:ZZ xs)(hn:xs.length=n) :
  ∃v1 v2,Lib.cutV p n c 1 (Lib.indexByte (Lib.bytesOf xs) (10:Int).toNat.toUInt8)=.tuple #[ς p (Zy xs) c,v1,v2]:=by
 have:=rV xs hb;change Lib.indexByte (Lib.bytesOf xs) (10:Int).toNat.toUInt8=_ at this;rw[this];have hle:=Kh (fun c=>c != 10) xs;by_cases h:Zy xs<xs.length
 ·rw[if_pos h];unfold Lib.cutV;rw[if_pos (by omega)];exact⟨_,_,rfl⟩
 ·have e:Zy xs=n:=by unfold Zy at *;omega
  rw[if_neg h];unfold Lib.cutV;rw[if_neg (by omega),e];exact⟨_,_,rfl⟩
theorem Qmw(A:Option Addr)(n cap:Nat)(xs:List Int)(w:World)(B:Nat)(h:RB w B A xs)(hB:B≤w.heap.size)(hn:xs.length=n)(hn0:0<n)(hcap:n≤cap)(ZF:cap≤maxLen)(hsm:n≤1000000) :
  Calls prog 84 #[ς A n cap] w fun e w'=>e=ρ (ι κ (X3 xs))∧Below w.heap.size w w':=by
 have hb:=h.Ha;obtain⟨b,off,rfl,uT,hc⟩:=h.cell (by intro e;rw[e]at hn;simp at hn;omega);obtain⟨v1,v2,hcv⟩:=Qvy (some ⟨b,off,none⟩) xs n cap hb hn;have hle:Zy xs≤n:=by have:=Kh (fun c=>c != 10) xs;unfold Zy;omega
 have Ww:Hid (∀(g:Nat),g=w.heap.size→Calls prog 98 #[ς (some ⟨b,off,none⟩) n cap,ς (some ⟨g,0,none⟩) 1 1] (w.alloc (θ #[ι .u8 10] 5)) fun e w'=>e = ρ (.tuple #[ς (some ⟨b,off,none⟩) (Zy xs) cap,v1,v2])∧∃q,w'=(w.alloc (θ #[ι .u8 10] 5)).drewN q):=by
  rintro g rfl;have TF:=rV xs hb;change Lib.indexByte (Lib.bytesOf xs) (10:Int).toNat.toUInt8=_ at TF;rw[←hcv];refine Tryz.bytes_Cut_of _ _ n cap 1 1 _ _ hcap (by rw[TF];split <;> omega) (fun h0=>by rw[TF]at h0⊢;split at h0 <;> rename_i h1 <;> first|omega|(rw[if_pos h1];omega)) (by omega) ?_;refine(Tryz.bytes_Index_one b off n cap w.heap.size 0 1 xs 10 _ hn (fun i hi=>?_) ?_).mono fun _ _ ⟨he,hw⟩=>⟨he,0,hw⟩
  ·rw[World.cell?_alloc_lt _ _ _ (show b<w.heap.size by omega)];exact hc i (by omega)
  ·exact World.cell?_alloc_at _ _ _ _ rfl
 have Hv:=hb.take (Zy xs)
 have MF:Hid (∀q,Calls prog 99 #[ς (some ⟨b,off,none⟩) (Zy xs) cap,σ ⟨#[32,9,13]⟩] ((w.alloc (θ #[ι .u8 10] 5)).drewN q) fun e w'=>e = ρ (ς (some ⟨b,off,none⟩) (X3 xs) cap)∧Below (w.heap.size+1) ((w.alloc (θ #[ι .u8 10] 5)).drewN q) w'):=fun q=>by
  have:=Tryz.bytes_TrimRight_laid (some ⟨b,off,none⟩) (Zy xs) cap (xs.take (Zy xs)) ⟨#[32,9,13]⟩ ((w.alloc (θ #[ι .u8 10] 5)).drewN q) (by rw[List.length_take];omega) (by omega) (by unfold maxLen at ZF;omega)
   (fun _=>⟨b,off,rfl,fun i hi=>by
    show(w.alloc _).cell? _=_;rw[World.cell?_alloc_lt _ _ _ (show b<w.heap.size by omega),hc i (by omega),getD_take hi]⟩) Hv (by decide) (Qri (l:=[32,9,13]) (by decide))
  rw[Qwt Hv]at this;rw[show((w.alloc (θ #[ι .u8 10] 5)).drewN q).heap.size=w.heap.size+1 by simp[World.drewN]]at this;exact this
 have hr:X3 xs≤n:=by have:=Gl (xs.take (Zy xs));rw[List.length_take]at this;unfold X3;omega
 have h1:=Ww.out w.heap.size rfl;have H1:=QA h1;clear Ww h1 hcv hc Hv hb h
 have HCw:Hid (∀q w',Below (w.heap.size+1) ((w.alloc (θ #[ι .u8 10] 5)).drewN q) w'→Below w.heap.size w w'):=fun q w' hb=>by
  have h2:=below_drewN ((Below.refl w.heap.size w).alloc (Nat.le_refl _) (θ #[ι .u8 10] 5)) q;exact h2.trans (hb.mono (by omega))
 generalize Zy xs=ln at *;generalize X3 xs=rm at *;unfold maxLen at ZF;go_enter func84,ntmps84;go_wp2_with fail;refine H1.out.mono ?_;rintro e w' ⟨rfl,q,rfl⟩;go_wp2_with fail;refine c₁ (MF.out q) fun w' ZU=>?_;go_wp2_with fail;go_ret;exact⟨rfl,HCw.out q _ ZU⟩
theorem Vk(A:Option Addr)(n cap:Nat)(xs:List Int)(w:World)(B:Nat)(h:RB w B A xs)(hB:B≤w.heap.size)(hn:xs.length=n)(hn0:0<n)(hcap:n≤cap)(ZF:cap≤maxLen)(hsm:n≤1000000)(hT:LO w) :
  Calls prog 64 #[ς A n cap] w fun e w'=>e=ρ (.tuple #[ι κ (piece xs).1,ι κ ((piece xs).2:Nat)])∧Below w.heap.size w w':=by
 have hb:=h.Ha;cases xs with
 |nil=>simp at hn;omega
 |cons c r =>
 have hpc:=Z9 c r;obtain⟨b,off,rfl,uT,hc⟩:=h.cell (by simp);have hcell:w.cell? ⟨b,off,none⟩=some (ι .u8 c):=by simpa using hc 0 (by omega)
 obtain⟨hc0,hc1⟩:=hb c (by simp);have EZ:=QA (Zr c w hc0 hc1);have Ry:Below w.heap.size w w:=Below.refl _ _;have Hn:=QA hn;have Ox:=ZF;unfold maxLen at Ox;have uP:n≤9223372036854775807:=by omega
 by_cases k1:kd c=1
 ·rw[if_pos k1]at hpc;rw[hpc];rw[k1]at EZ;have HW:=QA (Qr7 _ n cap (c::r) w B h hn hn0 hcap ZF);clear k1 hpc hc hn h hb Hn ZF;generalize K8 (c::r)=L at *;go_enter func64,ntmps64;go_wp2_with (first|(go_at_call 79;refine EZ.out.mono ?_;rintro e w' ⟨rfl,rfl⟩)|(go_at_call 80;refine HW.out.mono ?_;rintro e w' ⟨rfl,rfl⟩))
  go_ret2
  exact⟨rfl,Ry⟩
 rw[if_neg k1]at hpc;by_cases k2:kd c=2
 ·rw[if_pos k2]at hpc;rw[hpc];have HW:=QA (Qm9 _ n cap (c::r) w B h hn hn0 (by simp[YD,k2]) hcap ZF);rw[k2]at EZ;clear k1 k2 hpc hc hn h hb Hn ZF;generalize PA (c::r)=L at *;go_enter func64,ntmps64;go_wp2_with (first|(go_at_call 79;refine EZ.out.mono ?_;rintro e w' ⟨rfl,rfl⟩)|(go_at_call 81;refine HW.out.mono ?_;rintro e w' ⟨rfl,rfl⟩))
  go_ret2
  exact⟨rfl,Ry⟩
 rw[if_neg k2]at hpc;by_cases k3:kd c=3
 ·rw[if_pos k3]at hpc;rw[hpc];have HW:=QA (Qm0 _ n cap (c::r) w B h hn hn0 hcap ZF hsm);rw[k3]at EZ;clear k1 k2 k3 hpc hc hn h hb Hn ZF;generalize Yt (c::r)=L at *;go_enter func64,ntmps64;go_wp2_with (first|(go_at_call 79;refine EZ.out.mono ?_;rintro e w' ⟨rfl,rfl⟩)|(go_at_call 82;refine HW.out.mono ?_;rintro e w' ⟨rfl,rfl⟩))
  go_ret2
  exact⟨rfl,Ry⟩
 rw[if_neg k3]at hpc;by_cases k4:kd c=4
 ·rw[if_pos k4]at hpc;rw[k4]at EZ;have ND:Below w.heap.size w (w.alloc (θ #[ι .u8 47,ι .u8 47] 5 (2,3))):=(Below.refl _ _).alloc (Nat.le_refl _) _;have hA:=h.below ND hB
  have Wi:Hid (∀g,g=w.heap.size→Calls prog 83 #[ς (some ⟨b,off,none⟩) n cap,ς (some ⟨g,0,none⟩) 2 2] (w.alloc (θ #[ι .u8 47,ι .u8 47] 5 (2,3))) fun e w'=>e = ρ (τ (decide ((c::r).take 2=[47,47])))∧w.alloc (θ #[ι .u8 47,ι .u8 47] 5 (2,3))=w'):=fun g hg=>by
   subst hg;rw[←wm _ hb];refine(Tryz.bytes_HasPrefix_all _ _ n cap 2 2 (c::r) [47,47] _ hn rfl hcap (rK hA hn) (rK (pL w [47,47] 5 (2,3) (by intro x hx;simp at hx;omega)) rfl)).mono fun _ _ ⟨he,hw⟩=>⟨he,hw.symm⟩
  have RX:=QA (Wi.out _ rfl);clear Wi;have kc:(convert 30 30 (ς (some ⟨w.heap.size,0,none⟩) 2 2)).run prog (w.alloc (θ #[ι .u8 47,ι .u8 47] 5))=.ok (ς (some ⟨w.heap.size,0,none⟩) 2 2) (w.alloc (θ #[ι .u8 47,ι .u8 47] 5 (2,3))) :=
   Lib.run_convert_bytes_const (P:=prog) w 30 5 _ 2 2 underlying30 underlying5
  by_cases h47:(c::r).take 2=[47,47]
  ·rw[if_pos h47]at hpc;rw[hpc];rw[decide_eq_true h47]at RX;have HW:=QA (Qmw _ n cap (c::r) _ B hA (by simp;omega) hn hn0 hcap ZF hsm);have EG:Hid (∀w',Below (w.alloc (θ #[ι .u8 47,ι .u8 47] 5 (2,3))).heap.size (w.alloc (θ #[ι .u8 47,ι .u8 47] 5 (2,3))) w'→Below w.heap.size w w'):=fun w' hw=>ND.trans (hw.mono (by simp))
   clear k1 k2 k3 k4 hpc hc hn h hb Hn ZF hA ND h47;generalize X3 (c::r)=L at *;go_enter func64,ntmps64;go_wp2_with (first|(go_at_call 79;refine EZ.out.mono ?_;rintro e w' ⟨rfl,rfl⟩)|(go_at_call 83;refine RX.out.mono ?_;rintro e w' ⟨rfl,rfl⟩)|(go_at_call 84;refine c₁ HW.out fun w' hbl=>?_))
   go_ret2
   exact⟨rfl,EG.out _ hbl⟩
  ·rw[if_neg h47]at hpc;rw[hpc];rw[decide_eq_false h47]at RX;have HW:=QA (Qu3 _ n cap (c::r) _ B hA hn hn0 hcap ZF hsm (hT.below ND hT.pos));have EG:Hid (∀q,Below w.heap.size w ((w.alloc (θ #[ι .u8 47,ι .u8 47] 5 (2,3))).drewN q)):=fun q=>below_drewN ND q
   clear k1 k2 k3 k4 hpc hc hn h hb Hn ZF hA ND h47;generalize Ks (c::r)=L at *;go_enter func64,ntmps64;go_wp2_with (first|(go_at_call 79;refine EZ.out.mono ?_;rintro e w' ⟨rfl,rfl⟩)|(go_at_call 83;refine RX.out.mono ?_;rintro e w' ⟨rfl,rfl⟩)|(go_at_call 85;refine HW.out.mono ?_;rintro e w' ⟨rfl,q,rfl⟩))
   go_ret2
   exact⟨rfl,EG.out q⟩
 ·rw[if_neg k4]at hpc;rw[hpc];generalize kd c=k at *;have b1:=Qy k1;have b2:=Qy k2;have b3:=Qy k3;have b4:=Qy k4;clear k1 k2 k3 k4 hpc hc hn h hb Hn ZF;go_enter func64,ntmps64;go_wp2_with (go_at_call 79;refine EZ.out.mono ?_;rintro e w' ⟨rfl,rfl⟩)
  go_ret2
  exact⟨rfl,Ry⟩
theorem Qly{a b:List Int}(ha:ZZ a)(hb:ZZ b)(h:Lib.bytesOf a=Lib.bytesOf b):a=b :=
 Vz ha hb (mO (by rw[Lib.strOfNums_toList,Lib.strOfNums_toList,h]))
theorem ku{t:List Int}(ht:ZZ t)(u:List Int)(hu:ZZ u):((strOfNums t).toList==Lib.bytesOf u)=decide (t=u):=by
 rw[Lib.strOfNums_toList];by_cases h:t=u
 ·subst h;simp
 ·rw[decide_eq_false h,beq_eq_false_iff_ne];exact fun e=>h (Qly ht hu e)
theorem Zm{t u:List Int}(h:t=u):((strOfNums t).toList==Lib.bytesOf u)=true:=by
 subst h;rw[Lib.strOfNums_toList];simp
theorem Vb{t:List Int}(ht:ZZ t){u:List Int}(hu:u.all (fun x=>decide (0≤x∧x<256))=true)(h:t≠u):((strOfNums t).toList==Lib.bytesOf u)=false:=by
 rw[ku ht u (fun x hx=>by simpa using List.all_eq_true.1 hu x hx),decide_eq_false h]
theorem rH(t:List Int)(ht:ZZ t)(w:World) :
  Calls prog 63 #[σ (strOfNums t)] w fun e w'=>e=ρ (τ (isWord t))∧w=w':=by
 by_cases c0:t=[112,97,99,107,97,103,101]
 ·have b0:((strOfNums t).toList==[112,97,99,107,97,103,101])=true:=Zm (u:=[112,97,99,107,97,103,101]) c0;rw[show isWord t=true from by rw[c0];decide +kernel];clear ht c0;generalize strOfNums t=s at *;go_enter func63,ntmps63;go_wp2;go_ret;exact⟨rfl,rfl⟩
 have b0:((strOfNums t).toList==[112,97,99,107,97,103,101])=false:=Vb ht (u:=[112,97,99,107,97,103,101]) (by decide) c0;by_cases c1:t=[105,109,112,111,114,116]
 ·have b1:((strOfNums t).toList==[105,109,112,111,114,116])=true:=Zm (u:=[105,109,112,111,114,116]) c1;rw[show isWord t=true from by rw[c1];decide +kernel];clear ht c0 c1;generalize strOfNums t=s at *;go_enter func63,ntmps63;go_wp2;go_ret;exact⟨rfl,rfl⟩
 have b1:((strOfNums t).toList==[105,109,112,111,114,116])=false:=Vb ht (u:=[105,109,112,111,114,116]) (by decide) c1;by_cases c2:t=[99,111,110,115,116]
 ·have b2:((strOfNums t).toList==[99,111,110,115,116])=true:=Zm (u:=[99,111,110,115,116]) c2;rw[show isWord t=true from by rw[c2];decide +kernel];clear ht c0 c1 c2;generalize strOfNums t=s at *;go_enter func63,ntmps63;go_wp2;go_ret;exact⟨rfl,rfl⟩
 have b2:((strOfNums t).toList==[99,111,110,115,116])=false:=Vb ht (u:=[99,111,110,115,116]) (by decide) c2;by_cases c3:t=[118,97,114]
 ·have b3:((strOfNums t).toList==[118,97,114])=true:=Zm (u:=[118,97,114]) c3;rw[show isWord t=true from by rw[c3];decide +kernel];clear ht c0 c1 c2 c3;generalize strOfNums t=s at *;go_enter func63,ntmps63;go_wp2;go_ret;exact⟨rfl,rfl⟩
 have b3:((strOfNums t).toList==[118,97,114])=false:=Vb ht (u:=[118,97,114]) (by decide) c3;by_cases c4:t=[116,121,112,101]
 ·have b4:((strOfNums t).toList==[116,121,112,101])=true:=Zm (u:=[116,121,112,101]) c4;rw[show isWord t=true from by rw[c4];decide +kernel];clear ht c0 c1 c2 c3 c4;generalize strOfNums t=s at *;go_enter func63,ntmps63;go_wp2;go_ret;exact⟨rfl,rfl⟩
 have b4:((strOfNums t).toList==[116,121,112,101])=false:=Vb ht (u:=[116,121,112,101]) (by decide) c4;by_cases c5:t=[102,117,110,99]
 ·have b5:((strOfNums t).toList==[102,117,110,99])=true:=Zm (u:=[102,117,110,99]) c5;rw[show isWord t=true from by rw[c5];decide +kernel];clear ht c0 c1 c2 c3 c4 c5;generalize strOfNums t=s at *;go_enter func63,ntmps63;go_wp2;go_ret;exact⟨rfl,rfl⟩
 have b5:((strOfNums t).toList==[102,117,110,99])=false:=Vb ht (u:=[102,117,110,99]) (by decide) c5;by_cases c6:t=[109,97,112]
 ·have b6:((strOfNums t).toList==[109,97,112])=true:=Zm (u:=[109,97,112]) c6;rw[show isWord t=true from by rw[c6];decide +kernel];clear ht c0 c1 c2 c3 c4 c5 c6;generalize strOfNums t=s at *;go_enter func63,ntmps63;go_wp2;go_ret;exact⟨rfl,rfl⟩
 have b6:((strOfNums t).toList==[109,97,112])=false:=Vb ht (u:=[109,97,112]) (by decide) c6;by_cases c7:t=[115,116,114,117,99,116]
 ·have b7:((strOfNums t).toList==[115,116,114,117,99,116])=true:=Zm (u:=[115,116,114,117,99,116]) c7;rw[show isWord t=true from by rw[c7];decide +kernel];clear ht c0 c1 c2 c3 c4 c5 c6 c7;generalize strOfNums t=s at *;go_enter func63,ntmps63;go_wp2;go_ret;exact⟨rfl,rfl⟩
 have b7:((strOfNums t).toList==[115,116,114,117,99,116])=false:=Vb ht (u:=[115,116,114,117,99,116]) (by decide) c7;by_cases c8:t=[105,102]
 ·have b8:((strOfNums t).toList==[105,102])=true:=Zm (u:=[105,102]) c8;rw[show isWord t=true from by rw[c8];decide +kernel];clear ht c0 c1 c2 c3 c4 c5 c6 c7 c8;generalize strOfNums t=s at *;go_enter func63,ntmps63;go_wp2;go_ret;exact⟨rfl,rfl⟩
 have b8:((strOfNums t).toList==[105,102])=false:=Vb ht (u:=[105,102]) (by decide) c8;by_cases c9:t=[101,108,115,101]
 ·have b9:((strOfNums t).toList==[101,108,115,101])=true:=Zm (u:=[101,108,115,101]) c9;rw[show isWord t=true from by rw[c9];decide +kernel];clear ht c0 c1 c2 c3 c4 c5 c6 c7 c8 c9;generalize strOfNums t=s at *;go_enter func63,ntmps63;go_wp2;go_ret;exact⟨rfl,rfl⟩
 have b9:((strOfNums t).toList==[101,108,115,101])=false:=Vb ht (u:=[101,108,115,101]) (by decide) c9;by_cases c10:t=[102,111,114]
 ·have YT:((strOfNums t).toList==[102,111,114])=true:=Zm (u:=[102,111,114]) c10;rw[show isWord t=true from by rw[c10];decide +kernel];clear ht c0 c1 c2 c3 c4 c5 c6 c7 c8 c9 c10;generalize strOfNums t=s at *;go_enter func63,ntmps63;go_wp2;go_ret;exact⟨rfl,rfl⟩
 have YT:((strOfNums t).toList==[102,111,114])=false:=Vb ht (u:=[102,111,114]) (by decide) c10;by_cases c11:t=[114,101,116,117,114,110]
 ·have EI:((strOfNums t).toList==[114,101,116,117,114,110])=true:=Zm (u:=[114,101,116,117,114,110]) c11;rw[show isWord t=true from by rw[c11];decide +kernel];clear ht c0 c1 c2 c3 c4 c5 c6 c7 c8 c9 c10 c11;generalize strOfNums t=s at *;go_enter func63,ntmps63;go_wp2;go_ret;exact⟨rfl,rfl⟩
 have EI:((strOfNums t).toList==[114,101,116,117,114,110])=false:=Vb ht (u:=[114,101,116,117,114,110]) (by decide) c11;by_cases c12:t=[98,114,101,97,107]
 ·have Lm:((strOfNums t).toList==[98,114,101,97,107])=true:=Zm (u:=[98,114,101,97,107]) c12;rw[show isWord t=true from by rw[c12];decide +kernel];clear ht c0 c1 c2 c3 c4 c5 c6 c7 c8 c9 c10 c11 c12;generalize strOfNums t=s at *;go_enter func63,ntmps63;go_wp2;go_ret;exact⟨rfl,rfl⟩
 have Lm:((strOfNums t).toList==[98,114,101,97,107])=false:=Vb ht (u:=[98,114,101,97,107]) (by decide) c12;by_cases c13:t=[99,111,110,116,105,110,117,101]
 ·have Ll:((strOfNums t).toList==[99,111,110,116,105,110,117,101])=true:=Zm (u:=[99,111,110,116,105,110,117,101]) c13;rw[show isWord t=true from by rw[c13];decide +kernel];clear ht c0 c1 c2 c3 c4 c5 c6 c7 c8 c9 c10 c11 c12 c13;generalize strOfNums t=s at *;go_enter func63,ntmps63;go_wp2;go_ret;exact⟨rfl,rfl⟩
 have Ll:((strOfNums t).toList==[99,111,110,116,105,110,117,101])=false:=Vb ht (u:=[99,111,110,116,105,110,117,101]) (by decide) c13;have hw:isWord t=false:=by unfold isWord words;simp[c0,c1,c2,c3,c4,c5,c6,c7,c8,c9,c10,c11,c12,c13]
 rw[hw];clear hw c0 c1 c2 c3 c4 c5 c6 c7 c8 c9 c10 c11 c12 c13;generalize strOfNums t=s at *;go_enter func63,ntmps63;go_wp2;go_ret;exact⟨rfl,rfl⟩
theorem Qq7(k:Int)(t:List Int)(ht:ZZ t)(at_:Int)(f:Bool)(w:World) :
  Calls prog 42 #[ξ #[ι κ k,σ (strOfNums t),ι κ at_,τ f]] w fun e w'=>e=ρ (τ (closes k t))∧w.alloc (θ #[ι κ k,σ (strOfNums t),ι κ at_,τ f] 75)=w':=by
 by_cases k2:k=2
 ·subst k2;rw[show closes 2 t=true from rfl];clear ht;generalize strOfNums t=s;go_enter func42,ntmps42;go_wp2;go_ret;exact⟨rfl,rfl⟩
 by_cases k3:k=3
 ·subst k3;rw[show closes 3 t=true from rfl];clear ht;generalize strOfNums t=s;go_enter func42,ntmps42;go_wp2;go_ret;exact⟨rfl,rfl⟩
 have q2:=Qy k2;have q3:=Qy k3;by_cases k1:k=1
 ·subst k1;have HW:=Lib.hid (fun w:World=>rH t ht w);have hcl:closes 1 t=(!isWord t||decide (t=Ai)||decide (t=Ag)||decide (t=Ah)):=rfl;by_cases hw:isWord t=true
  ·rw[hw]at HW hcl;by_cases c0:t=[114,101,116,117,114,110]
   ·have b0:((strOfNums t).toList==[114,101,116,117,114,110])=true:=Zm (u:=[114,101,116,117,114,110]) c0;rw[show closes 1 t=true from by rw[c0];decide +kernel];clear hcl hw ht c0;generalize strOfNums t=s at *;go_enter func42,ntmps42;go_wp2_with (go_at_call 63;refine(HW.out _).mono ?_;rintro e w' ⟨rfl,rfl⟩);go_ret;exact⟨rfl,rfl⟩
   have b0:((strOfNums t).toList==[114,101,116,117,114,110])=false:=Vb ht (u:=[114,101,116,117,114,110]) (by decide) c0;by_cases c1:t=[98,114,101,97,107]
   ·have b1:((strOfNums t).toList==[98,114,101,97,107])=true:=Zm (u:=[98,114,101,97,107]) c1;rw[show closes 1 t=true from by rw[c1];decide +kernel];clear hcl hw ht c0 c1;generalize strOfNums t=s at *;go_enter func42,ntmps42;go_wp2_with (go_at_call 63;refine(HW.out _).mono ?_;rintro e w' ⟨rfl,rfl⟩);go_ret;exact⟨rfl,rfl⟩
   have b1:((strOfNums t).toList==[98,114,101,97,107])=false:=Vb ht (u:=[98,114,101,97,107]) (by decide) c1;by_cases c2:t=[99,111,110,116,105,110,117,101]
   ·have b2:((strOfNums t).toList==[99,111,110,116,105,110,117,101])=true:=Zm (u:=[99,111,110,116,105,110,117,101]) c2;rw[show closes 1 t=true from by rw[c2];decide +kernel];clear hcl hw ht c0 c1 c2;generalize strOfNums t=s at *;go_enter func42,ntmps42;go_wp2_with (go_at_call 63;refine(HW.out _).mono ?_;rintro e w' ⟨rfl,rfl⟩);go_ret;exact⟨rfl,rfl⟩
   have b2:((strOfNums t).toList==[99,111,110,116,105,110,117,101])=false:=Vb ht (u:=[99,111,110,116,105,110,117,101]) (by decide) c2;have hc:closes 1 t=false:=by rw[hcl];unfold Ai Ag Ah;simp[c0,c1,c2]
   rw[hc];clear hc hcl hw c0 c1 c2 ht;generalize strOfNums t=s at *;go_enter func42,ntmps42;go_wp2_with (go_at_call 63;refine(HW.out _).mono ?_;rintro e w' ⟨rfl,rfl⟩);go_ret;exact⟨rfl,rfl⟩
  ·have hw':isWord t=false:=by simpa using hw
   rw[hw']at HW hcl;have hc:closes 1 t=true:=by rw[hcl];simp
   rw[hc];clear hc hcl hw hw' ht;generalize strOfNums t=s at *;go_enter func42,ntmps42;go_wp2_with (go_at_call 63;refine(HW.out _).mono ?_;rintro e w' ⟨rfl,rfl⟩);go_ret;exact⟨rfl,rfl⟩
 have q1:=Qy k1;by_cases k4:k=4
 ·subst k4;clear q1 q2 q3 k1 k2 k3;by_cases c0:t=[41]
  ·have b0:((strOfNums t).toList==[41])=true:=Zm (u:=[41]) c0;rw[show closes 4 t=true from by rw[c0];decide +kernel];clear ht c0;generalize strOfNums t=s at *;go_enter func42,ntmps42;go_wp2;go_ret;exact⟨rfl,rfl⟩
  have b0:((strOfNums t).toList==[41])=false:=Vb ht (u:=[41]) (by decide) c0;by_cases c1:t=[93]
  ·have b1:((strOfNums t).toList==[93])=true:=Zm (u:=[93]) c1;rw[show closes 4 t=true from by rw[c1];decide +kernel];clear ht c0 c1;generalize strOfNums t=s at *;go_enter func42,ntmps42;go_wp2;go_ret;exact⟨rfl,rfl⟩
  have b1:((strOfNums t).toList==[93])=false:=Vb ht (u:=[93]) (by decide) c1;by_cases c2:t=[125]
  ·have b2:((strOfNums t).toList==[125])=true:=Zm (u:=[125]) c2;rw[show closes 4 t=true from by rw[c2];decide +kernel];clear ht c0 c1 c2;generalize strOfNums t=s at *;go_enter func42,ntmps42;go_wp2;go_ret;exact⟨rfl,rfl⟩
  have b2:((strOfNums t).toList==[125])=false:=Vb ht (u:=[125]) (by decide) c2;by_cases c3:t=[43,43]
  ·have b3:((strOfNums t).toList==[43,43])=true:=Zm (u:=[43,43]) c3;rw[show closes 4 t=true from by rw[c3];decide +kernel];clear ht c0 c1 c2 c3;generalize strOfNums t=s at *;go_enter func42,ntmps42;go_wp2;go_ret;exact⟨rfl,rfl⟩
  have b3:((strOfNums t).toList==[43,43])=false:=Vb ht (u:=[43,43]) (by decide) c3;by_cases c4:t=[45,45]
  ·have b4:((strOfNums t).toList==[45,45])=true:=Zm (u:=[45,45]) c4;rw[show closes 4 t=true from by rw[c4];decide +kernel];clear ht c0 c1 c2 c3 c4;generalize strOfNums t=s at *;go_enter func42,ntmps42;go_wp2;go_ret;exact⟨rfl,rfl⟩
  have b4:((strOfNums t).toList==[45,45])=false:=Vb ht (u:=[45,45]) (by decide) c4;have hc:closes 4 t=false:=by show decide (t∈Ax)=false;unfold Ax;simp[c0,c1,c2,c3,c4]
  rw[hc];clear hc ht c0 c1 c2 c3 c4;generalize strOfNums t=s at *;go_enter func42,ntmps42;go_wp2;go_ret;exact⟨rfl,rfl⟩
 have q4:=Qy k4;have hc:closes k t=false:=by unfold closes;rw[if_neg (by omega),if_neg k1,if_neg k4]
 rw[hc];clear hc k1 k2 k3 k4 ht;generalize strOfNums t=s at *;go_enter func42,ntmps42;go_wp2;go_ret;exact⟨rfl,rfl⟩
