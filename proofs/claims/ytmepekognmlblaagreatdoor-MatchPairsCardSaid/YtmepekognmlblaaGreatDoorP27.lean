import Derived.Test.YtmepekognmlblaaGreatDoorP25
import Derived.StillTailTactics
import Derived.RegionTactic
import Derived.Deep.Draws
import Derived.ChangeKeysEq
import Derived.Laws.StructEq
set_option maxHeartbeats 16000000
set_option maxRecDepth 100000
set_option linter.unusedVariables false
open Go.ChangeShapes Go.WideShapes Go.ChangeAt Go.RowKit
open Go.Lib renaming hid→QA
open _root_.List renaming getElem?_eq_getElem→QN
open _root_.Bool renaming and_eq_true→Th
open Go.Value renaming int→ι,slice→ς,bool→τ,agg→ξ
open Go.IntKind renaming i64→γ
open Go.Obj renaming cells→θ
open Go.Ending renaming returned→ρ
namespace Go.Proofs.YtmepekognmlblaaGreatDoor
namespace Match
open Mem Tree
def ZY(W:World)(g:Nat)(e:TypeId)(xs:List Value):Prop:=W.heap[g]?=some (θ xs.toArray e (0,0))
section
variable {W W':World}{g:Nat}{e:TypeId}{xs:List Value}
theorem ZY.lt(h:ZY W g e xs):g<W.heap.size:=(Array.getElem?_eq_some_iff.1 h).1
theorem ZY.at_(h:ZY W g e xs){i:Nat}{v:Value}(hi:xs[i]?=some v):W.cell? ⟨g,i,none⟩=some v:=by
 have h:W.heap[g]?=some (θ xs.toArray e (0,0)):=h;simp[World.cell?,h,hi]
theorem ZY.free(h:ZY W g e xs)(i:Nat):W.frozen? ⟨g,i,none⟩=false:=by
 have h:W.heap[g]?=some (θ xs.toArray e (0,0)):=h;simp[World.frozen?,h]
theorem ZY.set(h:ZY W g e xs){i:Nat}(hi:i<xs.length)(v:Value):ZY (W.setCell ⟨g,i,none⟩ v) g e (xs.set i v):=by
 have:=Z8 (w:=W) h i v;show(W.setCell ⟨g,i,none⟩ v).heap[g]?=_;rw[this,List.setIfInBounds_toArray]
theorem ZY.keep(h:ZY W g e xs)(hb:Below W.heap.size W W'):ZY W' g e xs:=(hb.block g h.lt).trans h
theorem ZY.drew(h:ZY W g e xs):ZY W.drew g e xs:=h
end
def iV(l:List Int):List Value:=l.map fun(v:Int)=>ι γ v
theorem Xh(l:List Int):(iV l).length=l.length:=by simp[iV]
theorem bJ{l:List Int}{i:Nat}{v:Int}(h:l[i]?=some v):(iV l)[i]?=some (ι γ v):=by simp[iV,h]
theorem bT(l:List Int)(i:Nat)(v:Int):(iV l).set i (ι γ v)=iV (l.set i v):=by unfold iV;rw[List.map_set]
theorem Zq:(Tryz.prog.info? 3).map (fun i=>(i.zero,i.size,i.bytes))=some (some (ι γ 0),1,8):=χ
theorem Jg(n:Nat)(hn:n≤1000000)(w:World):(Instr.makeSlice 32 (ι γ (n:Int)) (ι γ (n:Int))).run Tryz.prog w=.ok (ς (some ⟨w.heap.size,0,none⟩) n n) (w.alloc (θ (iV (List.replicate n 0)).toArray 3)):=by
 obtain⟨i0,hi0,hz0,hz1,hz2⟩:=info_parts Zq;have h:=run_make (P:=Tryz.prog) w 32 3 i0 (ι γ 0) Tryz.underlying32 hi0 hz0 γ γ n n ω (Int.le_refl _) (by rw[hz2];omega) ω;rw[h];simp only[Int.toNat_natCast]
 congr 2
 have:madeCells (ι γ 0).cells (n*i0.size)=(iV (List.replicate n 0)).toArray:=by rw[hz1,Nat.mul_one];apply Array.toList_inj.1;have:=toList_madeCells_one (ι γ 0) n;simp only[Value.cells];rw[this];simp[iV]
 rw[this]
def Yp(n i:Nat):List Int:=List.replicate i (-1)++List.replicate (n-i) 0
theorem Qf2{n i:Nat}(h:i≤n):(Yp n i).length=n:=by simp[Yp];omega
theorem Qpe{n i:Nat}(h:i<n):(Yp n i).set i (-1)=Yp n (i+1):=by
 unfold Yp;rw[List.set_append_right _ _ ψ];simp only[List.length_replicate,Nat.sub_self];obtain⟨m,hm⟩:∃m,n-i=m+1:=⟨n-i-1,ω⟩;rw[hm,show n-(i+1)=m by omega,List.replicate_succ,List.set_cons_zero,List.replicate_succ',List.append_assoc];rfl
theorem Qpf(n:Nat):Yp n n=List.replicate n (-1):=by simp[Yp]
theorem Qlx(n:Nat):Yp n 0=List.replicate n 0:=by simp[Yp]
theorem Qkd{n:Nat}{L:List P2}{j:Nat}{p:P2}(h:L[j]?=some p):(Yu n (L.take j)).set p.1.toNat p.2=Yu n (L.take (j+1)):=by
 unfold Yu;rw[List.take_add_one,h,List.foldl_append];rfl
theorem Zn{B:Nat}{w w':World}(h:Below B w w'){b:Nat}(hb:B≤b)(i:Nat)(v:Value):Below B w (w'.setCell ⟨b,i,none⟩ v):=h.setCell (p:=⟨b,i,none⟩) hb v
theorem Q8(w:World):Below w.heap.size w w.drew:=⟨rfl,rfl,rfl,Nat.le_refl _,fun _ _=>rfl⟩
theorem Qob(n:Nat)(A:Option Addr)(C:Nat)(L:List P2)(w:World)(hl:Qm w (Lo w.heap.size) (ς A L.length C) L)(hn:n≤100000)(hr:∀p∈L,0≤p.1∧p.1<(n:Int))(hL:L.length≤1000000) :
 Calls Tryz.prog 18 #[ι γ (n:Int),ς A L.length C] w fun e w'=>Below w.heap.size w w'∧∃g,w.heap.size≤g∧e=ρ (ς (some ⟨g,0,none⟩) n n)∧ZY w' g 3 (iV (Yu n L)):=by
 have hmk:=Jg n ω w;have b1:=Qz w (θ (iV (List.replicate n 0)).toArray 3);have Z':=QA b1;have HK:Hid (ZY (w.alloc (θ (iV (List.replicate n 0)).toArray 3)) w.heap.size 3 (iV (Yp n 0))):=by rw[Qlx];exact heap_alloc_new w _
 have HL:=QA hl;have HR:=QA hr;clear hl hr b1;obtain⟨M,hM⟩:=Mem.QD (L.length);have HM:=QA hM;rw[hM]at hL HL⊢;clear hM;go_enter Tryz.func18,Tryz.ntmps18;go_wp2;clear hmk;obtain⟨w0,hw0⟩:=Mem.QD (w.alloc (θ (iV (List.replicate n 0)).toArray 3));obtain⟨g,hg⟩:=Mem.QD (w.heap.size);have HG:=QA hg;rw[hw0]at Z' HK⊢;rw[hg]at HK⊢;clear hw0 hg
 go_loopw [6] (fun s6 wr=>∃i:Nat,i≤n∧s6=ι γ (i:Int)∧Hid (ZY wr g 3 (iV (Yp n i)))∧Hid (Below w.heap.size w wr)) (fun s _=>n-(intOf s).toNat)
 case atStart=>exact⟨0,Nat.zero_le _,rfl,HK,Z'⟩
 case round =>
  clear HK Z';obtain⟨i,hi,rfl,HK,HB⟩:=hrel;by_cases hlt:i<n
  ·have hlt':(i:Int)<(n:Int):=ω
   have KZ:(0:Int)≤(i:Int):=ω
   obtain⟨vd,kA⟩:∃v,(iV (Yp n i))[i]?=some v:=⟨_,QN (by rw[Xh,Qf2 hi];exact hlt)⟩;have Nv:=HK.out.at_ kA;have Mj:=HK.out.free i;clear kA;go_wp2
   go_roundw
   case rel=>exact⟨i+1,ω,by go_num,(by have h1:=HK.out.set (i:=i) (by rw[Xh,Qf2 hi];exact hlt) (ι γ (-1));rw[bT,Qpe hlt]at h1;exact h1),Zn HB.out (by have:=HG.out;omega) _ _⟩
   case measure=>simp[intOf];omega
  ·obtain rfl:n=i:=ω
   have hlt':¬(n:Int)<(n:Int):=ω
   clear hlt;go_wp2;have EP:Hid (ZY wr g 3 (iV (Yu n (L.take 0)))):=by have:=HK.out;rw[Qpf]at this;exact this
   have Pw:=QA HB.out;clear HK HB;obtain⟨wm,DV⟩:∃wm,wm=wr:=⟨_,rfl⟩;rw[←DV]at EP Pw⊢;clear DV
   go_loopw [7] (fun s7 W=>∃j:Nat,j≤M∧s7=ι γ (j:Int)∧Hid (ZY W g 3 (iV (Yu n (L.take j))))∧Hid (Below w.heap.size w W)) (fun s _=>M-(intOf s).toNat)
   case atStart=>exact⟨0,Nat.zero_le _,rfl,EP,Pw⟩
   case round =>
    clear EP Pw;obtain⟨j,hj,rfl,HK,HB⟩:=hrel;by_cases hlt:j<M
    ·have hlt':(j:Int)<(M:Int):=ω
     have mY:(0:Int)≤(j:Int):=ω
     have XW:=QA hlt;obtain⟨⟨x,y⟩,hp⟩:∃p,L[j]?=some p:=⟨_,QN (by rw[HM.out];exact hlt)⟩;have nH:=HR.out _ (List.mem_of_getElem? hp);obtain⟨xn,rfl⟩:∃xn:Nat,x=(xn:Int):=⟨x.toNat,by have:=nH.1;simp only at this;omega⟩;simp only at nH;obtain⟨b,o,rfl,_,c0,c1⟩:=Qm.at_ (HL.out.later HB.out) hp;simp only at c0 c1;have HP:=QA hp;have SQ:xn<n:=ω
     have nR:(0:Int)≤(xn:Int):=ω
     have SP:(xn:Int)<(n:Int):=ω
     obtain⟨vd,kA⟩:∃v,(iV (Yu n (L.take j)))[xn]?=some v:=⟨_,QN (by rw[Xh,Qe5];exact SQ)⟩;have HVD:=QA kA;have yP:=QA SQ;clear hp nH kA;go_wp2
     go_still_tail 12,χ
     change wpList _ _ _ _ _ wr.drew;clear c0 c1;have Nv:=HK.out.drew.at_ HVD.out;have Mj:=HK.out.drew.free xn;have Re:=QA HK.out.drew;have zI:Hid (Below w.heap.size w wr.drew):=HB.out.trans ((Q8 wr).mono HB.out.size);clear HK HB;generalize wr.drew=wd at *;go_wp2
     go_roundw
     case rel=>exact⟨j+1,(by have:=XW.out;omega),by go_num,(by have h1:=Re.out.set (i:=xn) (by rw[Xh,Qe5];exact yP.out) (ι γ y);rw[bT]at h1;have h2:=Qkd (n:=n) HP.out;simp only[Int.toNat_natCast]at h2;rw[h2]at h1;exact h1),Zn zI.out (by have:=HG.out;omega) _ _⟩
     case measure=>have:=XW.out;simp[intOf];omega
    ·obtain rfl:M=j:=ω
     have hlt':¬(M:Int)<(M:Int):=ω
     have HKE:Hid (ZY wr g 3 (iV (Yu n L))):=by have:=HK.out;rw[List.take_of_length_le (by rw[HM.out];exact Nat.le_refl _)]at this;exact this
     clear hlt HK;go_wp2;go_ret;exact⟨HB.out,g,by have:=HG.out;omega,rfl,HKE.out⟩
end Match
namespace Match
open Mem
theorem rK(xs:Array Value)(i:Nat)(v:Value)(h:xs[i]?=some v)(w:World):(part 3 xs i).run Tryz.prog w=.ok v w :=
 run_part_plain w χ h
theorem Ĩ(a b c d:Int)(w:World):(Op.equalIn 10000 40 (ξ #[ι γ a,ι γ b]) (ξ #[ι γ c,ι γ d])).run Tryz.prog w=.ok ((a==c)&&(b==d)) w:=by
 obtain⟨i1,hi1⟩:∃i,Tryz.prog.info? 3=some i:=Option.isSome_iff_exists.1 χ;have h:=run_equalIn_array (P:=Tryz.prog) (w:=w) 9999 (t:=40) (e:=3) (n:=2) (i:=i1) #[ι γ a,ι γ b] #[ι γ c,ι γ d] Tryz.underlying40 hi1;have hc:Tryz.prog.cellsOf 3=1:=χ
 have he:∀(x y:Int)(w:World),(Op.equalIn 9999 3 (ι γ x) (ι γ y)).run Tryz.prog w=.ok (x==y) w:=fun x y w=>run_equalIn_int w 9998 3 γ γ x y Tryz.underlying3
 rw[hc]at h;refine h.trans ?_;rw[show List.range 2=[0,1]from rfl];simp only[Op.eqItems,Sem.run_bind];rw[rK _ _ (ι γ a) rfl];simp only[Result.andThen_ok];rw[rK _ _ (ι γ c) rfl];simp only[Result.andThen_ok,he];cases a==c with
 |false=>simp
 |true=>simp only[Bool.not_true,Bool.false_eq_true,if_false,Sem.run_bind];rw[rK _ _ (ι γ b) rfl];simp only[Result.andThen_ok];rw[rK _ _ (ι γ d) rfl];simp only[Result.andThen_ok,he];cases b==d <;> simp
open Tree
def bV(l:List Bool):List Value:=l.map τ
theorem è(l:List Bool):(bV l).length=l.length:=by simp[bV]
theorem N5{l:List Bool}{i:Nat}{v:Bool}(h:l[i]?=some v):(bV l)[i]?=some (τ v):=by simp[bV,h]
theorem é(l:List Bool)(i:Nat)(v:Bool):(bV l).set i (τ v)=bV (l.set i v):=by unfold bV;rw[List.map_set]
theorem Qpr:(Tryz.prog.info? 4).map (fun i=>(i.zero,i.size,i.bytes))=some (some (τ false),1,1):=χ
theorem Ń(n:Nat)(hn:n≤1000000)(w:World):(Instr.makeSlice 53 (ι γ (n:Int)) (ι γ (n:Int))).run Tryz.prog w=.ok (ς (some ⟨w.heap.size,0,none⟩) n n) (w.alloc (θ (bV (List.replicate n false)).toArray 4)):=by
 obtain⟨i0,hi0,hz0,hz1,hz2⟩:=info_parts Qpr;have h:=run_make (P:=Tryz.prog) w 53 4 i0 (τ false) Tryz.underlying53 hi0 hz0 γ γ n n ω (Int.le_refl _) (by rw[hz2];omega) ω;rw[h];simp only[Int.toNat_natCast]
 congr 2
 have:madeCells (τ false).cells (n*i0.size)=(bV (List.replicate n false)).toArray:=by rw[hz1,Nat.mul_one];apply Array.toList_inj.1;have:=toList_madeCells_one (τ false) n;simp only[Value.cells];rw[this];simp[bV]
 rw[this]
theorem D9:∀(L:List Nd)(i:Nat)(nd:Nd),L[i]?=some nd→(YG L).drop i=.cons nd.k nd.x nd.y nd.c (YG (L.drop (i+1)))
 |[],i,nd,h=>by simp at h
 |m::L,0,nd,h=>by
  simp only[List.getElem?_cons_zero,Option.some.injEq]at h;subst h;rfl
 |m::L,i+1,nd,h=>by
  have:=D9 L i nd (by simpa using h);simpa[YG,F.drop]using this
theorem ē{w:World}{A:Option Addr}{L:List Nd}{m C:Nat}(h:Fs w (Lo w.heap.size) (ς A m C) (YG L)){i:Nat}{nd:Nd}(hi:L[i]?=some nd) :
 ∃b off,A=some ⟨b,off,none⟩∧w.cell? ⟨b,off+i*4,none⟩=some (ι γ nd.k):=by
 obtain⟨b,off,s,e,hS,_,hat⟩:=h.at_ (D9 L i nd hi);exact⟨b,off,e,hat.c0⟩
def kinds(L:List Nd):List Int:=L.map (·.k)
theorem Qdw{L:List Nd}{i:Nat}{nd:Nd}(h:L[i]?=some nd):(kinds L).getD i 0=nd.k:=by simp[kinds,List.getD,h]
theorem Uv(L:List Nd):(kinds L).length=L.length:=by simp[kinds]
theorem drop_at{α:Type}{L:List α}{i:Nat}{p:α}(h:L[i]?=some p):L.drop i=p::L.drop (i+1):=by
 obtain⟨hlt,e⟩:=List.getElem?_eq_some_iff.1 h;rw[List.drop_eq_getElem_cons hlt,e]
theorem pO{B:Nat}{a w:World}(h:Below B a w)(n:Nat):Below B a (w.drewN n):=⟨h.os,h.tape,h.output,h.size,h.block⟩
theorem Gn{ka kb:List Int}{last:Int}{used:List Int}{p:P2}{r:List P2}(h:Kj ka kb last used p=false):X7 ka kb last used (p::r)=false:=by
 show(_&&_)=false;rw[h];rfl
theorem Vt{ka kb:List Int}{last x y:Int}{used:List Int}:Kj ka kb last used (x,y)=true↔last<x∧x<(ka.length:Int)∧0≤y∧y<(kb.length:Int)∧used.contains y=false∧ka.getD x.toNat 0=kb.getD y.toNat 0:=by
 simp only[Kj,Bool.and_eq_true,decide_eq_true_eq,Bool.not_eq_true']
 constructor
 ·rintro⟨⟨⟨⟨⟨h1,h2⟩,h3⟩,h4⟩,h5⟩,h6⟩;exact⟨h1,h2,h3,h4,h5,h6⟩
 ·rintro⟨h1,h2,h3,h4,h5,h6⟩;exact⟨⟨⟨⟨⟨h1,h2⟩,h3⟩,h4⟩,h5⟩,h6⟩
theorem Qhf(AX:Option Addr)(CX:Nat)(LX:List Nd)(vP vS vK:Value)(AY:Option Addr)(CY:Nat)(LY:List Nd)(L8 L6 L9:Value)(A:Option Addr)(C:Nat)(L:List P2)(w:World)
 (hX:Fs w (Lo w.heap.size) (ς AX LX.length CX) (YG LX)) (hY:Fs w (Lo w.heap.size) (ς AY LY.length CY) (YG LY)) (hl:Qm w (Lo w.heap.size) (ς A L.length C) L) (hx:LX.length≤100000) (hy:LY.length≤100000) (hL:L.length≤1000000) :
 Calls Tryz.prog 13 #[ξ #[ς AX LX.length CX,vP,vS,vK],ξ #[ς AY LY.length CY,L8,L6,L9],ς A L.length C] w fun e w'=>e=ρ (τ (Z9 (kinds LX) (kinds LY) L))∧Below w.heap.size w w':=by
 obtain⟨NX,dv⟩:∃N,LX.length=N:=⟨_,rfl⟩;obtain⟨NY,dt⟩:∃N,LY.length=N:=⟨_,rfl⟩;obtain⟨M,hM⟩:=Mem.QD (L.length);have SB:=QA dv;have BG:=QA dt;have HM:=QA hM;rw[dv]at hX hx⊢;rw[dt]at hY hy⊢;rw[hM]at hl hL⊢;clear dv dt hM;have b1:=Qz w (θ #[ς AX NX CX,vP,vS,vK] 35);have b2:=Qz (w.alloc (θ #[ς AX NX CX,vP,vS,vK] 35)) (θ #[ς AY NY CY,L8,L6,L9] 35);have hb2:=b1.trans (b2.mono b1.size);have z1:(w.alloc (θ #[ς AX NX CX,vP,vS,vK] 35)).heap.size=w.heap.size+1:=ψ
 have h1:((w.alloc (θ #[ς AX NX CX,vP,vS,vK] 35)).alloc (θ #[ς AY NY CY,L8,L6,L9] 35)).heap[w.heap.size+1]?=some (θ #[ς AY NY CY,L8,L6,L9] 35):=by rw[←z1];exact heap_alloc_new _ _
 have h0:((w.alloc (θ #[ς AX NX CX,vP,vS,vK] 35)).alloc (θ #[ς AY NY CY,L8,L6,L9] 35)).heap[w.heap.size]?=some (θ #[ς AX NX CX,vP,vS,vK] 35):=(b2.block _ ψ).trans (heap_alloc_new _ _);have q0:((w.alloc (θ #[ς AX NX CX,vP,vS,vK] 35)).alloc (θ #[ς AY NY CY,L8,L6,L9] 35)).cell? ⟨w.heap.size,0,none⟩=some (ς AX NX CX):=ZY.at_ (xs:=[ς AX NX CX,vP,vS,vK]) h0 (i:=0) rfl;have q1:((w.alloc (θ #[ς AX NX CX,vP,vS,vK] 35)).alloc (θ #[ς AY NY CY,L8,L6,L9] 35)).cell? ⟨w.heap.size+1,0,none⟩=some (ς AY NY CY):=ZY.at_ (xs:=[ς AY NY CY,L8,L6,L9]) h1 (i:=0) rfl;have HX:=QA (hX.later hb2);have HY:=QA (hY.later hb2);have HL:=QA (hl.later hb2);have HB:=QA hb2;clear hX hY hl b1 b2 hb2 z1 h1 h0;obtain⟨w0,hw0⟩:∃w0,(w.alloc (θ #[ς AX NX CX,vP,vS,vK] 35)).alloc (θ #[ς AY NY CY,L8,L6,L9] 35)=w0:=⟨_,rfl⟩;rw[hw0]at HX HY HL HB q0 q1;obtain⟨gx,hgx⟩:∃g,w.heap.size=g:=⟨_,rfl⟩;have ue:=QA (hgx ▸ q0:w0.cell? ⟨gx,0,none⟩=some (ς AX NX CX));have aD:=QA (hgx ▸ q1:w0.cell? ⟨gx+1,0,none⟩=some (ς AY NY CY));clear q0 q1;go_enter Tryz.func13,Tryz.ntmps13;cases L with
 |nil=>obtain rfl:M=0:=HM.out.symm;exact c23
 |cons p r =>
  obtain⟨x0,y0⟩:=p;obtain⟨b,off,rfl,_,c0,c1⟩:=Qm.at_ HL.out (i:=0) (p:=(x0,y0)) rfl;simp only[Nat.zero_mul,Nat.add_zero]at c0 c1;have M9:0<M:=by rw[←HM.out];simp
  have dz:((M:Int)==0)=false:=by simp;omega
  have hpe:=Ĩ x0 y0 0 0 w0;by_cases hp0:x0=0∧y0=0
  case neg =>
   have hb:((x0==0)&&(y0==0))=false:=by
    cases h:((x0==0)&&(y0==0))with
    |false=>rfl
    |true=>rw[Bool.and_eq_true,beq_iff_eq,beq_iff_eq]at h;exact absurd h hp0
   rw[hb]at hpe;have hv:Z9 (kinds LX) (kinds LY) ((x0,y0)::r)=false:=by
    have:((x0,y0):P2)≠(0,0):=fun e=>hp0 (by injection e with e1 e2;exact⟨e1,e2⟩)
    simp[Z9,this]
   rw[hv];clear hb hv hp0;exact c23
  obtain⟨rfl,rfl⟩:=hp0;rw[show((0:Int)==0&&(0:Int)==0)=true from rfl]at hpe;have hmk:=Ń NY ω w0;obtain⟨R,hR⟩:=Mem.QD (X7 (kinds LX) (kinds LY) (-1) [] ((0,0)::r));have P':=QA hR;have HE:Hid (Z9 (kinds LX) (kinds LY) ((0,0)::r)=R):=by show _=_;rw[←hR];rfl
  obtain⟨L,S4⟩:=Mem.QD (((0,0)::r:List P2));rw[S4]at HL HM P' HE⊢;clear hR S4;have b3:=Qz w0 (θ (bV (List.replicate NY false)).toArray 4);have HK:Hid (ZY (w0.alloc (θ (bV (List.replicate NY false)).toArray 4)) w0.heap.size 4 (bV (V7 NY []))):=by rw[Ų];exact heap_alloc_new w0 _
  have VG:=QA b3;clear b3;obtain⟨gu,cj⟩:∃g,w0.heap.size=g:=⟨_,rfl⟩;have F5:=QA cj;rw[cj]at HK;have q1:=aD.out;go_wp2;clear hmk hpe c0 c1 q1;obtain⟨w3,hw3⟩:=Mem.QD (w0.alloc (θ (bV (List.replicate NY false)).toArray 4));rw[hw3]at HK VG⊢;clear hw3 cj M9 dz hgx
  go_loopw [8,9] (fun s8 s9 W=>∃(i:Nat)(last:Int)(used:List Int),i≤M∧-1≤last∧s9=ι γ (i:Int)∧s8=ι γ last∧Hid (ZY W gu 4 (bV (V7 NY used)))∧Hid (X7 (kinds LX) (kinds LY) last used (L.drop i)=R)∧Hid (Below w0.heap.size w0 W)) (fun _ s _=>M-(intOf s).toNat)
  case atStart=>exact⟨0,-1,[],Nat.zero_le _,Int.le_refl _,rfl,rfl,HK,P',VG⟩
  case round =>
   clear HK VG P';obtain⟨i,last,used,hi,Wt,rfl,rfl,HK,P',VG⟩:=hrel;by_cases hlt:i<M
   ·have hlt':(i:Int)<(M:Int):=ω
    have KZ:(0:Int)≤(i:Int):=ω
    have XW:=QA hlt;obtain⟨⟨x,y⟩,hp⟩:∃p,L[i]?=some p:=⟨_,QN (by rw[HM.out];exact hlt)⟩;have HD:Hid (X7 (kinds LX) (kinds LY) last used ((x,y)::L.drop (i+1))=R):=by have:=P'.out;rwa[drop_at hp]at this
    obtain⟨b',Ni,e',_,c0,c1⟩:=Qm.at_ (HL.out.later VG.out) hp;injection e' with e';injection e' with e1 e2;subst e1;subst e2;simp only at c0 c1;have q0:=(VG.out.cell (p:=⟨gx,0,none⟩) (World.block_lt_of_cell? _ _ ue.out)).trans ue.out;have q1:=(VG.out.cell (p:=⟨gx+1,0,none⟩) (World.block_lt_of_cell? _ _ aD.out)).trans aD.out;clear hp P';go_wp2
    go_quiet (fail)
    go_wp2;have uM:Hid (ZY (wr.drewN nq) gu 4 (bV (V7 NY used))):=HK.out;have KF:Hid (Below w0.heap.size w0 (wr.drewN nq)):=⟨VG.out.os,VG.out.tape,VG.out.output,VG.out.size,VG.out.block⟩;have p0:(wr.drewN nq).cell? ⟨gx,0,none⟩=some (ς AX NX CX):=q0;have p1:(wr.drewN nq).cell? ⟨gx+1,0,none⟩=some (ς AY NY CY):=q1;clear HK VG q0 q1 c0 c1;generalize wr.drewN nq=w4 at *;have TY:=QA (HB.out.trans (KF.out.mono HB.out.size));by_cases t1:x≤last
    ·have d1:decide (x≤last)=true:=decide_eq_true t1;have HV:Hid (Z9 (kinds LX) (kinds LY) L=false):=by
      show _=_;rw[HE.out,←HD.out,Gn];cases hpk:Kj (kinds LX) (kinds LY) last used (x,y)with
      |false=>rfl
      |true=>exact c147
     go_quiet (fail)
     exact c146
    have d1:decide (x≤last)=false:=decide_eq_false t1;by_cases t2:(NX:Int)≤x
    ·have d2:decide ((NX:Int)≤x)=true:=decide_eq_true t2;have HV:Hid (Z9 (kinds LX) (kinds LY) L=false):=by
      show _=_;rw[HE.out,←HD.out,Gn];cases hpk:Kj (kinds LX) (kinds LY) last used (x,y)with
      |false=>rfl
      |true=>exact c147
     go_quiet (fail)
     exact c146
    have d2:decide ((NX:Int)≤x)=false:=decide_eq_false t2;by_cases t3:y<0
    ·have d3:decide (y<0)=true:=decide_eq_true t3;have HV:Hid (Z9 (kinds LX) (kinds LY) L=false):=by
      show _=_;rw[HE.out,←HD.out,Gn];cases hpk:Kj (kinds LX) (kinds LY) last used (x,y)with
      |false=>rfl
      |true=>exact c147
     go_quiet (fail)
     exact c146
    have d3:decide (y<0)=false:=decide_eq_false t3;by_cases t4:(NY:Int)≤y
    ·have d4:decide ((NY:Int)≤y)=true:=decide_eq_true t4;have HV:Hid (Z9 (kinds LX) (kinds LY) L=false):=by
      show _=_;rw[HE.out,←HD.out,Gn];cases hpk:Kj (kinds LX) (kinds LY) last used (x,y)with
      |false=>rfl
      |true=>exact c147
     go_quiet (fail)
     exact c146
    have d4:decide ((NY:Int)≤y)=false:=decide_eq_false t4;obtain⟨xn,rfl⟩:∃xn:Nat,x=(xn:Int):=⟨x.toNat,ω⟩;obtain⟨yn,rfl⟩:∃yn:Nat,y=(yn:Int):=⟨y.toNat,ω⟩;have SQ:xn<NX:=ω
    have Fh:yn<NY:=ω
    have yP:=QA SQ;have Ig:=QA Fh;have GF:Hid (last<(xn:Int)):=by show _<_;omega
    have nG:(0:Int)≤(yn:Int):=ω
    have nR:(0:Int)≤(xn:Int):=ω
    have ke:(yn:Int)<(NY:Int):=ω
    have SP:(xn:Int)<(NX:Int):=ω
    have xG:=uM.out.at_ (N5 (G3 (used:=used) Fh));obtain⟨uc,nV⟩:=Mem.QD (used.contains (yn:Int));rw[nV]at xG;have T5:=QA nV;have e2:decide (NX≤xn)=false:=decide_eq_false ω;have e4:decide (NY≤yn)=false:=decide_eq_false ω;have e3:decide ((yn:Int)<0)=false:=decide_eq_false ω;clear nV SQ Fh t1 t2 t3 t4 d2 d3 d4;cases uc with
    |true =>
     have HV:Hid (Z9 (kinds LX) (kinds LY) L=false):=by
      show _=_;rw[HE.out,←HD.out,Gn];cases hpk:Kj (kinds LX) (kinds LY) last used ((xn:Int),(yn:Int))with
      |false=>rfl
      |true=>obtain⟨h1,h2,h3,h4,h5,h6⟩:=Vt.1 hpk;rw[T5.out]at h5;cases h5
     go_quiet (fail)
     exact c146
    |false =>
     obtain⟨O9,hnx⟩:∃nd,LX[xn]?=some nd:=⟨_,QN (by rw[SB.out];exact yP.out)⟩;obtain⟨O8,Oc⟩:∃nd,LY[yn]?=some nd:=⟨_,QN (by rw[BG.out];exact Ig.out)⟩;obtain⟨bx,ox,rfl,WH⟩:=ē (HX.out.later KF.out) hnx;obtain⟨by',oy,rfl,WG⟩:=ē (HY.out.later KF.out) Oc;have hgx:=Qdw hnx;have M5:=Qdw Oc;obtain⟨kx,sS⟩:∃k,O9.k=k:=⟨_,rfl⟩;obtain⟨ky,R4⟩:∃k,O8.k=k:=⟨_,rfl⟩;rw[sS]at WH hgx;rw[R4]at WG M5;have N0:=QA hgx;have T9:=QA M5;clear hnx Oc sS R4 hgx M5 O9 O8;by_cases hk:kx=ky
     ·subst hk;have d6:(kx==kx)=true:=ψ
      have d7:(kx != kx)=false:=ψ
      have MD:Hid (X7 (kinds LX) (kinds LY) (xn:Int) ((yn:Int)::used) (L.drop (i+1))=R):=by have h:=HD.out;have hp:Kj (kinds LX) (kinds LY) last used ((xn:Int),(yn:Int))=true:=Vt.2 ⟨GF.out,by rw[Uv,SB.out];exact SP,nG,by rw[Uv,BG.out];exact ke,T5.out,by rw[Int.toNat_natCast,Int.toNat_natCast,N0.out,T9.out]⟩;show _=_;rw[←h];show _=(_&&_);rw[hp,Bool.true_and]
      go_quiet (fail)
      have jk:Hid (ZY (w4.drewN nq) gu 4 (bV (V7 NY used))):=uM.out;have LO:Hid (Below w0.heap.size w0 (w4.drewN nq)):=pO KF.out _;clear xG WH WG p0 p1 uM KF TY;generalize w4.drewN nq=w5 at *;have Nv:=jk.out.at_ (N5 (G3 (used:=used) Ig.out));have Mj:=jk.out.free yn;go_wp2
      go_roundw
      case rel=>exact c167
      case measure=>have:=XW.out;simp[intOf];omega
     ·have d6:(kx==ky)=false:=by simp[hk]
      have d7:(kx != ky)=true:=by simp[hk]
      have HV:Hid (Z9 (kinds LX) (kinds LY) L=false):=by
       show _=_;rw[HE.out,←HD.out,Gn];cases hpk:Kj (kinds LX) (kinds LY) last used ((xn:Int),(yn:Int))with
       |false=>rfl
       |true=>exact c169
      go_quiet (fail)
      exact c146
   ·obtain rfl:M=i:=ω
    have hlt':¬(M:Int)<(M:Int):=ω
    have hv:R=true:=by have:=P'.out;rw[List.drop_eq_nil_of_le (by rw[HM.out];exact Nat.le_refl _)]at this;exact this.symm
    have TY:=QA (HB.out.trans (VG.out.mono HB.out.size));have F8:Hid (Z9 (kinds LX) (kinds LY) L=true):=by show _=_;rw[HE.out,hv]
    clear hlt hv;go_wp2;go_ret;exact⟨by rw[F8.out];rfl,TY.out⟩
end Match
namespace Match
open Tree Shape
theorem Ql6(s:Sd)(p q:Nat)(h:ahead s p q=true):¬ahead s q p=true:=by
 unfold ahead at h⊢;simp only[Bool.or_eq_true,Th,decide_eq_true_eq]at h⊢;omega
theorem Qj4(s:Sd){p q:Nat}(h:p≠q)(hn:¬ahead s p q=true):ahead s q p=true:=by
 unfold ahead at hn⊢;simp only[Bool.or_eq_true,Th,decide_eq_true_eq]at hn⊢;omega
theorem Qj3(s:Sd){p q r:Nat}(h:ahead s p q=true)(h':ahead s q r=true):ahead s p r=true:=by
 unfold ahead at h h'⊢;simp only[Bool.or_eq_true,Th,decide_eq_true_eq]at h h'⊢;omega
theorem Qfv(s:Sd)(p:Nat):∀l:List Nat,(U6 s p l).Perm (p::l)
 |[]=>List.Perm.refl _
 |q::r=>by
  unfold U6;split
  ·exact((Qfv s p r).cons q).trans (List.Perm.swap p q r)
  ·exact List.Perm.refl _
theorem Qd7(s:Sd)(p:Nat):∀l:List Nat,p ∉ l→(l.Pairwise fun p q=>ahead s p q=true)→(U6 s p l).Pairwise fun p q=>ahead s p q=true
 |[],_,_=>List.pairwise_singleton _ _
 |q::r,hm,h=>by
  have h':=List.pairwise_cons.1 h;unfold U6;by_cases hc:ahead s q p=true
  ·rw[if_pos hc,List.pairwise_cons];refine⟨fun z hz=>?_,Qd7 s p r (fun hp=>hm (List.mem_cons_of_mem _ hp)) h'.2⟩;rcases(Ub r).1 hz with rfl|hz
   ·exact hc
   ·exact h'.1 z hz
  ·rw[if_neg hc,List.pairwise_cons];have PJ:ahead s p q=true:=Qj4 s (fun e=>hm (by rw[e];exact List.mem_cons_self ..)) hc;refine⟨fun z hz=>?_,h⟩;rcases List.mem_cons.1 hz with rfl|hz
   ·exact PJ
   ·exact Qj3 s PJ (h'.1 z hz)
theorem iK(s:Sd)(l:List Nat)(hl:l.Pairwise (·< ·)):(J7 s l).Perm l∧(J7 s l).Pairwise fun p q=>ahead s p q=true:=by
 have h:∀(l acc:List Nat),l.Pairwise (·< ·)→(∀x∈acc,∀y∈l,x<y)→(acc.Pairwise fun p q=>ahead s p q=true)→(l.foldl (fun acc p=>U6 s p acc) acc).Perm (l++acc)∧(l.foldl (fun acc p=>U6 s p acc) acc).Pairwise fun p q=>ahead s p q=true:=by
  intro l
  induction l with
  |nil=>intro acc _ _ h;exact⟨List.Perm.refl _,h⟩
  |cons p r ih =>
   intro acc hl hb h;have hl':=List.pairwise_cons.1 hl;have hp:p ∉ acc:=fun hp=>absurd (hb p hp p (List.mem_cons_self ..)) (Nat.lt_irrefl _)
   obtain⟨h1,h2⟩:=ih (U6 s p acc) hl'.2 (fun x hx y hy=>by
    rcases(Ub acc).1 hx with rfl|hx
    ·exact hl'.1 y hy
    ·exact hb x hx y (List.mem_cons_of_mem _ hy)) (Qd7 s p acc hp h)
   refine⟨?_,h2⟩;rw[List.foldl_cons];refine h1.trans ?_;exact((Qfv s p acc).append_left r).trans List.perm_middle
 have:=h l [] hl (fun x hx=>by cases hx) List.Pairwise.nil;rw[List.append_nil]at this;exact this
theorem Qd9(s:Sd)(M:List Int):(Jt s M).Pairwise (·<·):=List.pairwise_lt_range.sublist List.filter_sublist
def Qzs:F→F→Bool
 | .cons k x y c _,.cons k' x' y' c' _=>Qzq k x y c k' x' y' c'
 |_,_=>false
def Qzz:F→F→Bool
 | .cons rk _ _ rc _,.cons sk _ _ sc _=>rk==sk&&(rk==33||Qzs rc sc)
 |_,_=>false
def Qwq(a b:Nd):Bool :=
 a.k==b.k&&(a.k==2||((a.k==4||a.k==5||a.k==6)&&a.x.toList==b.x.toList)||(a.k==7&&(a.x.toList==b.x.toList&&Qzz a.c b.c)))
def bM(p:Nd→Bool):Int→Nat→List Nd→Int
 |at',_,[]=>at'
 |at',i,n::r=>if p n then(if 0≤at' then -1 else bM p (i:Int) (i+1) r)else bM p at' (i+1) r
def bB(l:List Nd)(x:Nd):Int:=bM (fun n=>Qwq n x) (-1) 0 l
def fc(X Y:List Nd)(ka kb:List Nat):Nat→List Nd→List P2
 |_,[]=>[]
 |i,x::r=>if 0≤bB Y x∧bB X x=(i:Int)then(((ka.getD i 0:Nat):Int),((kb.getD (bB Y x).toNat 0:Nat):Int))::fc X Y ka kb (i+1) r else fc X Y ka kb (i+1) r
def Qwx(c c':F):List P2:=fc (KH c) (KH c') (places 1 c) (places 1 c') 0 (KH c)
