import Derived.Test.YtaiihnniblibaaaGreatDoorG22
import Derived.Test.YtaiihnniblibaaaGreatDoorG24
import Derived.Tactics
import Derived.Tactics2
import Derived.Defers
import Derived.Recover
import Derived.Laws.Pointers
set_option maxHeartbeats 8000000
set_option maxRecDepth 100000
set_option linter.unusedVariables false
open Go.Proofs.Tryz Go.ChangeShapes Go.WideShapes Go.ChangeAt Go.RowKit
open Go.Lib renaming hid→QA
open Go.RowKit.Below renaming refl→QF
open _root_.Nat renaming le_refl→QH
open _root_.List renaming length_cons→VX,length_append→JF
open Go.Value renaming string→σ,int→ι,slice→ς,pointer→π,bool→τ,agg→ξ
open Go.IntKind renaming i64→κ
open Go.Obj renaming cells→θ
open Go.Ending renaming returned→ρ
namespace Go.Proofs.YtaiihnniblibaaaGreatDoor
namespace QB
open Tree ZR Mem
theorem Q0u(w:World):(Instr.typeAssert .nilIface 20 58 true).run prog w=.ok (.tuple #[ξ #[ι κ 0,ι κ 0],τ false]) w:=by kernel_rfl
theorem Q0v(p er:Int)(w:World):(Instr.typeAssert (.iface 58 (ξ #[ι κ p,ι κ er])) 20 58 true).run prog w=.ok (.tuple #[ξ #[ι κ p,ι κ er],τ true]) w:=by kernel_rfl
theorem dh:Array.replicate 13 undef=#[undef,undef,undef,undef,undef,undef,undef,undef,undef,undef,undef,undef,undef]:=rfl
theorem Qns(a b c:Addr)(w:World) :
  CallsD prog 27 #[π (some a),π (some b),π (some c)] .returning w fun e u' w'=>e=ρ (.tuple #[])∧u'=.returning∧Below w.heap.size w w':=by
 refine callsD_of_wpS func27 rfl fun c₀ cs hu=>?_
 apply wpS_seq;apply wpS_region;simp[wpOpsS,go_sem,recoverD,hu,Q0u,dh,ntmps27,Exit.thenS];refine wpS_of_wp ?_;go_wp2;exact⟨rfl,c₀.mode,rfl,_,by simp[results,Tryz.results27,go_sem],rfl,hu,(QF _ _).alloc (QH _) _⟩
theorem Qjf(R:Nat)(p:Nat)(er:Int)(w:World)(n0 n1 n2 n3:Value)(i1 i2:Value)(h0:Z1 w R 24 n0 n1 n2 n3)(h1:w.heap[R+1]?=some (θ #[i1] 3 (0,0)))(h2:w.heap[R+2]?=some (θ #[i2] 27 (0,0))) :
  CallsD prog 27 #[π (some ⟨R,0,none⟩),π (some ⟨R+1,0,none⟩),π (some ⟨R+2,0,none⟩)] (.panicking (Si p er)) w fun e u' w' =>
   e=ρ (.tuple #[])∧u'=.panicking [{ v:=.iface 58 (ξ #[ι κ (p:Int),ι κ er]),recovered:=true }]∧
    Z1 w' R 24 (ι κ 0) (σ ⟨#[]⟩) (σ ⟨#[]⟩) (ς none 0 0)∧w'.heap[R+1]?=some (θ #[ι κ (p:Int)] 3 (0,0))∧w'.heap[R+2]?=some (θ #[ι κ er] 27 (0,0))∧Below R w w':=by
 refine callsD_of_wpS func27 rfl fun c₀ cs hu=>?_
 apply wpS_seq;apply wpS_region;unfold Si at hu;simp[wpOpsS,go_sem,recoverD,hu,Q0v,dh,ntmps27,Exit.thenS];have hlt:=h0.lt;have ES:=Jk h1;have hl2:=Jk h2;have hb:=(QF w.heap.size w).alloc (QH _) (θ #[ι κ (p:Int),ι κ er] 58);obtain⟨c0,c1,c2,c3⟩:=h0.cells;obtain⟨f0,f1,f2,f3⟩:=h0.VD;have d1:w.cell? ⟨R+1,0,none⟩=some i1:=by simp[World.cell?,h1]
 have d2:w.cell? ⟨R+2,0,none⟩=some i2:=by simp[World.cell?,h2]
 have e1:w.frozen? ⟨R+1,0,none⟩=false:=by simp[World.frozen?,h1]
 have e2:w.frozen? ⟨R+2,0,none⟩=false:=by simp[World.frozen?,h2]
 refine wpS_of_wp ?_;go_wp2
 go_region
 go_wp2;have k0:=h0.ZT (ι κ 0) (σ ⟨#[]⟩) (σ ⟨#[]⟩) (ς none 0 0);have k1:=((QP.ZT (P:=R) (R:=R) w (ι κ 0) (σ ⟨#[]⟩) (σ ⟨#[]⟩) (ς none 0 0)).block (R+1) ES (by omega) (by omega)).trans h1;have k2:=((QP.ZT (P:=R) (R:=R) w (ι κ 0) (σ ⟨#[]⟩) (σ ⟨#[]⟩) (ς none 0 0)).block (R+2) hl2 (by omega) (by omega)).trans h2;have hbl:=(((((((QF R w).setCell (p:=⟨R,0,none⟩) (QH R) (ι κ 0)).setCell (p:=⟨R,1,none⟩) (QH R) (σ ⟨#[]⟩)).setCell (p:=⟨R,2,none⟩) (QH R) (σ ⟨#[]⟩)).setCell (p:=⟨R,3,none⟩) (QH R) (ς none 0 0)).setCell (p:=⟨R+1,0,none⟩) (Nat.le_succ R) (ι κ (p:Int))).setCell (p:=⟨R+2,0,none⟩) (Nat.le_add_right R 2) (ι κ er)).alloc (by simp[World.setCell];omega) (θ #[ι κ (p:Int),ι κ er] 58);generalize hS:((((w.setCell ⟨R,0,none⟩ (ι κ 0)).setCell ⟨R,1,none⟩ (σ ⟨#[]⟩)).setCell ⟨R,2,none⟩ (σ ⟨#[]⟩)).setCell ⟨R,3,none⟩ (ς none 0 0))=S at *;have jn:R<S.heap.size∧R+1<S.heap.size∧R+2<S.heap.size:=⟨k0.lt,Jk k1,Jk k2⟩;have ND:Below S.heap.size ((S.setCell ⟨R+1,0,none⟩ (ι κ (p:Int))).setCell ⟨R+2,0,none⟩ (ι κ er)) (((S.setCell ⟨R+1,0,none⟩ (ι κ (p:Int))).setCell ⟨R+2,0,none⟩ (ι κ er)).alloc (θ #[ι κ (p:Int),ι κ er] 58)):=(QF _ _).alloc (by simp[World.setCell]) _;have m1:=Fm k1 0 (ι κ (p:Int));have m2:=Fm (w:=S.setCell ⟨R+1,0,none⟩ (ι κ (p:Int))) ((Below.heap_setCell S ⟨R+1,0,none⟩ _ (R+2) (by show R+2≠R+1;omega)).trans k2) 0 (ι κ er)
 exact⟨rfl,_,rfl,_,by simp[results,Tryz.results27,go_sem],rfl,rfl,
  (ND.block R jn.1).trans ((k0.other (p:=⟨R+1,0,none⟩) (by show R+1≠R;omega) _).other (p:=⟨R+2,0,none⟩) (by show R+2≠R;omega) _),
  (ND.block (R+1) jn.2.1).trans ((Below.heap_setCell _ ⟨R+2,0,none⟩ _ (R+1) (by show R+1≠R+2;omega)).trans m1),(ND.block (R+2) jn.2.2).trans m2,hbl.drew⟩
def rI(w:World)(P:Nat)(R:Rd Nd)(e:Ending)(w':World):Prop :=
 ZM P w w'∧match R with
 | .ok n _=>∃A C,e=ρ (.tuple #[ξ #[ι κ n.k,σ n.x,σ n.y,ς A n.c.len C],ι κ 0,ι κ 0])∧Fs w' (Mi w.heap.size w'.heap.size) (ς A n.c.len C) n.c
 | .bad p er=>e=ρ (.tuple #[ξ #[ι κ 0,σ ⟨#[]⟩,σ ⟨#[]⟩,ς none 0 0],ι κ (p:Int),ι κ er])
theorem Qqs{W:World}{B0 g:Nat}{s:Value}{f:F}(h:Fs W (Mi B0 W.heap.size) s f)(hg:g+3≤B0)(v0 v1 v2 v3 u1 u2:Value):Fs ((((((W.setCell ⟨g,0,none⟩ v0).setCell ⟨g,1,none⟩ v1).setCell ⟨g,2,none⟩ v2).setCell ⟨g,3,none⟩ v3).setCell ⟨g+1,0,none⟩ u1).setCell ⟨g+1+1,0,none⟩ u2) (Mi B0 ((((((W.setCell ⟨g,0,none⟩ v0).setCell ⟨g,1,none⟩ v1).setCell ⟨g,2,none⟩ v2).setCell ⟨g,3,none⟩ v3).setCell ⟨g+1,0,none⟩ u1).setCell ⟨g+1+1,0,none⟩ u2).heap.size) s f:=by
 rw[show((((((W.setCell ⟨g,0,none⟩ v0).setCell ⟨g,1,none⟩ v1).setCell ⟨g,2,none⟩ v2).setCell ⟨g,3,none⟩ v3).setCell ⟨g+1,0,none⟩ u1).setCell ⟨g+1+1,0,none⟩ u2).heap.size=W.heap.size by simp[World.setCell]];exact Et (p:=⟨g+1+1,0,none⟩) (Et (p:=⟨g+1,0,none⟩) (V4 h (.inl (by omega)) v0 v1 v2 v3) (.inl (by show g+1<B0;omega)) u1) (.inl (by show g+1+1<B0;omega)) u2
theorem Qt4(P z:Nat)(l:List Tk)(w:World)(h:PS w P z l 0) :
  Calls prog 18 #[π (some ⟨P,0,none⟩)] w (rI w P (E1 z l)):=by
 have hmf:∀(fn:Fn)(first cap:Array Value)(w:World),(Instr.makeFunc fn first cap).run prog w=.ok (.func fn first cap) w:=fun _ _ _ _=>rfl
 have hlt:=h.lt;have hb0:Below w.heap.size w (((w.alloc XO).alloc (θ #[ι κ 0] 3)).alloc (θ #[ι κ 0] 27)):=(((QF _ _).alloc (QH _) _).alloc (by simp) _).alloc (by simp;omega) _;have UQ:=QA (ZM.of hb0 P);have HF:=QA (Qvp P z l _ (h.later hb0));have HX:Hid (Z1 (((w.alloc XO).alloc (θ #[ι κ 0] 3)).alloc (θ #[ι κ 0] 27)) w.heap.size 24 (ι κ 0) (σ ⟨#[]⟩) (σ ⟨#[]⟩) (ς none 0 0)):=((Xm w).later ((QF _ _).alloc (QH _) _)).later ((QF _ _).alloc (QH _) _);have HI:Hid ((((w.alloc XO).alloc (θ #[ι κ 0] 3)).alloc (θ #[ι κ 0] 27)).heap[w.heap.size+1]?=some (θ #[ι κ 0] 3 (0,0))):=by have:=heap_alloc_new (w.alloc XO) (θ #[ι κ 0] 3);rw[sj]at this;exact(Below.heap_alloc _ _ _ (by simp)).trans this
 have HE:Hid ((((w.alloc XO).alloc (θ #[ι κ 0] 3)).alloc (θ #[ι κ 0] 27)).heap[w.heap.size+2]?=some (θ #[ι κ 0] 27 (0,0))):=by have:=heap_alloc_new ((w.alloc XO).alloc (θ #[ι κ 0] 3)) (θ #[ι κ 0] 27);rwa[show((w.alloc XO).alloc (θ #[ι κ 0] 3)).heap.size=w.heap.size+2 by simp]at this
 have HS:Hid (w.heap.size+3≤(((w.alloc XO).alloc (θ #[ι κ 0] 3)).alloc (θ #[ι κ 0] 27)).heap.size):=by show _≤_;simp
 clear h hb0
 go_enter_defers func18,ntmps18
 go_wp2_with fail;refine HF.out.mono ?_;intro e W hp;cases hR:E1 z l with
 |bad p er =>
  rw[hR]at hp;obtain⟨rfl,QD⟩:=hp;have kx:=HX.out.QS QD (by omega);have k1:=(QD.block (w.heap.size+1) (by have:=HS.out;omega) (by omega)).trans HI.out;have k2:=(QD.block (w.heap.size+2) (by have:=HS.out;omega) (by omega)).trans HE.out;have GA:=QA (UQ.out.trans QD);have hsz:=QD.size;clear QD;refine leaves_cons (f:=27) (args:=#[π (some ⟨w.heap.size,0,none⟩),π (some ⟨w.heap.size+1,0,none⟩),π (some ⟨w.heap.size+2,0,none⟩)]) (by simp) (by simp[go_sem]) ?_;refine(Qjf w.heap.size p er W _ _ _ _ _ _ kx k1 k2).mono ?_;rintro e u' w'' ⟨rfl,rfl,b4,m1,m2,hbl⟩;obtain⟨c0,c1,c2,c3⟩:=b4.cells;have d1:w''.cell? ⟨w.heap.size+1,0,none⟩=some (ι κ (p:Int)):=by simp[World.cell?,m1]
  have d2:w''.cell? ⟨w.heap.size+1+1,0,none⟩=some (ι κ er):=by simp[World.cell?,m2]
  simp[Leaves,settle,results,Tryz.results18,go_sem,c0,c1,c2,c3,d1,d2];exact⟨GA.out.KN hbl,rfl⟩
 |ok n l2 =>
  rw[hR]at hp;obtain⟨v,rfl,⟨A,C,rfl,hf⟩,hps,QD⟩:=hp;obtain⟨nk,nx,ny,nc⟩:=n;have CJ:=QA (HX.out.QS QD (by omega));have zP:=QA ((QD.block (w.heap.size+1) (by have:=HS.out;omega) (by omega)).trans HI.out);have EJ:=QA ((QD.block (w.heap.size+2) (by have:=HS.out;omega) (by omega)).trans HE.out);have GA:=QA (UQ.out.trans QD);obtain⟨c0,c1,c2,c3⟩:=CJ.out.cells;obtain⟨f0,f1,f2,f3⟩:=CJ.out.VD;have d1:W.cell? ⟨w.heap.size+1,0,none⟩=some (ι κ 0):=by have:=zP.out;simp[World.cell?,this]
  have e1:W.frozen? ⟨w.heap.size+1,0,none⟩=false:=by have:=zP.out;simp[World.frozen?,this]
  have d2:W.cell? ⟨w.heap.size+2,0,none⟩=some (ι κ 0):=by have:=EJ.out;simp[World.cell?,this]
  have e2:W.frozen? ⟨w.heap.size+2,0,none⟩=false:=by have:=EJ.out;simp[World.frozen?,this]
  have VY:=QA hf;have CM:=QA hR;clear QD hf hps hR;go_wp2;refine leaves_cons (f:=27) (args:=#[π (some ⟨w.heap.size,0,none⟩),π (some ⟨w.heap.size+1,0,none⟩),π (some ⟨w.heap.size+2,0,none⟩)]) (by simp) (by simp[go_sem]) ?_;have b4:=((CJ.out.ZT (ι κ nk) (σ nx) (σ ny) (ς A nc.len C)).other (p:=⟨w.heap.size+1,0,none⟩) (by show w.heap.size+1≠w.heap.size;omega) (ι κ 0)).other (p:=⟨w.heap.size+1+1,0,none⟩) (by show w.heap.size+1+1≠w.heap.size;omega) (ι κ 0);have k1:=((QP.ZT (P:=w.heap.size) (R:=w.heap.size) W (ι κ nk) (σ nx) (σ ny) (ς A nc.len C)).block (w.heap.size+1) (Jk zP.out) (by omega) (by omega)).trans zP.out;have k2:=((QP.ZT (P:=w.heap.size) (R:=w.heap.size) W (ι κ nk) (σ nx) (σ ny) (ς A nc.len C)).block (w.heap.size+2) (Jk EJ.out) (by omega) (by omega)).trans EJ.out;have hM:=Qqs VY.out HS.out (ι κ nk) (σ nx) (σ ny) (ς A nc.len C) (ι κ 0) (ι κ 0);have eB:=(((((GA.out.set (p:=⟨w.heap.size,0,none⟩) (.inr (QH _)) (ι κ nk)).set (p:=⟨w.heap.size,1,none⟩) (.inr (QH _)) (σ nx)).set (p:=⟨w.heap.size,2,none⟩) (.inr (QH _)) (σ ny)).set (p:=⟨w.heap.size,3,none⟩) (.inr (QH _)) (ς A nc.len C)).set (p:=⟨w.heap.size+1,0,none⟩) (.inr (Nat.le_succ _)) (ι κ 0)).set (p:=⟨w.heap.size+1+1,0,none⟩) (.inr (by show _≤w.heap.size+1+1;omega)) (ι κ 0);have m1:=(Below.heap_setCell _ ⟨w.heap.size+1+1,0,none⟩ (ι κ 0) (w.heap.size+1) (by show w.heap.size+1≠w.heap.size+1+1;omega)).trans (Fm k1 0 (ι κ 0));have m2:=Fm ((Below.heap_setCell _ ⟨w.heap.size+1,0,none⟩ (ι κ 0) (w.heap.size+2) (by show w.heap.size+2≠w.heap.size+1;omega)).trans k2) 0 (ι κ 0);clear k1 k2;refine(Qns _ _ _ _).mono ?_;rintro e u' w'' ⟨rfl,rfl,hbl⟩;have b5:=b4.later hbl;have n1:=(hbl.block _ (Jk m1)).trans m1;have n2:=(hbl.block _ (Jk m2)).trans m2;have eo:=Q7 (Zc hM hbl (QH _)) (Nat.le_trans (Nat.le_add_right _ 3) HS.out) hbl.size;have OP:=eB.ZN hbl;clear c0 c1 c2 c3 d1 d2 f0 f1 f2 f3 e1 e2 b4 m1 m2 hM eB hbl;obtain⟨c0,c1,c2,c3⟩:=b5.cells;have d1:w''.cell? ⟨w.heap.size+1,0,none⟩=some (ι κ 0):=by simp[World.cell?,n1]
  have d2:w''.cell? ⟨w.heap.size+1+1,0,none⟩=some (ι κ 0):=by simp[World.cell?,n2]
  have GL:Hid (rI w P (E1 z l) (ρ (.tuple #[ξ #[ι κ nk,σ nx,σ ny,ς A nc.len C],ι κ 0,ι κ 0])) w''):=by refine⟨OP,?_⟩;rw[CM.out];exact⟨A,C,rfl,eo⟩
  clear OP eo n1 n2 b5;simp[Leaves,settle,results,Tryz.results18,go_sem,c0,c1,c2,c3,d1,d2];exact GL.out
end QB
namespace Lex
open KL ZR
def Yb(xs:List Int)(w:World)(e:Ending)(w':World):Prop :=
 ∃v,e=ρ (.tuple #[v,ι κ (RJ xs:Int),ι κ (K6 xs)])∧Py w' w.heap.size v (Uz xs)∧Below w.heap.size w w'
theorem Ef{xs:List Int}{w w':World}{v:Value}{nn:Int}{ee:Int}(h1:nn=(RJ xs:Int))(h2:ee=K6 xs)(h3:Py w' w.heap.size v (Uz xs))(h4:Below w.heap.size w w') :
  Yb xs w (ρ (.tuple #[v,ι κ nn,ι κ ee])) w':=⟨v,by rw[h1,h2],h3,h4⟩
theorem Qmg(A:Option Addr)(n cap:Nat)(xs:List Int)(w:World)(B:Nat)(h:RB w B A xs)(hB:B≤w.heap.size)(hn:xs.length=n)(hcap:n≤cap)(ZF:cap≤maxLen)(hsm:n≤1000000)(hT:LO w) :
  Calls prog 17 #[ς A n cap] w (Yb xs w):=by
 have BJ:=QA (oG A n cap xs w B h hn hcap ZF);have ZL:=QA (Qts A n cap xs w B h hB hn hcap ZF hsm hT);have DL:bad xs≤n:=by rw[←hn];exact qy h.Ha
 have Dv:(left xs).length≤n:=by rw[←hn];exact ak xs
 have hE:K6 xs=if bad xs<n then 3 else if left xs=[]then 0 else 4:=by rw[←hn];rfl
 have hN:RJ xs=if bad xs<n then bad xs else if left xs=[]then 0 else n-(left xs).length:=by rw[←hn];rfl
 have SS:Uz xs=if K6 xs=0 then ZQ xs else[]:=rfl
 have hlen:left xs=[]↔(left xs).length=0:=by simp
 have Hn:=QA hn;have hnn:¬(16777216:Int)<(n:Int):=by omega
 unfold maxLen at ZF;clear h hn hT;by_cases hb:bad xs<n
 ·rw[if_pos hb]at hE hN;have hfin:Hid (∀nn ee,nn=(bad xs:Int)→ee=(3:Int)→Yb xs w (ρ (.tuple #[ς none 0 0,ι κ nn,ι κ ee])) w):=fun nn ee h1 h2=>Ef (by rw[h1,hN]) (by rw[h2,hE]) (by rw[SS,hE];exact World.ownsRow_nil _ _ _ _) (Below.refl _ _)
  clear hE hN SS ZL Dv hlen Hn;generalize bad xs=p at *;have hpb:(p:Int)<(n:Int):=by omega
  go_enter func17,ntmps17;go_wp2_with (go_at_call 25;refine BJ.out.mono ?_;rintro e w' ⟨rfl,rfl⟩)
  go_ret3
  exact hfin.out _ _ rfl rfl
 ·rw[if_neg hb]at hE hN;have hpb:¬(bad xs:Int)<(n:Int):=by omega
  generalize bad xs=p at *;by_cases hl:left xs=[]
  ·rw[if_pos hl]at hE hN;have hl0:=hlen.1 hl;have hfin:Hid (∀v w',Py w' w.heap.size v (ZQ xs)→Below w.heap.size w w'→Yb xs w (ρ (.tuple #[v,ι κ 0,ι κ 0])) w'):=fun v w' h1 h2=>Ef (by rw[hN];rfl) hE.symm (by rw[SS,hE];exact h1) h2
   have Po:Hid (Calls prog 26 #[ς A n cap] w fun e w'=>∃v,e=ρ (.tuple #[v,ι κ (n:Int)])∧Py w' w.heap.size v (ZQ xs)∧Below w.heap.size w w'):=ZL.out.mono fun e w' ⟨v,h1,h2,h3⟩=>⟨v,by rw[h1,Hn.out,hl0,Nat.sub_zero],h2,h3⟩
   clear hE hN SS ZL Dv hlen Hn hl hl0;go_enter func17,ntmps17;go_wp2_with (first|(go_at_call 25;refine BJ.out.mono ?_;rintro e w' ⟨rfl,rfl⟩)|(go_at_call 26;refine Po.out.mono ?_;rintro e w' ⟨v,rfl,ho,hbl⟩))
   go_ret3
   exact hfin.out _ _ ho hbl
  ·rw[if_neg hl]at hE hN;have hl0:((n-(left xs).length:Nat):Int)<(n:Int):=by
    have:(left xs).length≠0:=fun e=>hl (hlen.2 e)
    omega
   have hfin:Hid (∀w' nn,nn=((n-(left xs).length:Nat):Int)→Below w.heap.size w w'→Yb xs w (ρ (.tuple #[ς none 0 0,ι κ nn,ι κ 4])) w'):=fun w' nn h1 h2=>Ef (by rw[h1,hN]) hE.symm (by rw[SS,hE];exact World.ownsRow_nil _ _ _ _) h2
   have Po:Hid (Calls prog 26 #[ς A n cap] w fun e w'=>∃v,e=ρ (.tuple #[v,ι κ ((n-(left xs).length:Nat):Int)])∧Py w' w.heap.size v (ZQ xs)∧Below w.heap.size w w'):=ZL.out.mono fun e w' ⟨v,h1,h2,h3⟩=>⟨v,by rw[h1,Hn.out],h2,h3⟩
   clear hE hN SS ZL Dv hlen Hn hl;generalize n-(left xs).length=z at *;go_enter func17,ntmps17;go_wp2_with (first|(go_at_call 25;refine BJ.out.mono ?_;rintro e w' ⟨rfl,rfl⟩)|(go_at_call 26;refine Po.out.mono ?_;rintro e w' ⟨v,rfl,ho,hbl⟩))
   go_ret3
   exact hfin.out _ _ rfl hbl
def k1:List Int:=[120,32,58,61,32,49,32,47,47,32,111,110,101,10,121]
def k2:List Int:=[102,40,10,97,41]
def k3:List Int:=[97,32,36]
def t1:List Tok:=[⟨1,[120],0,true⟩,⟨4,[58,61],2,false⟩,⟨2,[49],5,false⟩,⟨6,[],6,false⟩,⟨5,[47,47,32,111,110,101],7,false⟩,⟨1,[121],14,true⟩,⟨6,[],15,false⟩]
def t2:List Tok:=[⟨1,[102],0,true⟩,⟨4,[40],1,false⟩,⟨1,[97],3,true⟩,⟨4,[41],4,false⟩,⟨6,[],5,false⟩]
theorem aY{w:World}{base:Nat}{v:Value}{L:List Tok}(h:Py w base v L):∃a c,v=ς a L.length c∧L.length≤c∧c≤maxLen∧RT Ye 4 w w.heap.size a L:=by
 obtain⟨a,c,rfl,h1,h2⟩:=Gw h;exact⟨a,c,rfl,h1,h2,kC xM h rfl⟩
end Lex
namespace QB
open Tree ZR Mem KL
theorem qG:∀(ps:List (Int×List Int))(n:Nat)(f:Bool),(Lex.fin ps n f).length≤2*ps.length
 |[],_,_=>QH _
 |(k,t)::ps,n,f=>by
  unfold Lex.fin;split
  ·have:=qG ps (n+t.length) true;simp only[VX];omega
  ·split
   ·have:=qG ps (n+t.length) f;simp only[VX];omega
   ·have:=qG ps (n+t.length) false;simp only[VX,JF];split
    ·simp only[VX,List.length_nil];omega
    ·simp only[List.length_nil];omega
theorem mA:∀{ps:List (Int×List Int)}{l z:List Int},Lex.Zk l ps z→ps.length≤l.length
 |[],_,_,_=>Nat.zero_le _
 |(k,t)::ps,l,z,⟨r,h1,_,h2,h3⟩=>by
  have:=mA h3;rw[h1,JF,VX];omega
theorem Qsl(l:List Int):(Lex.ZQ l).length≤2*l.length:=by
 have h1:=qG (Lex.pieces l) 0 true;have h2:=mA (Lex.Eh l);unfold Lex.ZQ;omega
def Mu(t:Lex.Tok):Tk:=⟨t.kind,strOfNums t.text,t.place,t.first⟩
theorem Q2b{w:World}{B:Nat}{A:Option Addr}{L:List Lex.Tok}(h:RT Lex.Ye 4 w B A L):RT zY 4 w B A (L.map Mu):=by
 rcases h with h|⟨b,e,hl,hc⟩
 ·exact .inl (by rw[h];rfl)
 ·refine .inr ⟨b,e,hl,fun i x hx j u hu=>?_⟩;rw[List.getElem?_map]at hx;cases hi:L[i]? with
  |none=>rw[hi]at hx;cases hx
  |some t =>
   rw[hi]at hx;obtain rfl:Mu t=x:=by simpa using hx
   exact hc i t hi j u hu
def X4(xs:List Int):Rd Nd:=if Lex.K6 xs=0 then E1 xs.length ((Lex.ZQ xs).map Mu)else .bad (Lex.RJ xs) (Lex.K6 xs)
def tS(xs:List Int)(w:World)(e:Ending)(w':World):Prop :=
 Below w.heap.size w w'∧match X4 xs with
 | .ok n _=>∃A C,e=ρ (.tuple #[ξ #[ι κ n.k,σ n.x,σ n.y,ς A n.c.len C],ι κ 0,ι κ 0])∧Fs w' (Mi w.heap.size w'.heap.size) (ς A n.c.len C) n.c
 | .bad p er=>e=ρ (.tuple #[ξ #[ι κ 0,σ ⟨#[]⟩,σ ⟨#[]⟩,ς none 0 0],ι κ (p:Int),ι κ er])
theorem Q09{W:World}{a:Option Addr}{c:Nat}{L:List Tk}(z:Nat)(h:RT zY 4 W W.heap.size a L)(h1:L.length≤c)(h2:c≤maxLen)(hn:L.length≤10000000) :
  PS (W.alloc (θ #[ς a L.length c,ι κ 0,ι κ (z:Int),ι κ 0] 46)) W.heap.size z L 0:=by
 refine⟨a,L.length,c,0,L,⟨heap_alloc_new _ _,h.below ((Below.refl _ _).alloc (QH _) _) (QH _),rfl,Nat.zero_le _,hn,h1,?_⟩,rfl⟩;unfold maxLen at h2;omega
theorem zy(A:Option Addr)(n cap:Nat)(xs:List Int)(w:World)(B:Nat)(h:RB w B A xs)(hB:B≤w.heap.size)(hn:xs.length=n)(hcap:n≤cap)(ZF:cap≤maxLen)(hsm:n≤1000000)(hT:Lex.LO w) :
  Calls prog 9 #[ς A n cap] w (tS xs w):=by
 have hb0:Below w.heap.size w (w.alloc XO):=J8 w;have UL:=QA (Lex.Qmg A n cap xs (w.alloc XO) B (h.below hb0 hB) (Nat.le_trans hB hb0.size) hn hcap ZF hsm (hT.below hb0 hT.pos));have UQ:=QA hb0;have HN:=QA hn;clear h hn hT hb0;go_enter func9,ntmps9;go_wp2_with fail;refine UL.out.mono ?_;rintro e W ⟨v,rfl,ho,hb⟩;obtain⟨a,c,rfl,h1,h2,hrt⟩:=Lex.aY ho;have QK:=QA ((Xm w).later hb);have HB:=QA (UQ.out.trans (hb.mono (by simp)));by_cases hE:Lex.K6 xs=0
 ·have uY:Lex.Uz xs=Lex.ZQ xs:=by unfold Lex.Uz;rw[if_pos hE]
  have hNN:Lex.RJ xs=0:=by
   unfold Lex.K6 at hE;unfold Lex.RJ;split at hE
   ·cases hE
   ·rename_i hh
    rw[if_neg hh];split at hE
    ·rename_i h3;rw[if_pos h3]
    ·cases hE
  have WT:Hid (X4 xs=E1 n ((Lex.ZQ xs).map Mu)):=by show _=_;unfold X4;rw[if_pos hE,HN.out]
  rw[uY]at h1 hrt⊢;rw[hE];have WU:(Lex.ZQ xs).length=((Lex.ZQ xs).map Mu).length:=by simp
  have htl:=Qsl xs;rw[HN.out]at htl;have FP:=QA (Qt4 W.heap.size n _ _ (Q09 n (Q2b hrt) (by rw[←WU];exact h1) h2 (by rw[←WU];omega)));rw[←WU]at FP;generalize(Lex.ZQ xs).map Mu=Ls at *;generalize hm:(Lex.ZQ xs).length=m at *;clear ho hb h1 hrt uY hE WU htl hm;go_wp2_with fail;refine FP.out.mono ?_;intro e W2 hp;obtain⟨QD,hp⟩:=hp;have vE:=QK.out.lt;have JO:=QA ((QK.out.later ((Below.refl _ _).alloc (QH _) (θ #[ς a m c,ι κ 0,ι κ (n:Int),ι κ 0] 46))).QS QD (Nat.ne_of_lt vE));have QR:=QA ((HB.out.trans (((Below.refl _ _).alloc (QH _) (θ #[ς a m c,ι κ 0,ι κ (n:Int),ι κ 0] 46)).mono (Nat.le_of_lt vE))).trans ((QD.lo (by simp)).mono (Nat.le_of_lt vE)));obtain⟨c0,c1,c2,c3⟩:=JO.out.cells;obtain⟨f0,f1,f2,f3⟩:=JO.out.VD;have hsz:w.heap.size≤(W.alloc (θ #[ς a m c,ι κ 0,ι κ (n:Int),ι κ 0] 46)).heap.size:=by simp;omega
  have dD:Hid (w.heap.size<(W.alloc (θ #[ς a m c,ι κ 0,ι κ (n:Int),ι κ 0] 46)).heap.size):=by show _<_;simp;omega
  clear QD hsz;cases hR:E1 n Ls with
  |bad pl er=>rw[hR]at hp;have hp:e=_:=hp;subst hp;have CM:=QA hR;clear hR;go_wp2;have b4:=JO.out.ZT (ι κ 0) (σ ⟨#[]⟩) (σ ⟨#[]⟩) (ς none 0 0);have hbl:=(((QR.out.setCell (p:=⟨w.heap.size,0,none⟩) (QH _) (ι κ 0)).setCell (p:=⟨w.heap.size,1,none⟩) (QH _) (σ ⟨#[]⟩)).setCell (p:=⟨w.heap.size,2,none⟩) (QH _) (σ ⟨#[]⟩)).setCell (p:=⟨w.heap.size,3,none⟩) (QH _) (ς none 0 0);clear c0 c1 c2 c3;obtain⟨c0,c1,c2,c3⟩:=b4.cells;refine bodyPost_ret (v:=.tuple #[ξ #[ι κ 0,σ ⟨#[]⟩,σ ⟨#[]⟩,ς none 0 0],ι κ (pl:Int),ι κ er]) (by simp[results,Tryz.results9,go_sem,c0,c1,c2,c3]) rfl ⟨hbl,?_⟩;rw[WT.out,CM.out]
  |ok nd l2=>rw[hR]at hp;obtain⟨nk,nx,ny,nc⟩:=nd;obtain⟨A2,C2,rfl,hf⟩:=hp;have CM:=QA hR;have VY:=QA hf;clear hR hf;go_wp2;have b4:=JO.out.ZT (ι κ nk) (σ nx) (σ ny) (ς A2 nc.len C2);have hbl:=(((QR.out.setCell (p:=⟨w.heap.size,0,none⟩) (QH _) (ι κ nk)).setCell (p:=⟨w.heap.size,1,none⟩) (QH _) (σ nx)).setCell (p:=⟨w.heap.size,2,none⟩) (QH _) (σ ny)).setCell (p:=⟨w.heap.size,3,none⟩) (QH _) (ς A2 nc.len C2);clear c0 c1 c2 c3;obtain⟨c0,c1,c2,c3⟩:=b4.cells;refine bodyPost_ret (v:=.tuple #[ξ #[ι κ nk,σ nx,σ ny,ς A2 nc.len C2],ι κ 0,ι κ 0]) (by simp[results,Tryz.results9,go_sem,c0,c1,c2,c3]) rfl ⟨hbl,?_⟩;rw[WT.out,CM.out];exact⟨A2,C2,rfl,Q7 (by rw[Z2];exact V4 VY.out (.inl dD.out) _ _ _ _) (Nat.le_of_lt dD.out) (QH _)⟩
 ·have WT:Hid (X4 xs=.bad (Lex.RJ xs) (Lex.K6 xs)):=by show _=_;unfold X4;rw[if_neg hE]
  generalize Lex.K6 xs=er at *;generalize Lex.RJ xs=pl at *;clear ho h1 hrt;have JO:=QK;have QR:=HB;obtain⟨c0,c1,c2,c3⟩:=QK.out.cells;obtain⟨f0,f1,f2,f3⟩:=QK.out.VD;go_wp2;have b4:=JO.out.ZT (ι κ 0) (σ ⟨#[]⟩) (σ ⟨#[]⟩) (ς none 0 0);have hbl:=(((QR.out.setCell (p:=⟨w.heap.size,0,none⟩) (QH _) (ι κ 0)).setCell (p:=⟨w.heap.size,1,none⟩) (QH _) (σ ⟨#[]⟩)).setCell (p:=⟨w.heap.size,2,none⟩) (QH _) (σ ⟨#[]⟩)).setCell (p:=⟨w.heap.size,3,none⟩) (QH _) (ς none 0 0);clear c0 c1 c2 c3;obtain⟨c0,c1,c2,c3⟩:=b4.cells;refine bodyPost_ret (v:=.tuple #[ξ #[ι κ 0,σ ⟨#[]⟩,σ ⟨#[]⟩,ς none 0 0],ι κ (pl:Int),ι κ er]) (by simp[results,Tryz.results9,go_sem,c0,c1,c2,c3]) rfl ⟨hbl,?_⟩;rw[WT.out]
