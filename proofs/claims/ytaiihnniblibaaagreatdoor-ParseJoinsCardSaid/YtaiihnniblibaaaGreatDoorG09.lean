import Derived.Test.YtaiihnniblibaaaGreatDoorG08
import Derived.Deep.LoopGhost
set_option maxHeartbeats 8000000
set_option maxRecDepth 100000
set_option linter.unusedVariables false
open Go.Proofs.Tryz Go.ChangeShapes Go.WideShapes Go.ChangeAt Go.RowKit
open Go.Lib renaming hid→QA
open Go.RowKit.Below renaming refl→QF
open _root_.Nat renaming le_refl→QH,lt_of_lt_of_le→JQ,le_trans→VJ,lt_succ_self→JW
open Go.ByteArray renaming toList_eq→GF
open Go.Value renaming string→σ,int→ι,slice→ς,pointer→π,bool→τ,agg→ξ
open Go.IntKind renaming i64→κ
open Go.Obj renaming cells→θ
open Go.Ending renaming returned→ρ
namespace Go.Proofs.YtaiihnniblibaaaGreatDoor
namespace QB
open Tree ZR Mem
theorem wM:(prog.info? 24).map (fun i=>(i.zero,i.size,i.bytes))=some (some (ξ #[ι κ 0,σ ⟨#[]⟩,σ ⟨#[]⟩,ς none 0 0]),4,64):=by kernel_rfl
theorem zf:∃i0,prog.info? 24=some i0∧i0.zero=some (ξ #[ι κ 0,σ ⟨#[]⟩,σ ⟨#[]⟩,ς none 0 0])∧i0.size=4∧i0.bytes=64:=by
 have h:=wM;cases hi:prog.info? 24 with
 |none=>rw[hi]at h;cases h
 |some i=>rw[hi]at h;simp only[Option.map_some,Option.some.injEq,Prod.mk.injEq]at h;exact⟨i,rfl,h.1,h.2.1,h.2.2⟩
def Kp(w:World)(B0:Nat)(v:Value)(L:List Nd):Prop :=
 ∃ps:List (Nd×Value),ps.map (·.1)=L∧w.ownsRow B0 24 4 v L.length (ps.flatMap Kz)∧∀p∈ps,Fs w (fun b=>B0≤b∧b<w.heap.size∧some b≠v.ownBlock) p.2 p.1.c
section
variable {w w' W:World}{B0 P:Nat}{v:Value}{L:List Nd}
theorem Kp.nil(w:World)(B0:Nat):Kp w B0 (ς none 0 0) []:=⟨[],rfl,World.ownsRow_nil _ _ _ _,fun p hp=>by cases hp⟩
theorem Kp.slice(h:Kp w B0 v L):∃a c,v=ς a L.length c∧L.length≤c∧c≤maxLen:=by
 obtain⟨ps,_,ho,_⟩:=h;rcases ho.2 with⟨h1,h2⟩|⟨g,cap,cur,hv,hg0,hg,q1,q2,q3,q4⟩
 ·exact⟨none,0,by rw[h1,h2],by omega,by unfold maxLen;omega⟩
 ·exact⟨_,cap,hv,q1,q2⟩
theorem Kp.lt(h:Kp w B0 v L){g:Nat}(hg:v.ownBlock=some g):B0≤g∧g<w.heap.size:=by
 obtain⟨ps,_,ho,_⟩:=h;exact ho.lt g hg
theorem Kp.keep(h:Kp w B0 v L)(hos:w'.os=w.os)(hout:w'.output=w.output)(IH:w'.tape=w.tape)(hs:w.heap.size≤w'.heap.size)(hk:∀b,B0≤b→b<w.heap.size→w'.heap[b]?=w.heap[b]?)(hP:P<B0)(hb:ZM P w w'):Kp w' B0 v L:=by
 obtain⟨ps,e,ho,hf⟩:=h;have hg:w.grownBy w' (some P):=⟨hos,IH,hout,hs,fun k hk' hne=>hb.block k hk' (fun e=>hne (by rw[e]))⟩;refine⟨ps,e,ho.kept hg (by
  cases hv:v.ownBlock with
  |none=>exact .inl rfl
  |some g=>exact .inr (fun e=>by have:=(ho.lt g hv).1;have:=Option.some.inj e;omega)),fun p hp=>((hf p hp).keep fun b hb'=>hk b hb'.1 hb'.2.1).more fun b hb'=>⟨hb'.1,JQ hb'.2.1 hs,hb'.2.2⟩⟩
theorem Kp.QS(h:Kp w B0 v L)(hb:ZM P w w')(hP:P<B0):Kp w' B0 v L :=
 h.keep hb.os hb.output hb.tape hb.size (fun b h0 h1=>hb.block b h1 (by omega)) hP hb
theorem Kp.later(h:Kp w B0 v L)(hb:Below w.heap.size w w')(hP:P<B0):Kp w' B0 v L:=h.QS (ZM.of hb P) hP
theorem Kp.row(h:Kp w B0 v L):Uk B0 (Vg L) v w:=by
 obtain⟨ps,h1,ho,hf⟩:=h;rcases ho.2 with⟨rfl,h0⟩|⟨g,cap,cur,rfl,hg0,hg2,q1,q2,q3,q4⟩
 ·rw[List.eq_nil_of_length_eq_zero h0];exact⟨none,0,rfl,none,0,rfl,by omega⟩
 ·have hc:=ho.cells (g:=g) rfl;have ad:∀j,(⟨g,0,none⟩:Addr).add j=⟨g,j,none⟩:=fun j=>by unfold Addr.add;split <;> simp_all
  have hl:=ho.lt g rfl;have hlen:(Vg L).len=L.length:=Gx L;refine⟨some ⟨g,0,none⟩,cap,by rw[hlen],?_⟩;rw[hlen,←h1];refine U2 g ⟨hl.1,hl.2⟩ ps 0 _ cap (by simp) (by rw[h1];exact q1) q2 (fun j u hu=>?_) (fun p hp=>(hf p hp).more fun b hb=>⟨hb.1,hb.2.1⟩) _ (.inr rfl);have:=hc j u hu;rwa[ad,←Nat.zero_add j]at this
end
theorem Fg(w:World){ops:Array Oper}{rest:List Oper}{o:Oper}{a:Act}{Q:Exit→Act→World→Prop}(hgd:o.guard=none)(s x:Operand)
  (ho:o.op=.call { callee:=.builtin .append,args:=#[s,x],argTypes:=#[22,22] }) (P B0:Nat) (hP:P<B0) (v:Value) (L:List Nd) (hs:a.eval s=v) (hown:Kp w B0 v L)
  (k:Int) (tx ty:ByteArray) (c:F) (A:Option Addr) (m C:Nat) (hf:Fs w (fun b=>B0≤b∧b<w.heap.size∧some b≠v.ownBlock) (ς A m C) c) (g:Nat) (hg:g=w.heap.size) (hx:a.eval x=ς (some ⟨g,0,none⟩) 1 1) (hlen:L.length≤10000000) (hB:B0≤w.heap.size)
  (h:∀v' w',Kp w' B0 v' (L++[⟨k,tx,ty,c⟩])→Below B0 w w'→wpList prog ops Q rest (a.put o.dst v') w') :
  wpList prog ops Q (o::rest) a (w.alloc (θ #[ι κ k,σ tx,σ ty,ς A m C] 24)):=by
 obtain⟨i0,hi0,hz0,hz1,hz2⟩:=zf;obtain⟨ps,e1,ho',hf'⟩:=hown;refine zD (P:=prog) (T:=22) (E:=24) (sz:=4) (by_:=64) w hgd s x ho underlying22 hi0 hz0 hz1 hz2 rfl (by decide) B0 v L.length _ [ι κ k,σ tx,σ ty,ς A m C] hs ho' rfl (by intro u hu;simp at hu;rcases hu with rfl|rfl|rfl|rfl <;> rfl) g hg hx hlen (by decide) hB fun v' w' r1 r2 r3 r4=>?_
 have hbl:Below B0 w w':=r3 B0 (fun b hb=>(ho'.lt b hb).1) hB;have hsz:w.heap.size+1≤w'.heap.size:=by have:=r2.size;simpa using this
 have Hi:∀b,B0≤b→b<w.heap.size→some b≠v.ownBlock→w'.heap[b]?=w.heap[b]?:=fun b h1 h2 h3=>(r2.block b (by simp;omega) h3).trans (Below.heap_alloc _ _ _ h2)
 have hne:∀b,b<w.heap.size→some b≠v.ownBlock→some b≠v'.ownBlock:=fun b h1 h2 h3=>by
  rcases r4 with r4|r4
  ·exact h2 (h3.trans r4)
  ·rw[r4]at h3;have:=Option.some.inj h3;omega
 refine h v' w' ⟨ps++[(⟨k,tx,ty,c⟩,ς A m C)],by rw[List.map_append,e1];rfl,by rw[List.length_append,List.flatMap_append];simpa[Kz]using r1,fun p hp=>?_⟩ hbl;rcases List.mem_append.1 hp with hp|hp
 ·exact((hf' p hp).keep fun b hb=>Hi b hb.1 hb.2.1 hb.2.2).more fun b hb=>⟨hb.1,by omega,hne b hb.2.1 hb.2.2⟩
 ·simp only[List.mem_singleton]at hp;subst hp;exact(hf.keep fun b hb=>Hi b hb.1 hb.2.1 hb.2.2).more fun b hb=>⟨hb.1,by omega,hne b hb.2.1 hb.2.2⟩
theorem Rd.UO{α:Type}(x:Rd α):(x.bind fun c l=>.ok c l)=x:=by cases x <;> rfl
theorem Rd.KS{α β γ:Type}(x:Rd α)(f:α→List Tk→Rd β)(g:β→List Tk→Rd γ):(x.bind f).bind g=x.bind fun a l=>(f a l).bind g:=by cases x <;> rfl
theorem X2:∀f:F,Vi f .nil=f
 | .nil=>rfl
 | .cons k x y c r=>by simp only[Vi,X2 r]
theorem Xh:∀(L:List Nd)(n:Nd)(c:F),Vi (Vg L) (Qo n c)=Vi (Vg (L++[n])) c
 |[],n,c=>rfl
 |m::L,n,c=>by simp only[Vg,Qo,Vi,List.cons_append];rw[←Xh L n c];rfl
theorem xu(L:List Nd):Vi (Vg L) .nil=Vg L:=X2 _
def JE(rd:Nat→List Tk→Rd Nd):Prop:=∀d l n r,rd d l=.ok n r→r.length<l.length
theorem aX{z:Nat}{l r:List Tk}{y:ByteArray}(h:over z l=.ok y r):r.length≤l.length:=by
 unfold over at h;repeat' split at h
 all_goals first
  |(simp only[Rd.ok.injEq]at h;obtain⟨-,rfl⟩:=h;first|exact QH _|(simp;omega)|simp)
  |cases h
theorem xH{z:Nat}{rd:Nat→List Tk→Rd Nd}(h:JE rd):JE (item z rd):=by
 intro d l n r hr;unfold item at hr;split at hr
 ·rename_i h5
  cases l with
  |nil=>simp[QB.hd]at h5
  |cons t l =>
   unfold J' at hr;rw[if_pos rfl]at hr;split at hr
   ·cases hr
   ·simp only[Rd.bind_ok,Rd.ok.injEq,List.tail_cons]at hr;obtain⟨-,rfl⟩:=hr;simp
 ·cases h1:rd d l with
  |bad p e=>rw[h1]at hr;cases hr
  |ok m l1 =>
   rw[h1,Rd.bind_ok]at hr;have:=h d l m l1 h1;cases h2:over z l1 with
   |bad p e=>rw[h2]at hr;cases hr
   |ok y l2=>rw[h2,Rd.bind_ok]at hr;simp only[Rd.ok.injEq]at hr;obtain⟨-,rfl⟩:=hr;have:=aX h2;omega
theorem Vx{z:Nat}{l:List Tk}{u:List UInt8}(h:QQ (QB.hd z l) u=true)(hu:u≠[]):∃t r,l=t::r:=by
 cases l with
 |nil=>exfalso;simp only[QB.hd,QQ,e0,beq_iff_eq]at h;exact hu (by rw[←h];simp)
 |cons t r=>exact⟨t,r,rfl⟩
theorem Qq6:Jd 102:=by intro args w;simp[go_sem]
theorem Qnt(P z N:Nat)(v:Value)(rd:Nat→List Tk→Rd Nd)(l:List Tk)(d Bp Bf:Nat)(w:World)(h:PS w P z l d)(hv:Reads P z w N v rd)(hl:l.length<N)(hd:d≤300)
  (hp:w.cell? ⟨Bp,0,none⟩=some (π (some ⟨P,0,none⟩))) (hf:w.cell? ⟨Bf,0,none⟩=some v) (Lj:Bp<w.heap.size) (js:Bf<w.heap.size) :
  Calls prog 102 #[π (some ⟨Bp,0,none⟩),π (some ⟨Bf,0,none⟩)] w (Qn NV w P z d (item z rd d l)):=by
 have HST:=QA (XI.start h);have HC:=QA (Y9 P z N v rd l d _ (h.alloc XO) (hv.later (ZM.of (J8 w) P)) hl hd);obtain⟨gf,fs,GJ,rfl,_,_⟩:=hv;clear h;generalize item z rd d l=R at *;go_enter func102,ntmps102;go_wp2_with fail;refine HC.out.mono ?_;intro e W hp;rcases Ji HST.out hp with⟨p,er,hR,rfl,QD⟩|⟨k,x,y,c,l2,A,C,hR,rfl,hf,hst⟩
 ·have HE:=QA QD;have HR:=QA hR;clear hp QD hR HST HC;go_wp2;exact⟨rfl,Qc HR.out HE.out⟩
 ·have HS:=QA hst;have HF:=QA hf;have HR:=QA hR;obtain⟨⟨r0,r1,r2,r3,y0,y1,y2,y3⟩,g0,g1,g2,g3⟩:=hst.VD;generalize hm:c.len=m at *;have Hm:=QA hm;clear hp hf hst hR HST HC hm;go_wp2;have hfin:=HS.out.ret HR.out Hm.out.symm HF.out;refine bodyPost_ret (results_cell_row rfl _ _ w.heap.size 24 _ (0,0) _ rfl hfin.1 underlying24 rfl Q8) rfl ?_;exact hfin.2
theorem Ql0(P z N:Nat)(v:Value)(rd:Nat→List Tk→Rd Nd)(Bp Bf:Nat)(w:World)(hv:Reads P z w N v rd)(hp:w.cell? ⟨Bp,0,none⟩=some (π (some ⟨P,0,none⟩)))(hf:w.cell? ⟨Bf,0,none⟩=some v)(Lj:Bp<w.heap.size)(js:Bf<w.heap.size)(h1:Bp≠P)(h2:Bf≠P) :
  Reads P z w N (.func (.func 102) #[] #[π (some ⟨Bp,0,none⟩),π (some ⟨Bf,0,none⟩)]) (item z rd) :=
 ⟨_,_,_,rfl,Qq6,fun W hW d l hl hd hps=>Qnt P z N v rd l d Bp Bf W hps (hv.later hW) hl hd ((hW.cell (p:=⟨Bp,0,none⟩) Lj h1).trans hp) ((hW.cell (p:=⟨Bf,0,none⟩) js h2).trans hf) (JQ Lj hW.size) (JQ js hW.size)⟩
theorem PS.below{w w':World}{P z:Nat}{l:List Tk}{d B:Nat}(h:PS w P z l d)(hb:Below B w w')(hP:P<B):PS w' P z l d:=by
 obtain⟨A,n,C,k,L,h,e⟩:=h;exact⟨A,n,C,k,L,h.keep fun b hb'=>hb.block b (by omega),e⟩
theorem ZM.KN{P:Nat}{w w' w2:World}(h:ZM P w w')(hb:Below w.heap.size w' w2):ZM P w w2 :=
 ⟨hb.os.trans h.os,hb.tape.trans h.tape,hb.output.trans h.output,VJ h.size hb.size,fun b h1 h2=>(hb.block b h1).trans (h.block b h1 h2)⟩
theorem df{w w':World}{B0:Nat}{L:List Nd}{v:Value}(h:Uk B0 (Vg L) v w')(hB:w.heap.size≤B0):FV w w' v (Vg L):=by
 obtain⟨A,C,e,hf⟩:=h;exact⟨A,C,e,Q7 hf hB (QH _)⟩
theorem Fh{w w' W:World}{B0:Nat}{v:Value}{L:List Nd}{A:Option Addr}{m C:Nat}{c:F}(hO:Kp w B0 v L)(hf:Fs W (Mi w.heap.size W.heap.size) (ς A m C) c)(hB:B0≤w.heap.size):Fs W (fun b=>B0≤b∧b<W.heap.size∧some b≠v.ownBlock) (ς A m C) c :=
 hf.more fun b hb=>⟨VJ hB hb.1,hb.2,fun e=>by have:=(hO.lt e.symm).2;have:=hb.1;omega⟩
theorem U4(P z N:Nat)(v:Value)(rd:Nat→List Tk→Rd Nd)(hdec:JE rd)(l:List Tk)(d:Nat)(w:World)(h:PS w P z l d)(hv:Reads P z w N v rd)(hl:l.length≤N)(hd:d≤300) :
  Calls prog 90 #[π (some ⟨P,0,none⟩),v] w (Qn FV w P z d (Jy z rd d l)):=by
 obtain⟨gf,fs,GJ,fB,eg,_⟩:=id hv;have hlt:=h.lt;have hb0:Below w.heap.size w ((w.alloc (θ #[π (some ⟨P,0,none⟩)] 42)).alloc (θ #[v] 60)):=((QF _ _).alloc (QH _) _).alloc (by simp) _;have UQ:=QA (ZM.of hb0 P);have YX:=QA (h.later hb0);have HZ:Hid (w.heap.size<((w.alloc (θ #[π (some ⟨P,0,none⟩)] 42)).alloc (θ #[v] 60)).heap.size∧w.heap.size+1<((w.alloc (θ #[π (some ⟨P,0,none⟩)] 42)).alloc (θ #[v] 60)).heap.size):=by exact⟨by simp;omega,by simp⟩
 have Sa:Hid (((w.alloc (θ #[π (some ⟨P,0,none⟩)] 42)).alloc (θ #[v] 60)).cell? ⟨w.heap.size,0,none⟩=some (π (some ⟨P,0,none⟩))):=by show _=_;simp[go_sem]
 have HCF:Hid (((w.alloc (θ #[π (some ⟨P,0,none⟩)] 42)).alloc (θ #[v] 60)).cell? ⟨w.heap.size+1,0,none⟩=some v):=by show _=_;simp[go_sem]
 have FP:=QA (Ql0 P z N v rd w.heap.size (w.heap.size+1) _ (hv.later UQ.out) Sa.out HCF.out HZ.out.1 HZ.out.2 (by omega) (by omega));have IG:w.heap.size≠P:=by omega
 have HU:Hid ((⟨#[123]⟩:ByteArray).toList=[123]):=by show _=_;rw[GF]
 have XY:Hid ((⟨#[125]⟩:ByteArray).toList=[125]):=by show _=_;rw[GF]
 have EX:=QA (xH (z:=z) hdec);have hsp:Jy z rd d l=Jy z rd d l:=rfl;conv at hsp=>rhs;unfold Jy
 have Wm:Hid (QQ (QB.hd z l) [123]=true→l≠[]):=fun hn e=>by
  subst e;obtain⟨t,r,e⟩:=Vx hn (by decide);cases e
 clear hv h hb0 hdec;unfold Jd at eg;subst fB;obtain⟨bb,hbb⟩:=Mem.ZB (QQ (QB.hd z l) [123]);rw[hbb]at hsp Wm;have GU:=QA hbb;clear hbb;cases hbg:J' z bb d l with
 |bad p er =>
  rw[hbg,Rd.QG]at hsp;have QL:=QA hsp;have JR:=QA hbg;clear hsp hbg;go_enter func90,ntmps90;go_wp2;have QO:P<(P+1):=(by omega);have UE:P<(P+1):=(by omega);refine Q3 [5] (G1 5 P z d l l) P (P) [Cd.is (π (some ⟨P,0,none⟩)),Cd.is (π (some ⟨P,0,none⟩)),Cd.is (π (some ⟨P,0,none⟩)),Cd.is (π (some ⟨P,0,none⟩)),Cd.is (τ bb),JV] G1.keep ?start ?steps ?behind
  case start=>intro x;exact⟨fun h=>(by cases h),fun _=>YX.out.drewN 1⟩
  case steps =>
   intro xv W hW;refine⟨?s0,?s1,?s2,?s3,?s4,?s5,trivial⟩;all_goals intro dn hdi QE hcl QC hg K hK
   all_goals(try simp only[Act.put,List.setIfInBounds_toArray,List.set_cons_succ,List.set_cons_zero]at hK)
   case s0|s1=>clear QC QE;have hq:W.cell? ⟨w.heap.size,0,none⟩=some (π (some ⟨P,0,none⟩)):=(hW.one.cell (p:=⟨w.heap.size,0,none⟩) HZ.out.1 IG).trans Sa.out;go_simp;exact hK.out _ _ (QF _ _) rfl
   case s2=>have hx1:xv 1=π (some ⟨P,0,none⟩):=QC 1 (QE 1);clear QC QE;rw[hx1]at hK⊢;go_simp;exact hK.out _ _ (QF _ _) rfl
   case s3=>have hx2:xv 2=π (some ⟨P,0,none⟩):=QC 2 (QE 2);clear QC QE;rw[hx2]at hK⊢;go_simp;exact hK.out _ _ (QF _ _) rfl
   case s4=>have hx3:xv 3=π (some ⟨P,0,none⟩):=QC 3 (QE 3);clear QC QE;rw[hx3]at hK⊢;go_simp;refine(Zq (hg.2 (Q4 hcl hdi (by kernel_rfl))) HU.out GU.out).mono ?_;rintro e W' ⟨rfl,hb⟩;exact hK.out _ _ hb rfl
   case s5=>have hx0:xv 0=π (some ⟨P,0,none⟩):=QC 0 (QE 0);have ZP:xv 4=τ bb:=QC 4 (QE 4);clear QC QE;rw[hx0]at hK⊢;rw[ZP]at hK⊢;go_simp;refine c₁ (Qh (Zr bb P z l d Wm.out (by omega) W (hg.2 hdi)) JR.out) fun W' QD=>?_;exact⟨rfl,Qc QL.out ((UQ.out.trans hW.one).trans QD)⟩
  case behind=>intro dn xv W hW hall hx hg;exact(hx 5:False).elim
 |ok t l1 =>
  obtain⟨-,Hp,ES⟩:=E4 Wm.out hbg;rw[hbg,Rd.bind_ok]at hsp;have vU:l1.length<N:=by rw[ES]at hl;simp only[List.length_cons]at hl;omega
  have QL:=QA hsp;have JR:=QA hbg;clear hsp hbg ES hl;go_enter func90,ntmps90;go_wp2;have QO:P<(P+1):=(by omega);have UE:P<(P+1):=(by omega);refine Q3 [5] (G1 5 P z d l l1) P (P) [Cd.is (π (some ⟨P,0,none⟩)),Cd.is (π (some ⟨P,0,none⟩)),Cd.is (π (some ⟨P,0,none⟩)),Cd.is (π (some ⟨P,0,none⟩)),Cd.is (τ bb),Cd.any] G1.keep ?start ?steps ?behind
  case start=>intro x;exact⟨fun h=>(by cases h),fun _=>YX.out.drewN 1⟩
  case steps =>
   intro xv W hW;refine⟨?s0,?s1,?s2,?s3,?s4,?s5,trivial⟩;all_goals intro dn hdi QE hcl QC hg K hK
   all_goals(try simp only[Act.put,List.setIfInBounds_toArray,List.set_cons_succ,List.set_cons_zero]at hK)
   case s0|s1=>clear QC QE;have hq:W.cell? ⟨w.heap.size,0,none⟩=some (π (some ⟨P,0,none⟩)):=(hW.one.cell (p:=⟨w.heap.size,0,none⟩) HZ.out.1 IG).trans Sa.out;go_simp;exact hK.out _ _ (QF _ _) rfl
   case s2=>have hx1:xv 1=π (some ⟨P,0,none⟩):=QC 1 (QE 1);clear QC QE;rw[hx1]at hK⊢;go_simp;exact hK.out _ _ (QF _ _) rfl
   case s3=>have hx2:xv 2=π (some ⟨P,0,none⟩):=QC 2 (QE 2);clear QC QE;rw[hx2]at hK⊢;go_simp;exact hK.out _ _ (QF _ _) rfl
   case s4=>have hx3:xv 3=π (some ⟨P,0,none⟩):=QC 3 (QE 3);clear QC QE;rw[hx3]at hK⊢;go_simp;refine(Zq (hg.2 (Q4 hcl hdi (by kernel_rfl))) HU.out GU.out).mono ?_;rintro e W' ⟨rfl,hb⟩;exact hK.out _ _ hb rfl
   case s5=>have hx0:xv 0=π (some ⟨P,0,none⟩):=QC 0 (QE 0);have ZP:xv 4=τ bb:=QC 4 (QE 4);clear QC QE;rw[hx0]at hK⊢;rw[ZP]at hK⊢;go_simp;refine(Qf (Zr bb P z l d Wm.out (by omega) W (hg.2 hdi)) JR.out).mono ?_;rintro e W' ⟨v,rfl,hv,hps,QD⟩;exact hK.out _ _ ⟨QP.QS QD,G1.call hps⟩ trivial
  case behind =>
   intro dn xv W hW hall hx hg;have MG:=QA (hg.1 (hall 5));have Lz:=QA hW.one;clear hx hg hall hW;go_wp2;have Rs:=QA (UQ.out.trans Lz.out);have hs0:w.heap.size+2≤W.heap.size:=by have q1:=HZ.out.2;have q2:=Lz.out.size;omega
   have yK:=QA (EX.out (d+1));have hend:Jy z rd d l=(items z (item z rd (d+1)) (l1.length+1) l1).bind fun c l=>(QB.want z [125] l).bind fun _ l=>.ok c l:=QL.out
   have Od:=MG.out.len;have XX:P<W.heap.size:=by omega
   go_loopg [5] (l1.length+1) (fun p s5 wr=>∃(L:List Nd)(l':List Tk),l'.length<p∧L.length+l'.length≤l1.length∧Hid (Kp wr W.heap.size s5 L)∧Hid (PS wr P z l' d)∧Hid (ZM P W wr)∧Hid (∃f,l'.length<f∧items z (item z rd (d+1)) (l1.length+1) l1=(items z (item z rd (d+1)) f l').bind fun c l=>.ok (Vi (Vg L) c) l))
   case atStart=>exact⟨[],l1,by omega,by simp,Kp.nil _ _,MG.out,ZM.refl _ _,_,JW _,(Rd.UO _).symm⟩
   case round =>
    obtain⟨L,l',hp,hl',HO,SG,QR,XE⟩:=hrel;obtain⟨f,hf,VA⟩:=XE.out;obtain⟨f,rfl⟩:∃f',f=f'+1:=⟨f-1,by omega⟩;have hit:items z (item z rd (d+1)) (f+1) l'=items z (item z rd (d+1)) (f+1) l':=rfl;conv at hit=>rhs;unfold items
    have LZ:wr.cell? ⟨w.heap.size,0,none⟩=some (π (some ⟨P,0,none⟩)):=(QR.out.cell (p:=⟨w.heap.size,0,none⟩) (by show w.heap.size<W.heap.size;omega) IG).trans ((Lz.out.cell (p:=⟨w.heap.size,0,none⟩) HZ.out.1 IG).trans Sa.out);have hwr:W.heap.size≤wr.heap.size:=QR.out.size;obtain⟨a,c,rfl,hlc,hcm⟩:=HO.out.slice;unfold maxLen at hcm;cases hb:QQ (QB.hd z l') [125]with
    |true =>
     obtain⟨t,r,rfl⟩:=Vx hb (by decide);rw[hb,if_pos rfl]at hit;rw[hit,Rd.bind_ok,X2]at VA;have hw:QB.want z [125] (t::r)=.ok () r:=by unfold QB.want;rw[if_pos hb];rfl
     have GL:Hid (Jy z rd d l=.ok (Vg L) r):=by show _=_;rw[hend,VA,Rd.bind_ok,hw];rfl
     have HI:=QA (Zq SG.out XY.out hb);have HW:Hid (∀W,PS W P z (t::r) d→Calls prog 70 #[π (some ⟨P,0,none⟩),σ ⟨#[125]⟩] W fun e w'=>∃v,e=ρ v∧UV W w' v ()∧PS w' P z r d∧ZM P W w'):=fun W hW=>Qf (Vt hW XY.out (by decide)) hw
     clear hb hit VA hw hend XE hf;go_wp2_with fail;refine c₁ HI.out fun w1 hb1=>?_;have QJ:=QA hb1;have LM:w1.cell? ⟨w.heap.size,0,none⟩=some (π (some ⟨P,0,none⟩)):=(hb1.cell (p:=⟨w.heap.size,0,none⟩) (by show w.heap.size<wr.heap.size;omega)).trans LZ;clear hb1 LZ;go_wp2_with fail;refine(HW.out w1 (SG.out.later QJ.out)).mono ?_;rintro e w2 ⟨v,rfl,rfl,hps,QD⟩;have Bt:=QA hps;have GA:=QA QD;clear hps QD LM;go_wp2;go_ret;exact Xs GL.out (df (((HO.out.later QJ.out XX).QS GA.out XX).row) (by omega)) Bt.out ((Rs.out.trans (QR.out.ZN QJ.out)).trans GA.out)
    |false =>
     rw[hb,if_neg (by decide)]at hit;have HI:=QA (Zq SG.out XY.out hb);have XS:Hid (∀W',ZM P W W'→PS W' P z l' d→Calls prog 89 #[π (some ⟨P,0,none⟩),ι κ ((1:Nat):Int),.func (.func 102) #[] #[π (some ⟨w.heap.size,0,none⟩),π (some ⟨w.heap.size+1,0,none⟩)]] W' (Qn NV W' P z d (item z rd (d+1) l'))) :=
      fun W' hW' hps=>Kn P z N _ (item z rd) 1 l' d W' hps (FP.out.later (Lz.out.trans hW')) (by omega) (by omega)
     cases hr:item z rd (d+1) l' with
     |bad p2 er =>
      rw[hr]at hit XS;rw[hit]at VA;have GL:Hid (Jy z rd d l=.bad p2 er):=by show _=_;rw[hend,VA];rfl
      clear hb hit VA hend XE hf hr;go_wp2_with fail;refine c₁ HI.out fun w1 hb1=>?_;have QJ:=QA hb1;have LM:w1.cell? ⟨w.heap.size,0,none⟩=some (π (some ⟨P,0,none⟩)):=(hb1.cell (p:=⟨w.heap.size,0,none⟩) (by show w.heap.size<wr.heap.size;omega)).trans LZ;clear hb1 LZ;go_wp2_with fail;refine c₁ (Qh (XS.out w1 (QR.out.ZN QJ.out) (SG.out.later QJ.out)) rfl) fun w2 QD=>?_;have HE:=QA ((Rs.out.trans (QR.out.ZN QJ.out)).trans QD);clear QD LM;go_wp2;exact⟨rfl,Qc GL.out HE.out⟩
     |ok n l2 =>
      obtain⟨nk,nx,ny,nc⟩:=n;have DF:l2.length<l'.length:=yK.out l' _ l2 hr;rw[hr]at hit XS;rw[hit,Rd.bind_ok,Rd.KS]at VA
      have ED:Hid (∃f,l2.length<f∧items z (item z rd (d+1)) (l1.length+1) l1=(items z (item z rd (d+1)) f l2).bind fun c l => .ok (Vi (Vg (L++[⟨nk,nx,ny,nc⟩])) c) l):=⟨f,by omega,by
       rw[VA]
       congr 1
       funext c l
       rw[Rd.bind_ok,Xh]⟩
      clear hb hit VA hend XE hf hr;go_wp2_with fail;refine c₁ HI.out fun w1 hb1=>?_;have QJ:=QA hb1;have LM:w1.cell? ⟨w.heap.size,0,none⟩=some (π (some ⟨P,0,none⟩)):=(hb1.cell (p:=⟨w.heap.size,0,none⟩) (by show w.heap.size<wr.heap.size;omega)).trans LZ;clear hb1 LZ;go_wp2_with fail;refine(Qf (XS.out w1 (QR.out.ZN QJ.out) (SG.out.later QJ.out)) rfl).mono ?_;rintro e w2 ⟨v,rfl,⟨A,C,rfl,hf⟩,hps,QD⟩;have P':=HO.out.later QJ.out XX;have RY:=QA (P'.QS QD XX);have EW:=QA (Fh (w':=w2) P' hf (by have:=QJ.out.size;omega));have Rm:=QA hps;have XG:=QA ((QR.out.ZN QJ.out).trans QD);have ZH:W.heap.size≤w2.heap.size:=XG.out.size;clear P' hf hps QD LM;generalize hm:nc.len=m at *;clear hm;go_wp2_with (at_builtin;refine Fg _ rfl _ _ rfl P W.heap.size XX (ς a L.length c) L rfl RY.out nk nx ny nc A m C EW.out w2.heap.size rfl rfl (by omega) ZH ?_);intro v' w3 Li hb3;have Rn:=QA Li;have GC:=QA hb3;clear Li hb3;go_wp2
      go_roundg (l2.length+1)
      case rel=>exact⟨L++[⟨nk,nx,ny,nc⟩],l2,by omega,by simp;omega,Rn,Rm.out.below GC.out XX,XG.out.KN GC.out,ED⟩
      case measure=>omega
theorem Xk{z:Nat}{u:List UInt8}{l r:List Tk}{x:Unit}(h:QB.want z u l=.ok x r):r=l.tail:=by
 unfold QB.want at h;split at h
 ·simp only[Rd.ok.injEq]at h;exact h.2.symm
 ·cases h
theorem Kx{z:Nat}{u:List UInt8}{l:List Tk}(h:QQ (QB.hd z l) u=true):QB.want z u l=.ok () l.tail:=by
 unfold QB.want;rw[h];rfl
theorem xg(P z N:Nat)(v:Value)(rd:Nat→List Tk→Rd Nd)(hdec:JE rd)(l:List Tk)(d:Nat)(w:World)(h:PS w P z l d)(hv:Reads P z w N v rd)(hl:l.length≤N)(hd:d+1≤300) :
  Calls prog 94 #[π (some ⟨P,0,none⟩),v] w (Qn FV w P z d (list z rd d l)):=by
 have hlt:=h.lt;have FP:=QA hv;have HU:Hid ((⟨#[40]⟩:ByteArray).toList=[40]):=by show _=_;rw[GF]
 have XY:Hid ((⟨#[41]⟩:ByteArray).toList=[41]):=by show _=_;rw[GF]
 have Nc:Hid ((⟨#[44]⟩:ByteArray).toList=[44]):=by show _=_;rw[GF]
 have XQ:=QA (Vt h HU.out (by decide));have hsp:list z rd d l=list z rd d l:=rfl;conv at hsp=>rhs;unfold list
 obtain⟨gf,fs,GJ,rfl,_,_⟩:=hv;have DF:l.length≤10000000:=h.len;clear h;cases hw0:QB.want z [40] l with
 |bad p er=>rw[hw0,Rd.QG]at hsp;rw[hw0]at XQ;have QL:=QA hsp;clear hsp hw0;go_enter func94,ntmps94;go_wp2_with fail;refine c₁ (Qh XQ.out rfl) fun w1 QD=>?_;have HE:=QA QD;clear QD;go_wp2;exact⟨rfl,Qc QL.out HE.out⟩
 |ok x l1 =>
  have ES:=Xk hw0;have vU:l1.length<N:=by
   obtain⟨t,r,rfl⟩:∃t r,l=t::r:=by
    cases l with
    |nil=>simp[QB.want,QB.hd,QQ,e0]at hw0
    |cons t r=>exact⟨t,r,rfl⟩
   rw[ES];simp only[List.length_cons,List.tail_cons]at *;omega
  have Od:l1.length≤10000000:=by rw[ES,List.length_tail];omega
  rw[hw0,Rd.bind_ok]at hsp;rw[hw0]at XQ;have QL:=QA hsp;have yK:=QA (hdec (d+1));clear hsp hw0 ES hl DF hdec;go_enter func94,ntmps94;go_wp2_with fail;refine(Qf XQ.out rfl).mono ?_;rintro e W ⟨v,rfl,rfl,hps,QD⟩;have MG:=QA hps;have Rs:=QA QD;have XX:P<W.heap.size:=by have:=QD.size;omega
  have fA:w.heap.size≤W.heap.size:=QD.size;clear hps QD;go_wp2
  go_loopg [5] (l1.length+1) (fun p s5 wr=>∃(L:List Nd)(l':List Tk),l'.length<p∧L.length+l'.length≤l1.length∧Hid (Kp wr W.heap.size s5 L)∧Hid (PS wr P z l' d)∧Hid (ZM P W wr)∧Hid (∃f,l'.length<f∧args z (rd (d+1)) (l1.length+1) l1=(args z (rd (d+1)) f l').bind fun c l=>.ok (Vi (Vg L) c) l))
  case atStart=>exact⟨[],l1,by omega,by simp,Kp.nil _ _,MG.out,ZM.refl _ _,_,JW _,(Rd.UO _).symm⟩
  case round =>
   obtain⟨L,l',hp,hl',HO,SG,QR,XE⟩:=hrel;obtain⟨f,hf,VA⟩:=XE.out;obtain⟨f,rfl⟩:∃f',f=f'+1:=⟨f-1,by omega⟩;have hit:args z (rd (d+1)) (f+1) l'=args z (rd (d+1)) (f+1) l':=rfl;conv at hit=>rhs;unfold args
   have hwr:W.heap.size≤wr.heap.size:=QR.out.size;obtain⟨a,c,rfl,hlc,hcm⟩:=HO.out.slice;unfold maxLen at hcm;cases hb:QQ (QB.hd z l') [41]with
   |true =>
    rw[hb,if_pos rfl]at hit;rw[hit,Rd.bind_ok,X2]at VA;have hw:=Kx hb;have GL:Hid (list z rd d l=.ok (Vg L) l'.tail):=by show _=_;rw[QL.out,VA,Rd.bind_ok,hw];rfl
    have HI:=QA (Zq SG.out XY.out hb);have HW:Hid (∀W,PS W P z l' d→Calls prog 70 #[π (some ⟨P,0,none⟩),σ ⟨#[41]⟩] W fun e w'=>∃v,e=ρ v∧UV W w' v ()∧PS w' P z l'.tail d∧ZM P W w'):=fun W hW=>Qf (Vt hW XY.out (by decide)) hw
    clear hb hit VA hw XE hf;go_wp2_with fail;refine c₁ HI.out fun w1 hb1=>?_;have QJ:=QA hb1;clear hb1;go_wp2_with fail;refine(HW.out w1 (SG.out.later QJ.out)).mono ?_;rintro e w2 ⟨v,rfl,rfl,hps,QD⟩;have Bt:=QA hps;have GA:=QA QD;clear hps QD;go_wp2;go_ret;exact Xs GL.out (df (((HO.out.later QJ.out XX).QS GA.out XX).row) fA) Bt.out ((Rs.out.trans (QR.out.ZN QJ.out)).trans GA.out)
   |false =>
    rw[hb,if_neg (by decide)]at hit;have HI:=QA (Zq SG.out XY.out hb);have XS:Hid (∀W',ZM P W W'→PS W' P z l' d→Calls prog 89 #[π (some ⟨P,0,none⟩),ι κ ((1:Nat):Int),.func (.func gf) fs GJ] W' (Qn NV W' P z d (rd (d+1) l'))) :=
     fun W' hW' hps=>Kn P z N _ rd 1 l' d W' hps (FP.out.later (Rs.out.trans hW')) (by omega) (by omega)
    cases hr:rd (d+1) l' with
    |bad p2 er =>
     rw[hr]at hit XS;rw[hit]at VA;have GL:Hid (list z rd d l=.bad p2 er):=by show _=_;rw[QL.out,VA];rfl
     clear hb hit VA XE hf hr;go_wp2_with fail;refine c₁ HI.out fun w1 hb1=>?_;have QJ:=QA hb1;clear hb1;go_wp2_with fail;refine c₁ (Qh (XS.out w1 (QR.out.ZN QJ.out) (SG.out.later QJ.out)) rfl) fun w2 QD=>?_;have HE:=QA ((Rs.out.trans (QR.out.ZN QJ.out)).trans QD);clear QD;go_wp2;exact⟨rfl,Qc GL.out HE.out⟩
    |ok n l2 =>
     obtain⟨nk,nx,ny,nc⟩:=n;have DF:l2.length<l'.length:=yK.out l' _ l2 hr;rw[hr]at hit XS;rw[hit,Rd.bind_ok]at VA;have gZ:=QA VA;clear hit VA XE hr hb;cases hb2:QQ (QB.hd z l2) [41]with
     |true =>
      have hc:Uf z l2=.ok () l2:=by unfold Uf;rw[hb2];rfl
      have ED:Hid (∃f,l2.length<f∧args z (rd (d+1)) (l1.length+1) l1=(args z (rd (d+1)) f l2).bind fun c l => .ok (Vi (Vg (L++[⟨nk,nx,ny,nc⟩])) c) l):=⟨f,by omega,by
       rw[gZ.out,hc,Rd.bind_ok,Rd.KS]
       congr 1
       funext c l
       rw[Rd.bind_ok,Xh]⟩
      have Wa:=QA hb2;clear hb2 hc hf;go_wp2_with fail;refine c₁ HI.out fun w1 hb1=>?_;have QJ:=QA hb1;clear hb1;go_wp2_with fail;refine(Qf (XS.out w1 (QR.out.ZN QJ.out) (SG.out.later QJ.out)) rfl).mono ?_;rintro e w2 ⟨v,rfl,⟨A,C,rfl,hf⟩,hps,QD⟩;have P':=HO.out.later QJ.out XX;have RY:=QA (P'.QS QD XX);have EW:=QA (Fh (w':=w2) P' hf (by have:=QJ.out.size;omega));have Rm:=QA hps;have XG:=QA ((QR.out.ZN QJ.out).trans QD);have ZH:W.heap.size≤w2.heap.size:=XG.out.size;clear P' hf hps QD;generalize hm:nc.len=m at *;clear hm;go_wp2_with (at_builtin;refine Fg _ rfl _ _ rfl P W.heap.size XX (ς a L.length c) L rfl RY.out nk nx ny nc A m C EW.out w2.heap.size rfl rfl (by omega) ZH ?_);intro v' w3 Li hb3;have Rn:=QA Li;have EU:=QA (Rm.out.below hb3 XX);have GC:=QA (XG.out.KN hb3);have PR:W.heap.size≤w3.heap.size:=GC.out.size;obtain⟨a3,c3,rfl,_,_⟩:=Li.slice;clear Li hb3;generalize(L++[(⟨nk,nx,ny,nc⟩:Nd)]).length=N3 at *;go_wp2_with fail;refine c₁ (Zq EU.out XY.out Wa.out) fun w4 hb4=>?_;have SH:=QA (Rn.out.later hb4 XX);have LV:=QA (EU.out.later hb4);have Hc:=QA (GC.out.ZN hb4);clear hb4;go_wp2
      go_roundg (l2.length+1)
      case rel=>exact⟨L++[⟨nk,nx,ny,nc⟩],l2,by omega,by simp;omega,SH,LV,Hc,ED⟩
      case measure=>omega
     |false =>
      cases hw:QB.want z [44] l2 with
      |bad p2 er =>
       have hc:Uf z l2=.bad p2 er:=by unfold Uf;rw[hb2];exact hw
       have GL:Hid (list z rd d l=.bad p2 er):=by show _=_;rw[QL.out,gZ.out,hc];rfl
       have Hw:=QA hw;have Wa:=QA hb2;clear hb2 hc hf hw;go_wp2_with fail;refine c₁ HI.out fun w1 hb1=>?_;have QJ:=QA hb1;clear hb1;go_wp2_with fail;refine(Qf (XS.out w1 (QR.out.ZN QJ.out) (SG.out.later QJ.out)) rfl).mono ?_;rintro e w2 ⟨v,rfl,⟨A,C,rfl,hf⟩,hps,QD⟩;have P':=HO.out.later QJ.out XX;have RY:=QA (P'.QS QD XX);have EW:=QA (Fh (w':=w2) P' hf (by have:=QJ.out.size;omega));have Rm:=QA hps;have XG:=QA ((QR.out.ZN QJ.out).trans QD);have ZH:W.heap.size≤w2.heap.size:=XG.out.size;clear P' hf hps QD;generalize hm:nc.len=m at *;clear hm;go_wp2_with (at_builtin;refine Fg _ rfl _ _ rfl P W.heap.size XX (ς a L.length c) L rfl RY.out nk nx ny nc A m C EW.out w2.heap.size rfl rfl (by omega) ZH ?_);intro v' w3 Li hb3;have Rn:=QA Li;have EU:=QA (Rm.out.below hb3 XX);have GC:=QA (XG.out.KN hb3);have PR:W.heap.size≤w3.heap.size:=GC.out.size;obtain⟨a3,c3,rfl,_,_⟩:=Li.slice;clear Li hb3;generalize(L++[(⟨nk,nx,ny,nc⟩:Nd)]).length=N3 at *;go_wp2_with fail;refine c₁ (Zq EU.out XY.out Wa.out) fun w4 hb4=>?_;have SH:=QA (Rn.out.later hb4 XX);have LV:=QA (EU.out.later hb4);have Hc:=QA (GC.out.ZN hb4);clear hb4;go_wp2_with fail;refine c₁ (Qh (Vt LV.out Nc.out (by decide)) Hw.out) fun w5 QD=>?_;have HE:=QA ((Rs.out.trans Hc.out).trans QD);clear QD;go_wp2;exact⟨rfl,Qc GL.out HE.out⟩
      |ok x3 l3 =>
       have hc:Uf z l2=.ok x3 l3:=by unfold Uf;rw[hb2];exact hw
       have SR:l3.length≤l2.length:=by rw[Xk hw,List.length_tail];omega
       have ED:Hid (∃f,l3.length<f∧args z (rd (d+1)) (l1.length+1) l1=(args z (rd (d+1)) f l3).bind fun c l => .ok (Vi (Vg (L++[⟨nk,nx,ny,nc⟩])) c) l):=⟨f,by omega,by
        rw[gZ.out,hc,Rd.bind_ok,Rd.KS]
        congr 1
        funext c l
        rw[Rd.bind_ok,Xh]⟩
       have Hw:=QA hw;have Wa:=QA hb2;clear hb2 hc hf hw;go_wp2_with fail;refine c₁ HI.out fun w1 hb1=>?_;have QJ:=QA hb1;clear hb1;go_wp2_with fail;refine(Qf (XS.out w1 (QR.out.ZN QJ.out) (SG.out.later QJ.out)) rfl).mono ?_;rintro e w2 ⟨v,rfl,⟨A,C,rfl,hf⟩,hps,QD⟩;have P':=HO.out.later QJ.out XX;have RY:=QA (P'.QS QD XX);have EW:=QA (Fh (w':=w2) P' hf (by have:=QJ.out.size;omega));have Rm:=QA hps;have XG:=QA ((QR.out.ZN QJ.out).trans QD);have ZH:W.heap.size≤w2.heap.size:=XG.out.size;clear P' hf hps QD;generalize hm:nc.len=m at *;clear hm;go_wp2_with (at_builtin;refine Fg _ rfl _ _ rfl P W.heap.size XX (ς a L.length c) L rfl RY.out nk nx ny nc A m C EW.out w2.heap.size rfl rfl (by omega) ZH ?_);intro v' w3 Li hb3;have Rn:=QA Li;have EU:=QA (Rm.out.below hb3 XX);have GC:=QA (XG.out.KN hb3);have PR:W.heap.size≤w3.heap.size:=GC.out.size;obtain⟨a3,c3,rfl,_,_⟩:=Li.slice;clear Li hb3;generalize(L++[(⟨nk,nx,ny,nc⟩:Nd)]).length=N3 at *;go_wp2_with fail;refine c₁ (Zq EU.out XY.out Wa.out) fun w4 hb4=>?_;have SH:=QA (Rn.out.later hb4 XX);have LV:=QA (EU.out.later hb4);have Hc:=QA (GC.out.ZN hb4);clear hb4;go_wp2_with fail;refine(Qf (Vt LV.out Nc.out (by decide)) Hw.out).mono ?_;rintro e w5 ⟨v,rfl,rfl,hps,QD⟩;have Wl:=QA (SH.out.QS QD XX);have Rk:=QA hps;have Sd:=QA (Hc.out.trans QD);clear hps QD;go_wp2
       go_roundg (l3.length+1)
       case rel=>exact⟨L++[⟨nk,nx,ny,nc⟩],l3,by omega,by simp;omega,Wl,Rk,Sd,ED⟩
       case measure=>omega
theorem qh(w:World)(B0:Nat)(hB:B0≤w.heap.size)(k:Int)(x y:ByteArray)(c:F)(s:Value)(hf:Fs w (Mi B0 w.heap.size) s c) :
  Fs (w.alloc (θ #[ι κ k,σ x,σ y,s] 24)) (Mi B0 (w.alloc (θ #[ι κ k,σ x,σ y,s] 24)).heap.size) (ς (some ⟨w.heap.size,0,none⟩) 1 1) (one ⟨k,x,y,c⟩) :=
 kM w B0 [(⟨k,x,y,c⟩,s)] _ (by rfl) 1 rfl (by omega) hB (fun p hp=>by simp at hp;subst hp;exact hf)
theorem Vp{k:Int}{x:ByteArray}{p:Nat}{f:Bool}{u:List UInt8}(h:(x.toList==u)=true):QQ ⟨k,x,p,f⟩ u=true:=h
theorem V3{k:Int}{x:ByteArray}{p:Nat}{f:Bool}{u:List UInt8}(h:(x.toList==u)=false):¬QQ ⟨k,x,p,f⟩ u=true:=fun h2=>by
 have h3:(x.toList==u)=true:=h2;rw[h]at h3;cases h3
theorem BZ{w W W':World}{P z d:Nat}{l0 l:List Tk}{n:Nd}{v:Value}(h:XI w W P z d l0)(hv:NV W W' v n)(hps:PS W' P z l d)(hb:ZM P W W'):∃A C,v=ξ #[ι κ n.k,σ n.x,σ n.y,ς A n.c.len C]∧Fs W' (Mi (w.heap.size+1) W'.heap.size) (ς A n.c.len C) n.c∧XI w W' P z d l:=by
 obtain⟨A,C,e,hf⟩:=hv;exact⟨A,C,e,Q7 hf h.size (QH _),h.read hb hps⟩
theorem cZ{w W W':World}{P z d:Nat}{l0 l:List Tk}{c:F}{v:Value}(h:XI w W P z d l0)(hv:FV W W' v c)(hps:PS W' P z l d)(hb:ZM P W W'):∃A C,v=ς A c.len C∧Fs W' (Mi (w.heap.size+1) W'.heap.size) (ς A c.len C) c∧XI w W' P z d l:=by
 obtain⟨A,C,e,hf⟩:=hv;exact⟨A,C,e,Q7 hf h.size (QH _),h.read hb hps⟩
