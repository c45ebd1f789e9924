import Derived.Test.YtaiihnniblibaaaGreatDoorG06
set_option maxHeartbeats 4000000
set_option maxRecDepth 100000
set_option linter.unusedVariables false
open Go.Proofs.Tryz Go.ChangeShapes Go.WideShapes Go.ChangeAt Go.RowKit
open Go.Lib renaming hid→QA
open Go.RowKit.Below renaming refl→QF
open _root_.Nat renaming le_refl→QH,zero_add→JN,lt_of_lt_of_le→JQ,le_trans→VJ
open _root_.List renaming setIfInBounds_toArray→VG,set_cons_succ→VF,set_cons_zero→VE,length_cons→VX
open Go.Value renaming string→σ,int→ι,slice→ς,pointer→π,bool→τ,agg→ξ
open Go.IntKind renaming i64→κ
open Go.Obj renaming cells→θ
open Go.Ending renaming returned→ρ
namespace Go.Proofs.YtaiihnniblibaaaGreatDoor
namespace QB
open Tree ZR Mem
def Jd(gf:Nat):Prop:=∀args w,(callFunc gf args).run prog w=.ok (.enter gf args) w
def Reads(P z:Nat)(w:World)(N:Nat)(v:Value)(rd:Nat→List Tk→Rd Nd):Prop :=
 ∃gf fs GJ,v=.func (.func gf) fs GJ∧Jd gf∧∀W,ZM P w W→∀d l,l.length<N→d≤300→PS W P z l d→Calls prog gf (fs++GJ) W (Qn NV W P z d (rd d l))
theorem Reads.later{P z N:Nat}{w w':World}{v:Value}{rd:Nat→List Tk→Rd Nd}(h:Reads P z w N v rd)(hb:ZM P w w'):Reads P z w' N v rd:=by
 obtain⟨gf,fs,GJ,e,he,hc⟩:=h;exact⟨gf,fs,GJ,e,he,fun W hW=>hc W (hb.trans hW)⟩
abbrev XO:Obj:=θ #[ι κ 0,σ ⟨#[]⟩,σ ⟨#[]⟩,ς none 0 0] 24
theorem Xm(w:World):Z1 (w.alloc XO) w.heap.size 24 (ι κ 0) (σ ⟨#[]⟩) (σ ⟨#[]⟩) (ς none 0 0):=Qv w _ _ _ _ _
theorem J8(w:World):Below w.heap.size w (w.alloc XO):=(QF _ _).alloc (QH _) _
theorem sj(w:World):(w.alloc XO).heap.size=w.heap.size+1:=by simp
theorem Ad{w W:World}{P z d:Nat}{R:Rd Nd}{k:Int}{x y:ByteArray}{c:F}{l:List Tk}{A:Option Addr}{m C:Nat}{B0 B:Nat}(hR:R=.ok ⟨k,x,y,c⟩ l)(hm:m=c.len)(hf:Fs W (Mi B0 B) (ς A m C) c)(Rz:w.heap.size≤B0)(hB:B≤W.heap.size)(hps:PS W P z l d)(hb:ZM P w W) :
  Qn NV w P z d R (ρ (ξ #[ι κ k,σ x,σ y,ς A m C])) W:=by
 subst hm;exact Xs hR ⟨A,C,rfl,Q7 hf Rz hB⟩ hps hb
theorem Kn(P z N:Nat)(v:Value)(rd:Nat→List Tk→Rd Nd)(by_:Nat)(l:List Tk)(d:Nat)(w:World)(h:PS w P z l d)(hv:Reads P z w N v rd)(hl:l.length<N)(hd:d+by_≤300) :
  Calls prog 89 #[π (some ⟨P,0,none⟩),ι κ (by_:Int),v] w (Qn NV w P z d (rd (d+by_) l)):=by
 obtain⟨gf,fs,GJ,rfl,eg,hc⟩:=hv;have hlt:=h.lt;obtain⟨c3,f3⟩:=h.depth;have h1:=(h.deep (d+by_) ((d:Int)+(by_:Int)) (by simp)).alloc XO;have hb1:ZM P w ((w.setCell ⟨P,3,none⟩ (ι κ ((d:Int)+(by_:Int)))).alloc XO):=((ZM.refl P w).set (.inl rfl) _).alloc _;have HC:=QA (hc _ hb1 _ l hl hd h1);have hs1:(w.setCell ⟨P,3,none⟩ (ι κ ((d:Int)+(by_:Int)))).heap.size=w.heap.size:=by simp[World.setCell]
 have HX:Hid (Z1 ((w.setCell ⟨P,3,none⟩ (ι κ ((d:Int)+(by_:Int)))).alloc XO) w.heap.size 24 (ι κ 0) (σ ⟨#[]⟩) (σ ⟨#[]⟩) (ς none 0 0)):=by have:=Xm (w.setCell ⟨P,3,none⟩ (ι κ ((d:Int)+(by_:Int))));rwa[hs1]at this
 have QJ:=QA hb1;have UG:=QA hs1;have iF:P≠w.heap.size:=by omega
 have jo:w.heap.size≠P:=by omega
 clear h hc h1 hb1 hs1 hl;unfold Jd at eg;cases hr:rd (d+by_) l with
 |bad p er=>have Lx:=QA (Qh HC.out hr);clear HC HX hr;go_enter func89,ntmps89;go_wp2_with fail;refine c₁ Lx.out fun w1 hb=>?_;have HB:=QA (QJ.out.trans hb);clear hb;go_wp2;exact⟨rfl,rfl,HB.out⟩
 |ok n r =>
  obtain⟨nk,nx,ny,nc⟩:=n;have Lx:=QA (Qf HC.out hr);clear HC hr;go_enter func89,ntmps89;go_wp2_with fail;refine Lx.out.mono ?_;rintro e W ⟨v,rfl,⟨A,C,rfl,hf⟩,hps,hb⟩;have QZ:=HX.out.QS hb jo;obtain⟨c3',f3'⟩:=hps.depth;have hsz:=hb.size;have hS1:((w.setCell ⟨P,3,none⟩ (ι κ ((d:Int)+(by_:Int)))).alloc XO).heap.size=w.heap.size+1:=by simp[World.setCell]
  have hRW:w.heap.size<W.heap.size:=by omega
  have XX:P<W.heap.size:=by omega
  have fN:W.heap.size≠P:=by omega
  have Mh:P≠W.heap.size:=by omega
  have fM:w.heap.size≠W.heap.size:=by omega
  obtain⟨g0,g1,g2,g3⟩:=QZ.VD;obtain⟨x0,x1,x2,x3⟩:=QZ.cells;rw[hS1]at hf;have HF:=QA hf;have YX:=QA hps;have HB:=QA (QJ.out.trans hb);have QK:=QA QZ;clear hf hps hb QZ c3 f3 hsz hS1 Lx HX QJ UG;generalize hm:nc.len=m at *;have Hm:=QA hm;clear hm;go_wp2;have VN:=(QF _ ((((((W.setCell ⟨P,3,none⟩ (ι κ (d:Int))).setCell ⟨w.heap.size,0,none⟩ (ι κ nk)).setCell ⟨w.heap.size,1,none⟩ (σ nx)).setCell ⟨w.heap.size,2,none⟩ (σ ny)).setCell ⟨w.heap.size,3,none⟩ (ς A m C)))).alloc (QH _) (θ #[ι κ nk,σ nx,σ ny,ς A m C] 24);refine bodyPost_ret (results_cell_row rfl _ _ w.heap.size 24 _ (0,0) _ rfl (((QK.out.other (p:=⟨P,3,none⟩) iF _).ZT _ _ _ _).later VN) underlying24 rfl Q8) rfl ?_;refine Ad (B0:=w.heap.size+1) (B:=W.heap.size) rfl Hm.out.symm (Zc (V4 (Et HF.out (p:=⟨P,3,none⟩) (.inl (by show P<w.heap.size+1;omega)) _) (.inl (by omega)) _ _ _ _) VN (by simp[World.setCell])) (by omega) (VJ (by simp[World.setCell]) VN.size) ?_ ?_
  ·exact(Va (YX.out.deep d _ rfl) hlt _ _ _ _).later VN
  ·exact(Uh (HB.out.set (.inl rfl) _) (QH _) _ _ _ _).ZN VN
structure QP(P R:Nat)(w w':World):Prop where
 os:w'.os=w.os
 tape:w'.tape=w.tape
 output:w'.output=w.output
 size:w.heap.size≤w'.heap.size
 block:∀b,b<w.heap.size→b≠P→b≠R→w'.heap[b]?=w.heap[b]?
section
variable {P R:Nat}{w w' w2:World}
theorem QP.refl(P R:Nat)(w:World):QP P R w w:=⟨rfl,rfl,rfl,QH _,fun _ _ _ _=>rfl⟩
theorem QP.of(h:Below w.heap.size w w'):QP P R w w':=⟨h.os,h.tape,h.output,h.size,fun b hb _ _=>h.block b hb⟩
theorem QP.QS(h:ZM P w w'):QP P R w w':=⟨h.os,h.tape,h.output,h.size,fun b hb h1 _=>h.block b hb h1⟩
theorem QP.trans(h:QP P R w w')(k:QP P R w' w2):QP P R w w2 :=
 ⟨k.os.trans h.os,k.tape.trans h.tape,k.output.trans h.output,VJ h.size k.size,fun b hb h1 h2=>(k.block b (JQ hb h.size) h1 h2).trans (h.block b hb h1 h2)⟩
theorem QP.VI(h:QP P R w.drew w'):QP P R w w':=⟨h.os,h.tape,h.output,h.size,h.block⟩
theorem Q3{Pr:Program}{Q:Exit→Act→World→Prop}{id:Nat}{l:List Oper}{a0:Act}{w:World}(ws:List Nat)(G:(Nat→Bool)→(Nat→Value)→World→Prop)(P R:Nat)(Φ:List (Cd (QP P R))){F:(Nat→Value)→Array Value}
  (hG:∀d d' x x' W W',(∀j,ws.contains j=true→d' j=d j∧(d j=true→x' j=x j))→RowKit.Below W.heap.size W W'→G d x W→G d' x' W')
  (OJ:∀x,G (fun _=>false) x w.drew)
  (hsteps:∀x W,QP P R w W→qD Pr l Q ws G Φ x ⟨F x,a0.defers⟩ W 0 l)
  (hdone:∀d x W,QP P R w W→(∀i,(h:i<l.length:=by decide)→d i=true)→(∀i,(h:i<l.length:=by decide)→(YE Φ i).p (x i) W)→G d x W→Q .normal ⟨F x,a0.defers⟩ W)
  (hF:∀x,Q6 x 0 l a0.tmps=F x:=by intro x;simp only[Q6];simp only[List.setIfInBounds_toArray,List.set_cons_succ,List.set_cons_zero,Nat.zero_add,Nat.reduceAdd];rfl)
  (hm:Pr.follows .mixedOrders=true:=by kernel_rfl) (hn:(Yw l).Nodup:=by decide) (he:Jm l=true:=by kernel_rfl) (hg:J7 l=true:=by kernel_rfl) :
  (Code.region id l.toArray true).wp Pr Q a0 w :=
 Gr ws G (QP P R) Φ (QP.refl _ _ _) (fun _ _ _ h k=>h.trans k) (fun _ _ h=>QP.of h) hG OJ
  (fun x W h=>hsteps x W h.VI) (fun d x W h h1 h2 h3=>hdone d x W h.VI (fun i hi=>h1 i hi) (fun i hi=>h2 i hi) h3) hF hm hn he hg
theorem QP.one(h:QP P P w w'):ZM P w w':=⟨h.os,h.tape,h.output,h.size,fun b hb h1=>h.block b hb h1 h1⟩
theorem QP.ZT(w:World)(v0 v1 v2 v3:Value):QP P R w ((((w.setCell ⟨R,0,none⟩ v0).setCell ⟨R,1,none⟩ v1).setCell ⟨R,2,none⟩ v2).setCell ⟨R,3,none⟩ v3) :=
 ⟨rfl,rfl,rfl,by rw[Z2];exact QH _,fun b _ _ h2=>by
  rw[Below.heap_setCell _ _ _ _ h2,Below.heap_setCell _ _ _ _ h2,Below.heap_setCell _ _ _ _ h2,Below.heap_setCell _ _ _ _ h2]⟩
theorem QP.back{w0:World}(h0:ZM P w0 w)(h:QP P R w w')(hR:w0.heap.size≤R):ZM P w0 w' :=
 ⟨h.os.trans h0.os,h.tape.trans h0.tape,h.output.trans h0.output,VJ h0.size h.size,fun b hb hP=>(h.block b (JQ hb h0.size) hP (by omega)).trans (h0.block b hb hP)⟩
theorem Z1.VV{g:Nat}{T:TypeId}{a b c d:Value}(h:Z1 w g T a b c d)(hb:QP P R w w')(h1:g≠P)(h2:g≠R):Z1 w' g T a b c d:=(hb.block g h.lt h1 h2).trans h
theorem av{B0 B:Nat}{v:Value}{f:F}(h:Fs w (Mi B0 B) v f)(hb:QP P R w w')(hP:P<B0)(hR:R<B0∨B≤R)(hB:B≤w.heap.size):Fs w' (Mi B0 B) v f :=
 h.keep fun b hb'=>hb.block b (JQ hb'.2 hB) (by have:=hb'.1;omega) (by have:=hb'.1;have:=hb'.2;omega)
end
def SZ(B0:Nat)(n:Nd)(v:Value)(w:World):Prop:=∃A C,v=ξ #[ι κ n.k,σ n.x,σ n.y,ς A n.c.len C]∧Fs w (Mi B0 w.heap.size) (ς A n.c.len C) n.c
def Uk(B0:Nat)(c:F)(v:Value)(w:World):Prop:=∃A C,v=ς A c.len C∧Fs w (Mi B0 w.heap.size) (ς A c.len C) c
theorem xj{P R:Nat}{w w':World}{B0:Nat}{v:Value}{f:F}(h:Fs w (Mi B0 w.heap.size) v f)(hb:QP P R w w')(hP:P<B0)(hR:R<B0):Fs w' (Mi B0 w'.heap.size) v f :=
 Q7 (av h hb hP (.inl hR) (QH _)) (QH _) hb.size
theorem SZ.mono{P R:Nat}{w w':World}{B0:Nat}{n:Nd}{v:Value}(h:SZ B0 n v w)(hb:QP P R w w')(hP:P<B0)(hR:R<B0):SZ B0 n v w':=by
 obtain⟨A,C,e,hf⟩:=h;exact⟨A,C,e,xj hf hb hP hR⟩
theorem Uk.mono{P R:Nat}{w w':World}{B0:Nat}{c:F}{v:Value}(h:Uk B0 c v w)(hb:QP P R w w')(hP:P<B0)(hR:R<B0):Uk B0 c v w':=by
 obtain⟨A,C,e,hf⟩:=h;exact⟨A,C,e,xj hf hb hP hR⟩
def Ch{P R:Nat}(B0:Nat)(hP:P<B0)(hR:R<B0)(n:Nd):Cd (QP P R):=⟨SZ B0 n,fun v W W' h hv=>hv.mono h hP hR⟩
def qa{P R:Nat}(B0:Nat)(hP:P<B0)(hR:R<B0)(c:F):Cd (QP P R):=⟨Uk B0 c,fun v W W' h hv=>hv.mono h hP hR⟩
def JV{P R:Nat}:Cd (QP P R):=⟨fun _ _=>False,fun _ _ _ _ h=>h⟩
def Kz(p:Nd×Value):List Value:=[ι κ p.1.k,σ p.1.x,σ p.1.y,p.2]
def Vg:List Nd→F
 |[]=>.nil
 |n::r=>Qo n (Vg r)
theorem Gx:∀l:List Nd,(Vg l).len=l.length
 |[]=>rfl
 |n::r=>by simp only[Vg,Qo,F.len,Gx r,VX]
theorem U2{w:World}{S:Nat→Prop}(g:Nat)(hg:S g):∀(ps:List (Nd×Value))(off n C:Nat),ps.length=n→n≤C→C≤9223372036854775807→(∀j u,(ps.flatMap Kz)[j]?=some u→w.cell? ⟨g,off+j,none⟩=some u)→(∀p∈ps,Fs w S p.2 p.1.c)→∀A,(ps=[]∨A=some ⟨g,off,none⟩)→Fs w S (ς A n C) (Vg (ps.map (·.1)))
 |[],off,n,C,hn,h1,h2,hc,hf,A,hA=>by
  have:n=0:=by simpa using hn.symm
  subst this;exact⟨A,C,rfl,h2⟩
 |p::ps,off,n,C,hn,h1,h2,hc,hf,A,hA=>by
  obtain⟨m,rfl⟩:∃m,n=m+1:=⟨ps.length,by simpa using hn.symm⟩;obtain⟨D,rfl⟩:∃D,C=D+1:=⟨C-1,by omega⟩;rcases hA with hA|hA
  ·cases hA
  subst hA;have hlen:ps.length=m:=by simpa using hn
  refine⟨g,off,m,D,p.2,rfl,by rw[Gx,List.length_map,hlen],by omega,h2,hg,?_,?_,?_,?_,hf p (by simp),fun A' hA'=>?_⟩
  ·have:=hc 0 _ (by rfl);simpa using this
  ·exact hc 1 _ (by rfl)
  ·exact hc 2 _ (by rfl)
  ·exact hc 3 _ (by rfl)
  ·refine U2 g hg ps (off+4) m D hlen (by omega) (by omega) (fun j u hu => ?_) (fun q hq=>hf q (by simp[hq])) A' (by
    rcases hA' with h|h
    ·left
     cases ps with
     |nil=>rfl
     |cons q qs=>simp[Vg,Qo]at h
    ·exact .inr h)
   have:=hc (4+j) u (by rw[List.flatMap_cons,List.getElem?_append_right (by simp[Kz])];simpa[Kz]using hu)
   rwa[show off+4+j=off+(4+j)by omega]
theorem kM(w:World)(B0:Nat)(ps:List (Nd×Value))(cs:Array Value)(hcs:cs=(ps.flatMap Kz).toArray)(n:Nat)(hn:ps.length=n)(Ld:n≤1000000)(hB:B0≤w.heap.size)(hf:∀p∈ps,Fs w (Mi B0 w.heap.size) p.2 p.1.c) :
  Fs (w.alloc (θ cs 24)) (Mi B0 (w.alloc (θ cs 24)).heap.size) (ς (some ⟨w.heap.size,0,none⟩) n n) (Vg (ps.map (·.1))):=by
 have hb:Below w.heap.size w (w.alloc (θ cs 24)):=(QF _ _).alloc (QH _) _;refine U2 w.heap.size ⟨hB,by simp⟩ ps 0 n n hn (QH _) (by omega) (fun j u hu=>?_) (fun p hp=>Q7 (Zc (hf p hp) hb (QH _)) (QH _) hb.size) _ (.inr rfl);rw[JN,World.cell?_alloc_at _ _ _ _ rfl,hcs];simpa using hu
theorem Zi(w:World)(B0:Nat)(hB:B0≤w.heap.size)(k:Int)(x y:ByteArray)(c:F)(s:Value)(hf:Fs w (Mi B0 w.heap.size) s c) :
  Uk B0 (one ⟨k,x,y,c⟩) (ς (some ⟨w.heap.size,0,none⟩) 1 1) (w.alloc (θ #[ι κ k,σ x,σ y,s] 24)) :=
 ⟨some ⟨w.heap.size,0,none⟩,1,rfl,kM w B0 [(⟨k,x,y,c⟩,s)] _ (by rfl) 1 rfl (by omega) hB (fun p hp=>by simp at hp;subst hp;exact hf)⟩
theorem Q23(w:World)(B0:Nat)(hB:B0≤w.heap.size)(k:Int)(x y:ByteArray)(c:F)(s:Value)(hf:Fs w (Mi B0 w.heap.size) s c)(k2:Int)(x2 y2:ByteArray)(c2:F)(s2:Value)(hf2:Fs w (Mi B0 w.heap.size) s2 c2) :
  Uk B0 (Qo ⟨k,x,y,c⟩ (one ⟨k2,x2,y2,c2⟩)) (ς (some ⟨w.heap.size,0,none⟩) 2 2) (w.alloc (θ #[ι κ k,σ x,σ y,s,ι κ k2,σ x2,σ y2,s2] 24)) :=
 ⟨some ⟨w.heap.size,0,none⟩,2,rfl,kM w B0 [(⟨k,x,y,c⟩,s),(⟨k2,x2,y2,c2⟩,s2)] _ (by rfl) 2 rfl (by omega) hB (fun p hp=>by
  simp only[List.mem_cons,List.not_mem_nil,or_false]at hp;rcases hp with rfl|rfl <;> assumption)⟩
def GN(s r:Nat)(P z d:Nat)(l l':List Tk)(Fin Bx:World→Prop):(Nat→Bool)→(Nat→Value)→World→Prop :=
 fun dn _ W=>(dn r=true→Fin W)∧(dn r=false→Bx W)∧(dn s=true→PS W P z l' d)∧(dn s=false→PS W P z l d)
section
variable {s r P z d:Nat}{l l':List Tk}{Fin Bx:World→Prop}{W W':World}{dn:Nat→Bool}{x x':Nat→Value}
theorem GN.keep(hF:∀W W',Below W.heap.size W W'→Fin W→Fin W')(hB:∀W W',Below W.heap.size W W'→Bx W→Bx W') :
  ∀d1 d2 x x' W W',(∀j,[s,r].contains j=true→d2 j=d1 j∧(d1 j=true→x' j=x j))→Below W.heap.size W W'→GN s r P z d l l' Fin Bx d1 x W→GN s r P z d l l' Fin Bx d2 x' W':=by
 intro d1 d2 x x' W W' hj hb hg;have e1:=(hj s (by simp)).1;have e2:=(hj r (by simp)).1;unfold GN at hg⊢;rw[e1,e2];exact⟨fun h=>hF _ _ hb (hg.1 h),fun h=>hB _ _ hb (hg.2.1 h),fun h=>(hg.2.2.1 h).later hb,fun h=>(hg.2.2.2 h).later hb⟩
theorem GN.same(hg:GN s r P z d l l Fin Bx dn x W):PS W P z l d:=by
 cases h:dn s with
 |true=>exact hg.2.2.1 h
 |false=>exact hg.2.2.2 h
theorem GN.call(vH:s≠r)(hg:GN s r P z d l l' Fin Bx dn x W)(hdr:dn r=false)(hB:Bx W→Bx W')(hps:PS W' P z l' d):GN s r P z d l l' Fin Bx (Xq dn s) x' W':=by
 have e1:Xq dn s s=true:=by simp[Xq]
 have e2:Xq dn s r=false:=by unfold Xq;rw[if_neg (Ne.symm vH)];exact hdr
 refine⟨fun h=>?_,fun _=>hB (hg.2.1 hdr),fun _=>hps,fun h=>?_⟩
 ·rw[e2]at h;cases h
 ·rw[e1]at h;cases h
theorem GN.store(vH:s≠r)(hds:dn s=true)(hF:Fin W')(hps:PS W' P z l' d):GN s r P z d l l' Fin Bx (Xq dn r) x' W':=by
 have e1:Xq dn r s=true:=by unfold Xq;rw[if_neg vH];exact hds
 have e2:Xq dn r r=true:=by simp[Xq]
 refine⟨fun _=>hF,fun h=>?_,fun _=>hps,fun h=>?_⟩
 ·rw[e2]at h;cases h
 ·rw[e1]at h;cases h
end
def G1(s:Nat)(P z d:Nat)(l l':List Tk):(Nat→Bool)→(Nat→Value)→World→Prop:=fun dn _ W=>(dn s=true→PS W P z l' d)∧(dn s=false→PS W P z l d)
theorem G1.keep{s P z d:Nat}{l l':List Tk}:∀d1 d2 x x' W W',(∀j,[s].contains j=true→d2 j=d1 j∧(d1 j=true→x' j=x j))→Below W.heap.size W W'→G1 s P z d l l' d1 x W→G1 s P z d l l' d2 x' W':=by
 intro d1 d2 x x' W W' hj hb hg;have e1:=(hj s (by simp)).1;unfold G1 at hg⊢;rw[e1];exact⟨fun h=>(hg.1 h).later hb,fun h=>(hg.2 h).later hb⟩
theorem G1.call{s P z d:Nat}{l l':List Tk}{W':World}{dn:Nat→Bool}{x':Nat→Value}(hps:PS W' P z l' d):G1 s P z d l l' (Xq dn s) x' W':=by
 have e1:Xq dn s s=true:=by simp[Xq]
 refine⟨fun _=>hps,fun h=>?_⟩;rw[e1]at h;cases h
def Ge(B0 R:Nat)(n:Nd)(W:World):Prop:=∃A C,Z1 W R 24 (ι κ n.k) (σ n.x) (σ n.y) (ς A n.c.len C)∧Fs W (Mi B0 W.heap.size) (ς A n.c.len C) n.c
theorem Ge.later{B0 R:Nat}{n:Nd}(W W':World)(hb:Below W.heap.size W W')(h:Ge B0 R n W):Ge B0 R n W':=by
 obtain⟨A,C,h1,h2⟩:=h;exact⟨A,C,h1.later hb,Q7 (Zc h2 hb (QH _)) (QH _) hb.size⟩
def JZ(R:Nat)(W:World):Prop:=∃a b c d,Z1 W R 24 a b c d
theorem JZ.later{R:Nat}(W W':World)(hb:Below W.heap.size W W')(h:JZ R W):JZ R W':=by
 obtain⟨a,b,c,d,h⟩:=h;exact⟨a,b,c,d,h.later hb⟩
theorem JZ.QS{P R:Nat}{W W':World}(h:JZ R W)(hb:ZM P W W')(hR:R≠P):JZ R W':=by
 obtain⟨a,b,c,d,h⟩:=h;exact⟨a,b,c,d,h.QS hb hR⟩
theorem Ge.QS{P B0 R:Nat}{n:Nd}{W W':World}(h:Ge B0 R n W)(hb:ZM P W W')(hR:R≠P)(hP:P<B0):Ge B0 R n W':=by
 obtain⟨A,C,h1,h2⟩:=h;exact⟨A,C,h1.QS hb hR,Q7 (ki h2 hb hP (QH _)) (QH _) hb.size⟩
theorem qW{B0 R:Nat}{k:Int}{x y:ByteArray}{c:F}{A:Option Addr}{m C:Nat}{W:World}(hx:JZ R W)(hm:m=c.len)(hf:Fs W (Mi B0 W.heap.size) (ς A m C) c)(hR:R<B0) :
  Ge B0 R ⟨k,x,y,c⟩ ((((W.setCell ⟨R,0,none⟩ (ι κ k)).setCell ⟨R,1,none⟩ (σ x)).setCell ⟨R,2,none⟩ (σ y)).setCell ⟨R,3,none⟩ (ς A m C)):=by
 subst hm;obtain⟨a,b,c,d,hx⟩:=hx;exact⟨A,C,hx.ZT _ _ _ _,by rw[Z2];exact V4 hf (.inl hR) _ _ _ _⟩
theorem qA{w W:World}{P z d R:Nat}{Rr:Rd Nd}{n:Nd}{l:List Tk}{B0:Nat}(hR:Rr=.ok n l)(hf:Ge B0 R n W)(Rz:w.heap.size≤B0)(hps:PS W P z l d)(hb:ZM P w W) :
  ∃A C,W.heap[R]?=some (θ #[ι κ n.k,σ n.x,σ n.y,ς A n.c.len C] 24 (0,0))∧Qn NV w P z d Rr (ρ (ξ #[ι κ n.k,σ n.x,σ n.y,ς A n.c.len C])) W:=by
 obtain⟨A,C,h1,h2⟩:=hf;obtain⟨k,x,y,c⟩:=n;exact⟨A,C,h1,Ad hR rfl h2 Rz (QH _) hps hb⟩
theorem Q4{l:List Oper}{dn:Nat→Bool}{i r:Nat}(hcl:∀k j,dn k=true→Um l k j=true→dn j=true)(hd:dn i=false)(hw:Um l r i=true):dn r=false:=by
 cases h:dn r with
 |false=>rfl
 |true=>rw[hcl r i h hw]at hd;cases hd
theorem E4{z d:Nat}{f:Bool}{l r:List Tk}{t:Tk}(hf:f=true→l≠[])(h:J' z f d l=.ok t r):f=true∧d≤256∧l=t::r:=by
 unfold J' at h;split at h
 ·rename_i MR
  split at h
  ·cases h
  ·cases l with
   |nil=>exact absurd rfl (hf MR)
   |cons t' r'=>simp only[hd,List.tail_cons,Rd.ok.injEq]at h;exact⟨MR,by omega,by rw[h.1,h.2]⟩
 ·cases h
def Xj(f:Nat)(P z N:Nat)(rd:Nat→List Tk→Rd Nd):Prop:=∀W d l,l.length<N→d≤300→PS W P z l d→Calls prog f #[π (some ⟨P,0,none⟩)] W (Qn NV W P z d (rd d l))
theorem nY(P z N:Nat)(rd:Nat→List Tk→Rd Nd)(hty:Xj 72 P z N rd)(k:Int)(l:List Tk)(d:Nat)(w:World)(h:PS w P z l d)(hl:l.length≤N)(hd:d≤300) :
  Calls prog 103 #[π (some ⟨P,0,none⟩),ι κ k] w (Qn NV w P z d (Vq z k rd d l)):=by
 have hlt:=h.lt;have h0:=h.alloc XO;have HN:=QA (Vk P z l d _ h0);have HI:=QA (fun W=>G4 (QB.hd z l) W);have JR:Hid (∀W,Below (w.alloc XO).heap.size (w.alloc XO) W→Calls prog 66 #[π (some ⟨P,0,none⟩),τ (Je (QB.hd z l))] W (Qn TV W P z d (J' z (Je (QB.hd z l)) d l))) :=
  fun W hW=>Zr _ P z l d (fun hn e=>by subst e;simp[QB.hd,Je]at hn) (by omega) W (h0.later hW)
 have hs0:=sj w;have UQ:=QA (J8 w);have FK:=QA (Xm w);have UH:=QA hs0;have yh:=QA hty;have hsp:Vq z k rd d l=Vq z k rd d l:=rfl;conv at hsp=>rhs;unfold Vq
 have KF:Je (QB.hd z l)=true→l≠[]:=fun hn e=>by subst e;simp[QB.hd,Je]at hn
 cases hr:J' z (Je (QB.hd z l)) d l with
 |bad p er=>rw[hr,Rd.QG]at hsp;rw[hr]at JR;rw[hsp];clear h h0 hsp hr hs0 hty yh KF;generalize QB.hd z l=t at *;generalize Je t=bb at *;go_enter func103,ntmps103;go_wp2_with fail;refine c₁ HN.out fun w1 hb1=>?_;have QJ:=QA hb1;clear hb1;go_wp2_with fail;refine c₁ (HI.out w1) fun w2 hb2=>?_;have QR:=QN QJ hb2;clear hb2;go_wp2_with fail;refine c₁ (Qh (JR.out w2 QR.out) rfl) fun w3 hb3=>?_;have XG:=QA hb3;clear hb3;go_wp2;exact⟨rfl,rfl,(ZM.of (UQ.out.trans (QR.out.mono (by rw[UH.out];omega))) P).trans XG.out⟩
 |ok t r =>
  obtain⟨-,Hp,rfl⟩:=E4 KF hr;rw[hr,Rd.bind_ok]at hsp;rw[hr]at JR;have hrl:r.length<N:=by simp only[VX]at hl;omega
  have Wf:Hid (∀W,PS W P z r d→Calls prog 72 #[π (some ⟨P,0,none⟩)] W (Qn NV W P z d (rd d r))):=fun W hW=>yh.out W d r hrl hd hW
  rw[hsp];clear h h0 hsp hr hs0 hty yh KF hrl hl;simp only[QB.hd]at *;generalize Je t=bb at *;cases hr2:rd d r with
  |bad p er =>
   rw[Rd.QG];have ya:=QA hr2;clear hr2;go_enter func103,ntmps103;go_wp2_with fail;refine c₁ HN.out fun w1 hb1=>?_;have QJ:=QA hb1;clear hb1;go_wp2_with fail;refine c₁ (HI.out w1) fun w2 hb2=>?_;have QR:=QN QJ hb2;clear hb2;go_wp2_with fail;refine(Qf (JR.out w2 QR.out) rfl).mono ?_;rintro e w3 ⟨v,rfl,rfl,TB,hb3⟩;clear HN HI JR;obtain⟨tk,tx,tp,tf⟩:=t;have TJ:ZM P w w3:=(ZM.of (UQ.out.trans (QR.out.mono (by rw[UH.out];omega))) P).trans hb3;have PY:Z1 w3 w.heap.size 24 (ι κ 0) (σ ⟨#[]⟩) (σ ⟨#[]⟩) (ς none 0 0):=(FK.out.later QR.out).QS hb3 (by omega);have VN:=(QF w3.heap.size w3).alloc (QH _) (θ #[ι κ tk,σ tx,ι κ (tp:Int),τ tf] 75);have BI:=QA (TJ.ZN VN);have QK:Hid (JZ w.heap.size (w3.alloc (θ #[ι κ tk,σ tx,ι κ (tp:Int),τ tf] 75))):=⟨_,_,_,_,PY.later VN⟩;have YX:=QA (TB.later VN);have XN:=QA (Qv w3 75 (ι κ tk) (σ tx) (ι κ (tp:Int)) (τ tf));have Dn:w.heap.size<w3.heap.size:=PY.lt;have hsz:w.heap.size+1≤(w3.alloc (θ #[ι κ tk,σ tx,ι κ (tp:Int),τ tf] 75)).heap.size:=VJ Dn VN.size;have YJ:w.heap.size≠P:=by omega
   unfold VK;clear hb3 TB TJ PY VN;go_wp2;obtain⟨wt,hwt⟩:=Mem.ZB (w3.heap.size);have Dm:wt≠P:=by omega
   have Dl:wt≠w.heap.size:=by omega
   rw[hwt]at XN⊢;clear hwt;have QO:P<(w.heap.size+1):=(by omega);have UE:w.heap.size<(w.heap.size+1):=(by omega);refine Q3 [4,7] (GN 4 7 P z d r r (Ge (w.heap.size+1) w.heap.size Jg) (JZ w.heap.size)) P (w.heap.size) [Cd.is (ι κ k),Cd.is (π (some ⟨wt,1,none⟩)),Cd.is (σ tx),Cd.is (π (some ⟨P,0,none⟩)),JV,JV,JV,JV] (GN.keep Ge.later JZ.later) ?start ?steps ?behind
   case start=>intro x;exact⟨fun h=>(by cases h),fun _=>QK.out,fun h=>(by cases h),fun _=>YX.out.drewN 1⟩
   case steps =>
    intro xv W hW;refine⟨?s0,?s1,?s2,?s3,?s4,?s5,?s6,?s7,trivial⟩;all_goals intro dn hdi QE hcl QC hg K hK
    all_goals(try simp only[Act.put,VG,VF,VE]at hK)
    case s0|s1|s3=>clear QC QE;go_simp;exact hK.out _ _ (QF _ _) rfl
    case s2=>have hx1:xv 1=π (some ⟨wt,1,none⟩):=QC 1 (QE 1);clear QC QE;rw[hx1]at hK⊢;obtain⟨q0,q1,q2,q3⟩:=(XN.out.VV hW Dm Dl).cells;go_simp;exact hK.out _ _ (QF _ _) rfl
    case s4=>have hx3:xv 3=π (some ⟨P,0,none⟩):=QC 3 (QE 3);clear QC QE;rw[hx3]at hK⊢;go_simp;refine c₁ (Qh (Wf.out W (hg.2.2.2 hdi)) ya.out) fun W' QD=>?_;exact⟨rfl,rfl,QP.back BI.out (hW.trans (QP.QS QD)) (QH _)⟩
    case s5=>have hno:False:=QC 4 (QE 4);exact hno.elim
    case s6=>have hno:False:=QC 5 (QE 5);exact hno.elim
    case s7=>have hno:False:=QC 6 (QE 6);exact hno.elim
   case behind=>intro dn xv W hW hall hx hg;exact(hx 4:False).elim
  |ok n l2 =>
   obtain⟨nk,nx,ny,nc⟩:=n;have ya:=QA hr2;clear hr2;go_enter func103,ntmps103;go_wp2_with fail;refine c₁ HN.out fun w1 hb1=>?_;have QJ:=QA hb1;clear hb1;go_wp2_with fail;refine c₁ (HI.out w1) fun w2 hb2=>?_;have QR:=QN QJ hb2;clear hb2;go_wp2_with fail;refine(Qf (JR.out w2 QR.out) rfl).mono ?_;rintro e w3 ⟨v,rfl,rfl,TB,hb3⟩;clear HN HI JR;obtain⟨tk,tx,tp,tf⟩:=t;have TJ:ZM P w w3:=(ZM.of (UQ.out.trans (QR.out.mono (by rw[UH.out];omega))) P).trans hb3;have PY:Z1 w3 w.heap.size 24 (ι κ 0) (σ ⟨#[]⟩) (σ ⟨#[]⟩) (ς none 0 0):=(FK.out.later QR.out).QS hb3 (by omega);have VN:=(QF w3.heap.size w3).alloc (QH _) (θ #[ι κ tk,σ tx,ι κ (tp:Int),τ tf] 75);have BI:=QA (TJ.ZN VN);have QK:Hid (JZ w.heap.size (w3.alloc (θ #[ι κ tk,σ tx,ι κ (tp:Int),τ tf] 75))):=⟨_,_,_,_,PY.later VN⟩;have YX:=QA (TB.later VN);have XN:=QA (Qv w3 75 (ι κ tk) (σ tx) (ι κ (tp:Int)) (τ tf));have Dn:w.heap.size<w3.heap.size:=PY.lt;have hsz:w.heap.size+1≤(w3.alloc (θ #[ι κ tk,σ tx,ι κ (tp:Int),τ tf] 75)).heap.size:=VJ Dn VN.size;have YJ:w.heap.size≠P:=by omega
   unfold VK;clear hb3 TB TJ PY VN;go_wp2;obtain⟨wt,hwt⟩:=Mem.ZB (w3.heap.size);have Dm:wt≠P:=by omega
   have Dl:wt≠w.heap.size:=by omega
   rw[hwt]at XN⊢;clear hwt;have QO:P<(w.heap.size+1):=(by omega);have UE:w.heap.size<(w.heap.size+1):=(by omega);refine Q3 [4,7] (GN 4 7 P z d r l2 (Ge (w.heap.size+1) w.heap.size (node k tx (one ⟨nk,nx,ny,nc⟩))) (JZ w.heap.size)) P (w.heap.size) [Cd.is (ι κ k),Cd.is (π (some ⟨wt,1,none⟩)),Cd.is (σ tx),Cd.is (π (some ⟨P,0,none⟩)),Ch (w.heap.size+1) QO UE ⟨nk,nx,ny,nc⟩,qa (w.heap.size+1) QO UE (one ⟨nk,nx,ny,nc⟩),Ch (w.heap.size+1) QO UE (node k tx (one ⟨nk,nx,ny,nc⟩)),Cd.any] (GN.keep Ge.later JZ.later) ?start ?steps ?behind
   case start=>intro x;exact⟨fun h=>(by cases h),fun _=>QK.out,fun h=>(by cases h),fun _=>YX.out.drewN 1⟩
   case steps =>
    intro xv W hW;refine⟨?s0,?s1,?s2,?s3,?s4,?s5,?s6,?s7,trivial⟩;all_goals intro dn hdi QE hcl QC hg K hK
    all_goals(try simp only[Act.put,VG,VF,VE]at hK)
    case s0|s1|s3=>clear QC QE;go_simp;exact hK.out _ _ (QF _ _) rfl
    case s2=>have hx1:xv 1=π (some ⟨wt,1,none⟩):=QC 1 (QE 1);clear QC QE;rw[hx1]at hK⊢;obtain⟨q0,q1,q2,q3⟩:=(XN.out.VV hW Dm Dl).cells;go_simp;exact hK.out _ _ (QF _ _) rfl
    case s4=>have hx3:xv 3=π (some ⟨P,0,none⟩):=QC 3 (QE 3);clear QC QE;rw[hx3]at hK⊢;go_simp;refine(Qf (Wf.out W (hg.2.2.2 hdi)) ya.out).mono ?_;rintro e W' ⟨v,rfl,⟨A,C,rfl,hf⟩,hps,QD⟩;have Mq:w.heap.size+1≤W.heap.size:=VJ hsz hW.size;exact hK.out _ _ ⟨QP.QS QD,GN.call (by decide) hg (Q4 hcl hdi (by kernel_rfl)) (fun h=>h.QS QD YJ) hps⟩ ⟨A,C,rfl,Q7 hf Mq (QH _)⟩
    case s5=>obtain⟨A4,C4,ZP,LY⟩:SZ (w.heap.size+1) ⟨nk,nx,ny,nc⟩ (xv 4) W:=QC 4 (QE 4);clear QC QE;rw[ZP]at hK⊢;go_simp;exact hK.out _ _ ((QF _ _).alloc (QH _) _) (Zi W _ (VJ hsz hW.size) nk nx ny nc _ LY)
    case s6=>have hx0:xv 0=ι κ k:=QC 0 (QE 0);have hx2:xv 2=σ tx:=QC 2 (QE 2);obtain⟨A5,C5,ZY,UC⟩:Uk (w.heap.size+1) (one ⟨nk,nx,ny,nc⟩) (xv 5) W:=QC 5 (QE 5);clear QC QE;rw[hx0]at hK⊢;rw[hx2]at hK⊢;rw[ZY]at hK⊢;go_simp;refine c₁ (Qu _ _ _ _ _ W) fun W' hb=>?_;exact hK.out _ _ hb ⟨A5,C5,rfl,Q7 (Zc UC hb (QH _)) (QH _) hb.size⟩
    case s7=>obtain⟨A6,C6,JK,GI⟩:SZ (w.heap.size+1) (node k tx (one ⟨nk,nx,ny,nc⟩)) (xv 6) W:=QC 6 (QE 6);rw[JK]at hK⊢;have hds:dn 4=true:=QE 4;have QZ:=hg.2.1 hdi;obtain⟨b0,b1,b2,b3,VO⟩:=id QZ;obtain⟨g0,g1,g2,g3⟩:=VO.VD;obtain⟨y0,y1,y2,y3⟩:=VO.cells;unfold node at *;simp only at GI;simp only at hK;go_simp;exact hK.out undef _ ⟨QP.ZT _ _ _ _ _,GN.store (by decide) (hds) (qW QZ rfl GI UE) (Va (hg.2.2.1 hds) hlt _ _ _ _)⟩ trivial
   case behind=>intro dn xv W hW hall hx hg;have hF:=hg.1 (hall 7);have hps:=hg.2.2.1 (hall 4);have ZW:=QP.back BI.out hW (QH _);obtain⟨A,C,QZ,hpost⟩:=qA (w:=w) (Rr:=(Rd.ok ⟨nk,nx,ny,nc⟩ l2).bind fun n l=>.ok (node k tx (one n)) l) rfl hF (by omega) hps ZW;have EE:=QA hpost;have JO:=QA QZ;clear hx hF hps ZW hpost hg hall hW QZ;go_wp2;refine bodyPost_ret (results_cell_row rfl _ _ w.heap.size 24 _ (0,0) _ rfl JO.out underlying24 rfl Q8) rfl ?_;exact EE.out
structure XI(w W:World)(P z d:Nat)(l:List Tk):Prop where
 QS:ZM P w W
 ps:PS W P z l d
 bx:JZ w.heap.size W
 hlt:P<w.heap.size
section
variable {w W W':World}{P z d d':Nat}{l l':List Tk}
theorem XI.start(h:PS w P z l d):XI w (w.alloc XO) P z d l:=⟨ZM.of (J8 w) P,h.alloc _,⟨_,_,_,_,Xm w⟩,h.lt⟩
theorem XI.quiet(h:XI w W P z d l)(hb:Below W.heap.size W W'):XI w W' P z d l:=⟨h.QS.ZN hb,h.ps.later hb,JZ.later _ _ hb h.bx,h.hlt⟩
theorem XI.read(h:XI w W P z d l)(hb:ZM P W W')(hps:PS W' P z l' d'):XI w W' P z d' l':=⟨h.QS.trans hb,hps,h.bx.QS hb (by have:=h.hlt;omega),h.hlt⟩
theorem tQu{w W W':World}{P z d:Nat}{l:List Tk}(h:Hid (XI w W P z d l))(hb:Below W.heap.size W W'):Hid (XI w W' P z d l):=XI.quiet h.out hb
theorem tRe{w W W':World}{P z d d':Nat}{l l':List Tk}(h:Hid (XI w W P z d l))(hb:ZM P W W')(hps:PS W' P z l' d'):Hid (XI w W' P z d' l'):=XI.read h.out hb hps
theorem XI.size(h:XI w W P z d l):w.heap.size+1≤W.heap.size:=by
 obtain⟨a,b,c,d,hx⟩:=h.bx;exact hx.lt
theorem SU{B0:Nat}{v:Value}{c:F}(h:Fs W (Mi B0 W.heap.size) v c)(hb:Below W.heap.size W W'):Fs W' (Mi B0 W'.heap.size) v c:=Q7 (Zc h hb (QH _)) (QH _) hb.size
theorem WV{B0:Nat}{v:Value}{c:F}(h:Fs W (Mi B0 W.heap.size) v c)(hb:ZM P W W')(hP:P<B0):Fs W' (Mi B0 W'.heap.size) v c:=Q7 (ki h hb hP (QH _)) (QH _) hb.size
theorem XI.ret(h:XI w W P z d l){R:Rd Nd}{k:Int}{x y:ByteArray}{c:F}{A:Option Addr}{m C:Nat}(hR:R=.ok ⟨k,x,y,c⟩ l)(hm:m=c.len)(hf:Fs W (Mi (w.heap.size+1) W.heap.size) (ς A m C) c) :
  ((((W.setCell ⟨w.heap.size,0,none⟩ (ι κ k)).setCell ⟨w.heap.size,1,none⟩ (σ x)).setCell ⟨w.heap.size,2,none⟩ (σ y)).setCell ⟨w.heap.size,3,none⟩ (ς A m C)).heap[w.heap.size]?=some (θ #[ι κ k,σ x,σ y,ς A m C] 24 (0,0))∧
  Qn NV w P z d R (ρ (ξ #[ι κ k,σ x,σ y,ς A m C])) ((((W.setCell ⟨w.heap.size,0,none⟩ (ι κ k)).setCell ⟨w.heap.size,1,none⟩ (σ x)).setCell ⟨w.heap.size,2,none⟩ (σ y)).setCell ⟨w.heap.size,3,none⟩ (ς A m C)):=by
 obtain⟨a,b,c0,d0,hx⟩:=h.bx;refine⟨hx.ZT _ _ _ _,Ad hR hm (V4 hf (.inl (Nat.lt_succ_self _)) _ _ _ _) (by omega) (by rw[Z2];exact QH _) (Va h.ps h.hlt _ _ _ _) (Uh h.QS (QH _) _ _ _ _)⟩
theorem XI.VD(h:XI w W P z d l):(∃a b c d,W.cell? ⟨w.heap.size,0,none⟩=some a∧W.cell? ⟨w.heap.size,1,none⟩=some b∧W.cell? ⟨w.heap.size,2,none⟩=some c∧W.cell? ⟨w.heap.size,3,none⟩=some d)∧W.frozen? ⟨w.heap.size,0,none⟩=false∧W.frozen? ⟨w.heap.size,1,none⟩=false∧W.frozen? ⟨w.heap.size,2,none⟩=false∧W.frozen? ⟨w.heap.size,3,none⟩=false:=by
 obtain⟨a,b,c,d,hx⟩:=h.bx;exact⟨⟨a,b,c,d,hx.cells⟩,hx.VD⟩
end
theorem Ju{w:World}{S:Nat→Prop}:Fs w S (ς none 0 0) .nil:=⟨none,0,rfl,by omega⟩
theorem Zn{P z:Nat}{l:List Tk}{d:Nat}{w:World}(h:PS w P z l d){k:Int}{x:ByteArray}{pl:Nat}{fi:Bool}(ht:hd z l=⟨k,x,pl,fi⟩) :
  Calls prog 45 #[π (some ⟨P,0,none⟩)] w fun e w'=>e=ρ (ξ #[ι κ k,σ x,ι κ (pl:Int),τ fi])∧Below w.heap.size w w':=by
 have:=Vk P z l d w h;rw[ht]at this;exact this
theorem Zq{P z:Nat}{l:List Tk}{d:Nat}{w:World}(h:PS w P z l d){s:ByteArray}{u:List UInt8}{b:Bool}(hu:s.toList=u)(hb:QQ (hd z l) u=b) :
  Calls prog 50 #[π (some ⟨P,0,none⟩),σ s] w fun e w'=>e=ρ (τ b)∧Below w.heap.size w w':=by
 have:=kf s P z l d w h;rw[hu,hb]at this;exact this
theorem Vt{P z:Nat}{l:List Tk}{d:Nat}{w:World}(h:PS w P z l d){s:ByteArray}{u:List UInt8}(hu:s.toList=u)(hne:u≠[]) :
  Calls prog 70 #[π (some ⟨P,0,none⟩),σ s] w (Qn UV w P z d (want z u l)):=Qr9 s u hu P z l d hne w h
theorem J0{f P z N:Nat}{rd:Nat→List Tk→Rd Nd}(w:World)(he:Jd f)(h:Xj f P z N rd):Reads P z w N (.func (.func f) #[π (some ⟨P,0,none⟩)] #[]) rd :=
 ⟨f,_,_,rfl,he,fun W _ d l hl hd hps=>h W d l hl hd hps⟩
theorem Ji{R:Rd Nd}{w W:World}{P z d:Nat}{l0:List Tk}(h:XI w W P z d l0){e:Ending}{W':World}(hp:Qn NV W P z d R e W'):(∃p er,R=.bad p er∧e=.panicked (Si p er)∧ZM P w W')∨(∃k x y c l A C,R=.ok ⟨k,x,y,c⟩ l∧e=ρ (ξ #[ι κ k,σ x,σ y,ς A c.len C])∧Fs W' (Mi (w.heap.size+1) W'.heap.size) (ς A c.len C) c∧XI w W' P z d l):=by
 cases R with
 |bad p er=>exact .inl ⟨p,er,rfl,hp.1,h.QS.trans hp.2⟩
 |ok n l=>obtain⟨v,he,⟨A,C,hv,hf⟩,hps,hb⟩:=hp;obtain⟨k,x,y,c⟩:=n;exact .inr ⟨k,x,y,c,l,A,C,rfl,by rw[he,hv],Q7 hf h.size (QH _),h.read hb hps⟩
