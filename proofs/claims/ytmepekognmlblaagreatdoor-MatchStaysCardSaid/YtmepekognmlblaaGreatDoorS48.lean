import Derived.Test.YtmepekognmlblaaGreatDoorS46
import Derived.Test.YtmepekognmlblaaGreatDoorRows
import Derived.Lib.LaidU8
import Derived.Lib.LaidTab
import Derived.Deep.Slices
set_option maxRecDepth 100000
set_option linter.unusedVariables false
open Go.ChangeShapes Go.WideShapes Go.ChangeAt Go.RowKit Go.Proofs.Tryz
open _root_.Nat renaming le_refl→QI,lt_of_lt_of_le→VE
open _root_.List renaming getElem?_eq_getElem→QN,getElem?_map→VP
open Go.IntKind renaming i64→γ
open Go.Value renaming slice→ς,pointer→π,agg→ξ
open Go.Obj renaming cells→θ
namespace Go.Proofs.YtmepekognmlblaaGreatDoor
namespace Match
open Mem Tree Shape
theorem Qwf{k:Int}{x y:ByteArray}{c:F}{k':Int}{x' y':ByteArray}{c':F}(h:k≠k'):Rz k x y c k' x' y' c'=[]:=by
 unfold Rz;split
 ·rfl
 ·first|rfl|rw[if_pos h]
theorem Qw9{k:Int}{x y:ByteArray}{c:F}{x' y':ByteArray}{c':F}(h:c.size<20000)(h':c'.size<20000):Rz k x y c k x' y' c'=Ki (V4 (XJ (one k x y c)) (XZ (one k x y c) (one k x' y' c')) (Vl ZZ ZN k x y c&&Vl ZZ ZN k x' y' c')).1:=by
 unfold Rz;rw[if_neg ω,if_neg ψ]
theorem Qks(k:Int)(x y:ByteArray)(c:F)(x' y':ByteArray)(c':F):((XJ (one k x y c)).at_ 0).k=((XZ (one k x y c) (one k x' y' c')).at_ 0).k:=by
 rw[Sd.UM (Yj (s:=XJ (one k x y c)) rfl).1,Sd.UM (Yj (s:=XZ (one k x y c) (one k x' y' c')) rfl).1]
theorem Qsh(k:Int)(x y:ByteArray)(c:F)(x' y':ByteArray)(c':F):ZM (XJ (one k x y c)) (XZ (one k x y c) (one k x' y' c')):=fy ⟨_,_,_,_,rfl⟩ ⟨_,_,_,_,rfl⟩
theorem Qw8{k:Int}{x y:ByteArray}{c:F}{x' y':ByteArray}{c':F}(h:c.size<20000)(h':c'.size<20000):Z9 (Zy (one k x y c)) (Zy (one k x' y' c')) (Rz k x y c k x' y' c')=true:=by
 rw[Qw9 h h'];have hn:=Qsh k x y c x' y' c';have hk:=Qks k x y c x' y' c';have hd:=Qfn hn hk (Vl ZZ ZN k x y c&&Vl ZZ ZN k x' y' c');exact Qih hd.1 ((Qss hn hk _).1 _ _ (yw hn hk).2)
abbrev H2:=World→(Nat→Prop)→Value→Prop
def Kept(P:H2):Prop:=∀W W' S v,P W S v→(∀b,S b→W'.heap[b]?=W.heap[b]?)→P W' S v
def ptrTo(g:Nat):Value:=π (some ⟨g,0,none⟩)
def Xt(P:H2)(L:Nat→Bool)(x:Nat→Value)(W:World)(v:Value):Prop:=∃S:Nat→Prop,P W S v∧(∀b,S b→b<W.heap.size)∧(∀g,L 4=true→x 4=ptrTo g→¬S g)∧(∀g,L 5=true→x 5=ptrTo g→¬S g)
def iG(T:TypeId)(Z:Array Value)(W:World)(g:Nat):Prop:=W.heap[g]?=some (θ Z T (0,0))
def H4(T:TypeId)(W:World)(g:Nat)(v:Value):Prop:=∃cs,v=ξ cs∧W.heap[g]?=some (θ cs T (0,0))
structure DV(w0:World)(T:TypeId)(Z:Array Value)(u0 u2:Value)(P0 P1:H2)(L:Nat→Bool)(x:Nat→Value)(W:World):Prop where
 QF:Below w0.heap.size w0 W
 e0:L 0=true→x 0=u0
 e1:L 1=true→Xt P0 L x W (x 1)
 e2:L 2=true→x 2=u2
 e3:L 3=true→Xt P1 L x W (x 3)
 e4:L 4=true→∃g,x 4=ptrTo g∧w0.heap.size≤g∧g<W.heap.size∧(L 6=false→iG T Z W g)∧(L 6=true→H4 T W g (x 1))
 e5:L 5=true→∃g,x 5=ptrTo g∧w0.heap.size≤g∧g<W.heap.size∧(L 7=false→iG T Z W g)∧(L 7=true→H4 T W g (x 3))
 L6:L 4=true→L 5=true→x 4≠x 5
 d6:L 6=true→L 1=true∧L 4=true
 d7:L 7=true→L 3=true∧L 5=true
section
variable {w0 W W':World}{T:TypeId}{Z:Array Value}{u0 u2:Value}{P0 P1:H2}{L:Nat→Bool}{x:Nat→Value}{P:H2}{v:Value}
theorem E2{g g':Nat}(h:ptrTo g=ptrTo g'):g=g':=by
 simp only[ptrTo,Value.pointer.injEq,Option.some.injEq,Addr.mk.injEq]at h;exact h.1
theorem Xt.keep(hP:Kept P)(h:Xt P L x W v)(hk:∀b,b<W.heap.size→W'.heap[b]?=W.heap[b]?)(hs:W.heap.size≤W'.heap.size):Xt P L x W' v:=by
 obtain⟨S,h1,h2,h3,h4⟩:=h;exact⟨S,hP _ _ _ _ h1 fun b hb=>hk b (h2 b hb),fun b hb=>VE (h2 b hb) hs,h3,h4⟩
theorem Xt.put(h:Xt P L x W v)(j:Nat)(u:Value)(h4:j≠4)(h5:j≠5):Xt P (Zh L j) (Qq x j u) W v:=by
 obtain⟨S,h1,h2,h3,h3'⟩:=h;refine⟨S,h1,h2,fun g a b=>?_,fun g a b=>?_⟩
 ·simp only[Zh,Qq,if_neg (Ne.symm h4)]at a b;exact h3 g a b
 ·simp only[Zh,Qq,if_neg (Ne.symm h5)]at a b;exact h3' g a b
theorem Xt.KD{g:Nat}(h:Xt P L x W v)(hlt:W.heap.size≤g):Xt P (Zh L 4) (Qq x 4 (ptrTo g)) W v:=by
 obtain⟨S,h1,h2,h3,h3'⟩:=h;refine⟨S,h1,h2,fun g' a b=>?_,fun g' a b=>h3' g' a b⟩;exact c169
theorem Xt.BX{g:Nat}(h:Xt P L x W v)(hlt:W.heap.size≤g):Xt P (Zh L 5) (Qq x 5 (ptrTo g)) W v:=by
 obtain⟨S,h1,h2,h3,h3'⟩:=h;refine⟨S,h1,h2,fun g' a b=>h3 g' a b,fun g' a b=>?_⟩;exact c169
theorem DV.start:DV w0 T Z u0 u2 P0 P1 (fun _=>false) x w0.drew :=
 ⟨⟨rfl,rfl,rfl,QI _,fun _ _=>rfl⟩,fun h=>(by cases h),fun h=>(by cases h),fun h=>(by cases h),fun h=>(by cases h),fun h=>(by cases h),fun h=>(by cases h),fun h=>(by cases h),fun h=>(by cases h),fun h=>(by cases h)⟩
theorem DV.later(h0:Kept P0)(h1:Kept P1)(h:DV w0 T Z u0 u2 P0 P1 L x W)(hb:Below W.heap.size W W'):DV w0 T Z u0 u2 P0 P1 L x W':=by
 have hk:∀(k:Nat)(o:Obj),W.heap[k]?=some o→W'.heap[k]?=some o:=fun k o e=>(hb.block k (Array.getElem?_eq_some_iff.1 e).1).trans e
 refine⟨h.QF.trans (hb.mono h.QF.size),h.e0,fun q=>(h.e1 q).keep h0 (fun b=>hb.block b) hb.size,h.e2,fun q=>(h.e3 q).keep h1 (fun b=>hb.block b) hb.size,fun q=>?_,fun q=>?_,h.L6,h.d6,h.d7⟩
 ·obtain⟨g,q1,q2,q3,q4,q5⟩:=h.e4 q;exact⟨g,q1,q2,VE q3 hb.size,fun p=>hk _ _ (q4 p),fun p=>by obtain⟨cs,r1,r2⟩:=q5 p;exact⟨cs,r1,hk _ _ r2⟩⟩
 ·obtain⟨g,q1,q2,q3,q4,q5⟩:=h.e5 q;exact⟨g,q1,q2,VE q3 hb.size,fun p=>hk _ _ (q4 p),fun p=>by obtain⟨cs,r1,r2⟩:=q5 p;exact⟨cs,r1,hk _ _ r2⟩⟩
theorem DV.Fa(h:DV w0 T Z u0 u2 P0 P1 L x W):DV w0 T Z u0 u2 P0 P1 (Zh L 0) (Qq x 0 u0) W:=by
 refine⟨h.QF,?_,?_,?_,?_,?_,?_,?_,?_,?_⟩ <;> simp only[Zh,Qq] <;> intro q
 ·rfl
 ·exact(h.e1 q).put 0 _ δ δ
 ·exact h.e2 q
 ·exact(h.e3 q).put 0 _ δ δ
 ·exact h.e4 q
 ·exact h.e5 q
 ·exact h.L6 q
 ·exact h.d6 q
 ·exact h.d7 q
theorem DV.Nc(h:DV w0 T Z u0 u2 P0 P1 L x W):DV w0 T Z u0 u2 P0 P1 (Zh L 2) (Qq x 2 u2) W:=by
 refine⟨h.QF,?_,?_,?_,?_,?_,?_,?_,?_,?_⟩ <;> simp only[Zh,Qq] <;> intro q
 ·exact h.e0 q
 ·exact(h.e1 q).put 2 _ δ δ
 ·rfl
 ·exact(h.e3 q).put 2 _ δ δ
 ·exact h.e4 q
 ·exact h.e5 q
 ·exact h.L6 q
 ·exact h.d6 q
 ·exact h.d7 q
theorem DV.EW(h:DV w0 T Z u0 u2 P0 P1 L x W)(hL:L 1=false)(hv:Xt P0 L x W v):DV w0 T Z u0 u2 P0 P1 (Zh L 1) (Qq x 1 v) W:=by
 refine⟨h.QF,?_,?_,?_,?_,?_,?_,?_,?_,?_⟩ <;> simp only[Zh,Qq] <;> intro q
 ·exact h.e0 q
 ·exact hv.put 1 _ δ δ
 ·exact h.e2 q
 ·exact(h.e3 q).put 1 _ δ δ
 ·obtain⟨g,q1,q2,q3,q4,q5⟩:=h.e4 q;exact⟨g,q1,q2,q3,q4,fun p=>by have:=(h.d6 p).1;rw[hL]at this;cases this⟩
 ·exact h.e5 q
 ·exact h.L6 q
 ·exact⟨rfl,(h.d6 q).2⟩
 ·exact h.d7 q
theorem DV.BZ(h:DV w0 T Z u0 u2 P0 P1 L x W)(hL:L 3=false)(hv:Xt P1 L x W v):DV w0 T Z u0 u2 P0 P1 (Zh L 3) (Qq x 3 v) W:=by
 refine⟨h.QF,?_,?_,?_,?_,?_,?_,?_,?_,?_⟩ <;> simp only[Zh,Qq] <;> intro q
 ·exact h.e0 q
 ·exact(h.e1 q).put 3 _ δ δ
 ·exact h.e2 q
 ·exact hv.put 3 _ δ δ
 ·exact h.e4 q
 ·obtain⟨g,q1,q2,q3,q4,q5⟩:=h.e5 q;exact⟨g,q1,q2,q3,q4,fun p=>by have:=(h.d7 p).1;rw[hL]at this;cases this⟩
 ·exact h.L6 q
 ·exact h.d6 q
 ·exact⟨rfl,(h.d7 q).2⟩
theorem DV.KD(h0:Kept P0)(h1:Kept P1)(h:DV w0 T Z u0 u2 P0 P1 L x W)(hL:L 4=false)(hb:Below W.heap.size W W')(hz:W.heap.size<W'.heap.size)(he:iG T Z W' W.heap.size):DV w0 T Z u0 u2 P0 P1 (Zh L 4) (Qq x 4 (ptrTo W.heap.size)) W':=by
 have h':=h.later h0 h1 hb
 have hne:∀g,L 5=true→x 5=ptrTo g→g<W.heap.size:=fun g a b=>by
  obtain⟨g',q1,_,q3,_⟩:=h.e5 a;have:=E2 (b.symm.trans q1);omega
 refine⟨h'.QF,?_,?_,?_,?_,?_,?_,?_,?_,?_⟩ <;> simp only[Zh,Qq] <;> intro q
 ·exact h'.e0 q
 ·exact((h.e1 q).KD (QI _)).keep h0 (fun b=>hb.block b) hb.size
 ·exact h'.e2 q
 ·exact((h.e3 q).KD (QI _)).keep h1 (fun b=>hb.block b) hb.size
 ·exact⟨_,rfl,h.QF.size,hz,fun _=>he,fun p=>by have:=(h.d6 p).2;rw[hL]at this;cases this⟩
 ·exact h'.e5 q
 ·intro p e;obtain⟨g',q1,_,q3,_⟩:=h.e5 p;have:=E2 (e.trans q1);omega
 ·exact⟨(h.d6 q).1,rfl⟩
 ·exact h'.d7 q
theorem DV.BX(h0:Kept P0)(h1:Kept P1)(h:DV w0 T Z u0 u2 P0 P1 L x W)(hL:L 5=false)(hb:Below W.heap.size W W')(hz:W.heap.size<W'.heap.size)(he:iG T Z W' W.heap.size):DV w0 T Z u0 u2 P0 P1 (Zh L 5) (Qq x 5 (ptrTo W.heap.size)) W':=by
 have h':=h.later h0 h1 hb
 have hne:∀g,L 4=true→x 4=ptrTo g→g<W.heap.size:=fun g a b=>by
  obtain⟨g',q1,_,q3,_⟩:=h.e4 a;have:=E2 (b.symm.trans q1);omega
 refine⟨h'.QF,?_,?_,?_,?_,?_,?_,?_,?_,?_⟩ <;> simp only[Zh,Qq] <;> intro q
 ·exact h'.e0 q
 ·exact((h.e1 q).BX (QI _)).keep h0 (fun b=>hb.block b) hb.size
 ·exact h'.e2 q
 ·exact((h.e3 q).BX (QI _)).keep h1 (fun b=>hb.block b) hb.size
 ·exact h'.e4 q
 ·exact⟨_,rfl,h.QF.size,hz,fun _=>he,fun p=>by have:=(h.d7 p).2;rw[hL]at this;cases this⟩
 ·intro p e;obtain⟨g',q1,_,q3,_⟩:=h.e4 q;have:=E2 (q1.symm.trans e);omega
 ·exact h'.d6 q
 ·exact⟨(h.d7 q).1,rfl⟩
theorem DV.BW{g:Nat}(h0:Kept P0)(h1:Kept P1)(h:DV w0 T Z u0 u2 P0 P1 L x W)(hL:L 6=false)(hs:L 1=true)(h4:L 4=true)(hx:x 4=ptrTo g)(hk:∀b,b≠g→W'.heap[b]?=W.heap[b]?)(hw:H4 T W' g (x 1))(hb:Below w0.heap.size W W')(hz:W'.heap.size=W.heap.size):DV w0 T Z u0 u2 P0 P1 (Zh L 6) (Qq x 6 v) W':=by
 obtain⟨g0,p1,p2,p3,p4,p5⟩:=h.e4 h4;obtain rfl:=E2 (hx.symm.trans p1)
 have hA:∀{P:H2}{u:Value},Kept P→Xt P L x W u→Xt P L x W' u:=fun hP ha=>by
  obtain⟨S,a1,a2,a3,a4⟩:=ha;exact⟨S,hP _ _ _ _ a1 fun b hbs=>hk b fun e=>by subst e;exact a3 _ h4 hx hbs,fun b hbs=>by rw[hz];exact a2 b hbs,a3,a4⟩
 refine⟨h.QF.trans hb,?_,?_,?_,?_,?_,?_,?_,?_,?_⟩ <;> simp only[Zh,Qq] <;> intro q
 ·exact h.e0 q
 ·exact(hA h0 (h.e1 q)).put 6 _ δ δ
 ·exact h.e2 q
 ·exact(hA h1 (h.e3 q)).put 6 _ δ δ
 ·exact⟨g,hx,p2,by rw[hz];exact p3,fun p=>(by cases p),fun _=>hw⟩
 ·obtain⟨g',q1,q2,q3,q4,q5⟩:=h.e5 q
  have hne:g'≠g:=fun r=>by
   subst r;exact h.L6 h4 q (hx.trans q1.symm)
  exact⟨g',q1,q2,by rw[hz];exact q3,fun p=>(hk g' hne).trans (q4 p),fun p=>by obtain⟨cs,r1,r2⟩:=q5 p;exact⟨cs,r1,(hk g' hne).trans r2⟩⟩
 ·exact h.L6 q
 ·exact⟨hs,h4⟩
 ·exact h.d7 q
theorem DV.jC{g:Nat}(h0:Kept P0)(h1:Kept P1)(h:DV w0 T Z u0 u2 P0 P1 L x W)(hL:L 7=false)(hs:L 3=true)(h4:L 5=true)(hx:x 5=ptrTo g)(hk:∀b,b≠g→W'.heap[b]?=W.heap[b]?)(hw:H4 T W' g (x 3))(hb:Below w0.heap.size W W')(hz:W'.heap.size=W.heap.size):DV w0 T Z u0 u2 P0 P1 (Zh L 7) (Qq x 7 v) W':=by
 obtain⟨g0,p1,p2,p3,p4,p5⟩:=h.e5 h4;obtain rfl:=E2 (hx.symm.trans p1)
 have hA:∀{P:H2}{u:Value},Kept P→Xt P L x W u→Xt P L x W' u:=fun hP ha=>by
  obtain⟨S,a1,a2,a3,a4⟩:=ha;exact⟨S,hP _ _ _ _ a1 fun b hbs=>hk b fun e=>by subst e;exact a4 _ h4 hx hbs,fun b hbs=>by rw[hz];exact a2 b hbs,a3,a4⟩
 refine⟨h.QF.trans hb,?_,?_,?_,?_,?_,?_,?_,?_,?_⟩ <;> simp only[Zh,Qq] <;> intro q
 ·exact h.e0 q
 ·exact(hA h0 (h.e1 q)).put 7 _ δ δ
 ·exact h.e2 q
 ·exact(hA h1 (h.e3 q)).put 7 _ δ δ
 ·obtain⟨g',q1,q2,q3,q4,q5⟩:=h.e4 q
  have hne:g'≠g:=fun r=>by
   subst r;exact h.L6 q h4 (q1.trans hx.symm)
  exact⟨g',q1,q2,by rw[hz];exact q3,fun p=>(hk g' hne).trans (q4 p),fun p=>by obtain⟨cs,r1,r2⟩:=q5 p;exact⟨cs,r1,(hk g' hne).trans r2⟩⟩
 ·exact⟨g,hx,p2,by rw[hz];exact p3,fun p=>(by cases p),fun _=>hw⟩
 ·exact h.L6 q
 ·exact h.d6 q
 ·exact⟨hs,h4⟩
theorem Xt.new(h:DV w0 T Z u0 u2 P0 P1 L x W)(hp:P W' (fun b=>W.heap.size≤b∧b<W'.heap.size) v):Xt P L x W' v:=by
 refine⟨_,hp,fun b hb=>hb.2,fun g a b hs=>?_,fun g a b hs=>?_⟩
 ·obtain⟨g',q1,_,q3,_⟩:=h.e4 a;have:=E2 (b.symm.trans q1);have:=hs.1;omega
 ·obtain⟨g',q1,_,q3,_⟩:=h.e5 a;have:=E2 (b.symm.trans q1);have:=hs.1;omega
theorem DV.done(h:DV w0 T Z u0 u2 P0 P1 L x W)(h6:L 6=true)(h7:L 7=true):∃g0 g1 S0 S1,x 4=ptrTo g0∧x 5=ptrTo g1∧w0.heap.size≤g0∧w0.heap.size≤g1∧H4 T W g0 (x 1)∧H4 T W g1 (x 3)∧P0 W S0 (x 1)∧P1 W S1 (x 3)∧(∀b,S0 b→b<W.heap.size)∧(∀b,S1 b→b<W.heap.size):=by
 obtain⟨h1,h4⟩:=h.d6 h6;obtain⟨h3,h5⟩:=h.d7 h7;obtain⟨g0,a1,a2,_,_,a3⟩:=h.e4 h4;obtain⟨g1,b1,b2,_,_,b3⟩:=h.e5 h5;obtain⟨S0,c1,c2,_⟩:=h.e1 h1;obtain⟨S1,d1,d2,_⟩:=h.e3 h3;exact⟨g0,g1,S0,S1,a1,b1,a2,b2,a3 h6,b3 h7,c1,d1,c2,d2⟩
end
end Match
namespace Match
open Shape
def Gp:List (String × DataW Unit):=[("math/bits.deBruijn32tab", Rows.laid_math_bits_deBruijn32tab),("math/bits.deBruijn64tab", Rows.laid_math_bits_deBruijn64tab),("internal/strconv.uint64pow10", Rows.laid_internal_strconv_uint64pow10),("unicode/utf8.acceptRanges", Rows.laid_unicode_utf8_acceptRanges),("scarf/lex.marks", Rows.laid_scarf_lex_marks),("unicode/utf8.first", Rows.laid_unicode_utf8_first)]
theorem Qsy:(Rows.laid_internal_strconv_uint64pow10:DataW Unit)=Lib.tabData .u64 Lib.pow10Tab:=by rfl
theorem Q0b:prog.globalNamed "internal/strconv.uint64pow10" = some 0:=χ
theorem Qz9:(prog.globals[0]?).map (·.type)=some 175:=χ
theorem Qif{W:World}(h:laidMet prog Gp W):Shape.Pow W:=by
 obtain hr:=Lib.laidMet.reads h (n := "internal/strconv.uint64pow10") (d:=Rows.laid_internal_strconv_uint64pow10) (by unfold Gp;exact .tail _ (.tail _ (.head _)))
 obtain⟨g,t,cs,fuel,p,h1,h2,h3,h4⟩:=hr;obtain rfl:=Option.some.inj (Q0b.symm.trans h1);obtain rfl:=Option.some.inj (Qz9.symm.trans h2);rw[Qsy]at h4;have hcs:=Lib.cells_of_tab underlying175 underlying44 χ χ h4;unfold Shape.Pow Lib.TabIs;rw[h3,←hcs]
section
open Ro Lex
theorem Ë:prog.globalNamed "scarf/lex.marks" = some 1:=χ
theorem Qxq:(prog.globals[1]?).map (·.type)=some 187:=χ
theorem Q0h:prog.cellsOf 9=1:=χ
theorem Q0k:prog.cellsOf 187=37:=χ
def bW:List (DataW Unit):=KT.map fun m=>.lit (.string (m.map fun n=>UInt8.ofNat n.toNat))
theorem Qvl:(Rows.laid_scarf_lex_marks:DataW Unit)=.agg bW:=by rfl
theorem Qhs{W:World}(h:laidMet prog Gp W):Lex.XF W:=by
 obtain hr:=Lib.laidMet.reads h (n := "scarf/lex.marks") (d:=Rows.laid_scarf_lex_marks) (by unfold Gp;exact .tail _ (.tail _ (.tail _ (.tail _ (.head _)))))
 obtain⟨g,t,cs,fuel,p,h1,h2,h3,h4⟩:=hr;obtain rfl:=Option.some.inj (Ë.symm.trans h1);obtain rfl:=Option.some.inj (Qxq.symm.trans h2);obtain⟨xs,m,rfl,hx,hlen,hn,hel⟩:=DataW.trod_array underlying187 h4;rw[Q0k]at hlen;rw[Qvl]at hx;simp only[Prod.mk.injEq,DataW.agg.injEq]at hx;have hcs:cs=mkV:=by
  refine Array.ext' (List.ext_getElem (by rw[hlen,Array.length_toList,rH]) fun i hi hi2=>?_);have xf:i<37:=ω
  have e1:=hel i xf;rw[Q0h,Nat.mul_one]at e1;have IX:i<xs.length:=ω
  rw[QN IX]at e1;obtain⟨s,c1,c2,_⟩:=DataW.trod_string underlying9 e1;have Bn:i<KT.length:=by rw[ra];exact xf
  have e2:(xs.map (·.1))[i]?=bW[i]?:=by rw[←hx.1]
  rw[VP,QN IX,c2]at e2;unfold bW at e2;rw[VP,QN Bn]at e2;simp only[Option.map_some,Option.some.injEq,DataW.lit.injEq,Lit.string.injEq]at e2;have hs:s=strOfNums KT[i]:=by apply ByteArray.ext;apply Array.ext';rw[e2];simp[strOfNums]
  have e3:cs.toList[i]=.string s:=by rw[List.drop_eq_getElem_cons hi]at c1;simpa using c1
  rw[e3,hs];simp[mkV]
 subst hcs;simp only[World.var?,Ë,Option.bind_some]at h3;split at h3
 ·rename_i cs t fr he
  injection h3 with h3;subst h3;exact⟨t,fr,he⟩
 ·cases h3
end
theorem Q1v{W:World}(h:laidMet prog Gp W):Shape.Pow W∧Lex.XF W:=⟨Qif h,Qhs h⟩
end Match
namespace Shape
open Tree
section
variable {H:Type}{enc:TypeId×Value→H}{W:World}
theorem Qtc{k:Int}(h:(Lit.int γ k).wf=true):Hg k:=by
 simp[Lit.wf]at h;exact⟨by have:=h.1;rwa[show IntKind.i64.min = -9223372036854775808 from rfl]at this,h.2⟩
theorem ŗ(b:Nat):∀(m off n C:Nat),n≤C→C≤9223372036854775807→n=m→b<W.heap.size→
 (∀i,i<n→∃k x y s c,W.cell? ⟨b,off+i*4,none⟩=some (.int γ k)∧W.cell? ⟨b,off+i*4+1,none⟩=some (.string x)∧W.cell? ⟨b,off+i*4+2,none⟩=some (.string y)∧W.cell? ⟨b,off+i*4+3,none⟩=some s∧Fs W (Lo W.heap.size) s c∧Hg k∧Vf c)→
 ∃f,f.len=n∧Vf f∧∀A,(n=0∨A=some ⟨b,off,none⟩)→Fs W (Lo W.heap.size) (ς A n C) f
 |0,off,n,C,hC,hm,hn,hb,h=>by
  subst hn;exact⟨.nil,rfl,trivial,fun A _=>⟨A,C,rfl,hm⟩⟩
 |m+1,off,n,C,hC,hm,hn,hb,h=>by
  subst hn;obtain⟨C',rfl⟩:∃C',C=C'+1:=⟨C-1,ω⟩;obtain⟨k,x,y,s,c,c0,c1,c2,c3,hk,hi0,hi1⟩:=h 0 ω;simp only[Nat.zero_mul,Nat.add_zero]at c0 c1 c2 c3
  obtain⟨r,hr,kJ,hr2⟩:=ŗ b m (off+4) m C' ω ω rfl hb (fun i hi=>by
   obtain⟨k,x,y,s,c,c0,c1,c2,c3,hk⟩:=h (i+1) ω;rw[show off+(i+1)*4=off+4+i*4 by omega]at c0 c1 c2 c3;exact⟨k,x,y,s,c,c0,c1,c2,c3,hk⟩)
  refine⟨.cons k x y c r,by simp only[F.len,hr],⟨hi0,hi1,kJ⟩,fun A hA=>?_⟩;have hA':A=some ⟨b,off,none⟩:=hA.resolve_left ω;subst hA'
  exact⟨b,off,m,C',s,rfl,hr,ω,hm,hb,c0,c1,c2,c3,hk,fun A' hA'=>hr2 A' (by
   rcases hA' with h' |h'
   ·left;rw[h']at hr;exact hr.symm
   ·exact .inr h')⟩
theorem Qk8:∀(fuel:Nat)(cs:List Value)(x:DataW H×List MemPlace),DataW.trod enc prog W 0 (fun _=>true) true fuel 24 cs=some x→
 ∃k s t A n C c,cs=[.int γ k,.string s,.string t,ς A n C]∧Fs W (Lo W.heap.size) (ς A n C) c∧s.size≤maxLen∧t.size≤maxLen∧Hg k∧Vf c:=by
 intro fuel
 induction fuel using Nat.strongRecOn with
 |_ fuel ih =>
  intro cs x h;obtain⟨xs,m,Q1r,rfl,hl,hlen,hf⟩:=DataW.trod_struct underlying24 h;have I6:prog.cellsOf 24=4:=χ
  rw[I6]at hl
  match cs,hl with
  |[v0,v1,v2,v3],_ =>
   have g0:=hf 0 _ rfl;have g1:=hf 1 _ rfl;have g2:=hf 2 _ rfl;have g3:=hf 3 _ rfl;have ci:prog.cellsOf 3=1:=χ
   have dW:prog.cellsOf 9=1:=χ
   have csl:prog.cellsOf 22=1:=χ
   simp[ci,dW,csl]at g0 g1 g2 g3;have hl4:xs.length=4:=hlen
   match xs,hl4 with
   |[y0,y1,y2,y3],_ =>
    simp only[List.getElem?_cons_zero,List.getElem?_cons_succ]at g0 g1 g2 g3;obtain⟨k,e0,_,hkw⟩:=DataW.trod_int underlying3 g0;obtain⟨s,e1,_,hs⟩:=DataW.trod_string underlying9 g1;obtain⟨t,e2,_,ht⟩:=DataW.trod_string underlying9 g2;simp only[List.cons.injEq,and_true]at e0 e1 e2;subst e0;subst e1;subst e2;have hin:Hg k:=Qtc hkw;rcases DataW.trod_slice underlying22 g3 with⟨e3,_⟩|⟨a,len,cap,elems,rest,q,hq,e3,_,_,hlc,hcm,hel,hcell,_,_⟩
    ·simp only[List.cons.injEq,and_true]at e3;subst e3;exact⟨k,s,t,none,0,0,.nil,rfl,⟨none,0,rfl,ω⟩,hs,ht,hin,trivial⟩
    ·simp only[List.cons.injEq,and_true]at e3;subst e3;rw[I6]at hcell;have hone:∀i,i<len→∃k x y s c,W.cell? (a.add (i*4))=some (.int γ k)∧W.cell? ((a.add (i*4)).add 1)=some (.string x)∧W.cell? ((a.add (i*4)).add 2)=some (.string y)∧W.cell? ((a.add (i*4)).add 3)=some s∧Fs W (Lo W.heap.size) s c∧Hg k∧Vf c:=by
      intro i hi;have hb:=hcell i hi;rw[List.getElem?_eq_getElem ω]at hb;obtain⟨cs',h1,h2⟩:=Option.bind_eq_some_iff.1 hb;obtain⟨k',s',t',A',n',C',c',e,VX,_,_,hi1,hi2⟩:=ih q ω cs' _ h2;subst e;obtain⟨_,_,hcs⟩:=World.cells?_some h1;have a0:(a.add (i*4)).add 0=a.add (i*4):=by unfold Addr.add;simp
      refine⟨k',s',t',ς A' n' C',c',?_,hcs 1 ω,hcs 2 ω,hcs 3 ω,VX,hi1,hi2⟩;have:=hcs 0 ω;rwa[a0]at this
     obtain⟨b,off,spot⟩:=a;by_cases hz:len=0
     ·subst hz;exact⟨k,s,t,_,0,cap,.nil,rfl,⟨_,cap,rfl,hcm⟩,hs,ht,hin,trivial⟩
     ·obtain⟨_,_,_,_,_,h0,_⟩:=hone 0 ω;have hspot:spot=none:=by simpa[Addr.add]using World.cell?_spot h0
      subst hspot;have hbl:b<W.heap.size:=by have:=World.block_lt_of_cell? W _ h0;simpa[Addr.add]using this
      have ad:∀o j,(⟨b,o,none⟩:Addr).add j=⟨b,o+j,none⟩:=fun o j=>by unfold Addr.add;split <;> simp_all
      obtain⟨f,hfl,FF,xw⟩:=ŗ (W:=W) b len off len cap hlc hcm rfl hbl (fun i hi=>by
       obtain⟨k,x,y,s,c,c0,c1,c2,c3,hk⟩:=hone i hi;simp only[ad]at c0 c1 c2 c3;exact⟨k,x,y,s,c,c0,c1,c2,c3,hk⟩)
      exact⟨k,s,t,_,len,cap,f,rfl,xw _ (.inr rfl),hs,ht,hin,FF⟩
theorem è{v:Value}{d:DataW H}{p:List MemPlace}(hv:∃cs,v = .agg cs∧cs.size=prog.cellsOf 24)(h:DataW.Trod enc prog W 0 (fun _=>true) true 24 v d p) :
 ∃k s t A n C c,v=.agg #[.int γ k,.string s,.string t,ς A n C]∧Fs W (Lo W.heap.size) (ς A n C) c∧s.size≤maxLen∧t.size≤maxLen∧Hg k∧Vf c:=by
 obtain⟨cs,rfl,_⟩:=hv;obtain⟨fuel,hf⟩:=h;obtain⟨k,s,t,A,n,C,c,e,r⟩:=Qk8 fuel _ _ hf;refine⟨k,s,t,A,n,C,c,?_,r⟩;simp only[Value.cells]at e
 congr 1
 exact Array.ext' (by simpa using e)
end
