import Derived.Test.YtaiihnniblibaaaGreatDoorG10
import Derived.ArgAppend
set_option maxHeartbeats 8000000
set_option maxRecDepth 100000
set_option linter.unusedVariables false
open Go.Proofs.Tryz Go.ChangeShapes Go.WideShapes Go.ChangeAt Go.RowKit
open Go.Lib renaming hid→QA
open _root_.Nat renaming le_refl→QH,lt_of_lt_of_le→JQ
open Go.Value renaming string→σ,int→ι,slice→ς,pointer→π,bool→τ,agg→ξ
open Go.IntKind renaming i64→κ
open Go.Obj renaming cells→θ
open Go.Ending renaming returned→ρ
namespace Go.Proofs.YtaiihnniblibaaaGreatDoor
namespace QB
open Tree
def Lt{α:Type}(m:Nat)(x:Rd α):Prop:=∀a r,x=.ok a r→r.length<m
section
variable {α β:Type}{m m' z d:Nat}
theorem Lt.bind{x:Rd α}{f:α→List Tk→Rd β}(hx:Lt m x)(hf:∀a r,r.length<m→Lt m (f a r)):Lt m (x.bind f):=by
 intro b r h;cases x with
 |bad p e=>cases h
 |ok a r1=>exact hf a r1 (hx a r1 rfl) b r h
theorem Lt.ok{a:α}{r:List Tk}(h:r.length<m):Lt m (Rd.ok a r):=by
 intro b r' e;simp only[Rd.ok.injEq]at e;rw[←e.2];exact h
theorem Lt.bad{p:Nat}{e:Int}:Lt m (Rd.bad p e:Rd α):=by intro b r h;cases h
theorem Lt.mono{x:Rd α}(h:Lt m x)(hm:m≤m'):Lt m' x:=fun a r e=>JQ (h a r e) hm
theorem Lt.ite{c:Prop}[Decidable c]{x y:Rd α}(hx:c→Lt m x)(hy:¬c→Lt m y):Lt m (if c then x else y):=by
 split
 ·exact hx (by assumption)
 ·exact hy (by assumption)
theorem Jw{l:List Tk}(h:l.length<m):l.tail.length<m:=by rw[List.length_tail];omega
theorem J9{u:List UInt8}{l:List Tk}(h:l.length<m):Lt m (QB.want z u l):=Lt.ite (fun _=>Lt.ok (Jw h)) fun _=>Lt.bad
theorem AJ{f:Bool}{l:List Tk}(h:l.length<m):Lt m (X5 z f l):=Lt.ite (fun _=>Lt.ok h) fun _=>Lt.bad
theorem Uy{l:List Tk}(h:l.length<m):Lt m (name z l):=Lt.ite (fun _=>Lt.ok (Jw h)) fun _=>Lt.bad
theorem X6{f:Bool}{l:List Tk}(hf:f=true→l≠[]):Lt l.length (J' z f d l):=fun t r h=>rh hf h
theorem ar{f:Bool}{l:List Tk}(h:l.length<m):Lt m (J' z f d l):=Lt.ite (fun _=>Lt.ite (fun _=>Lt.bad) fun _=>Lt.ok (Jw h)) fun _=>Lt.bad
theorem JE.lt{rd:Nat→List Tk→Rd Nd}(h:JE rd){l:List Tk}(hl:l.length<m):Lt m (rd d l):=fun n r e=>Nat.lt_trans (h d l n r e) hl
theorem JE.of{rd:Nat→List Tk→Rd Nd}(h:∀d l,Lt l.length (rd d l)):JE rd:=fun d l n r e=>h d l n r e
theorem xh{it:List Tk→Rd Nd}(hit:∀l,Lt l.length (it l)):∀(f:Nat){l:List Tk},l.length<m→Lt m (items z it f l)
 |0,l,h=>Lt.bad
 |f+1,l,h=>Lt.ite (fun _=>Lt.ok h) fun _=>Lt.bind ((hit l).mono (Nat.le_of_lt h)) fun n r hr=>Lt.bind (xh hit f hr) fun c r2 h2=>Lt.ok h2
theorem qL{rd:Nat→List Tk→Rd Nd}(h:JE rd)(d:Nat)(l:List Tk):Lt l.length (item z rd d l):=fun n r e=>xH h d l n r e
theorem nu{rd:Nat→List Tk→Rd Nd}(h:JE rd){l:List Tk}(hl:l.length<m):Lt m (Jy z rd d l) :=
 Lt.bind (ar hl) fun t r hr=>Lt.bind (xh (fun l=>qL h _ l) _ hr) fun c r2 h2=>Lt.bind (J9 h2) fun _ r3 h3=>Lt.ok h3
theorem Qnf{rd:Nat→List Tk→Rd Nd}(h:JE rd){l:List Tk}:Lt l.length (Jy z rd d l) :=
 Lt.bind (X6 fun hn e=>by subst e;obtain⟨t,r,e⟩:=Vx hn (by decide);cases e) fun t r hr=>Lt.bind (xh (fun l=>qL h _ l) _ hr) fun c r2 h2=>Lt.bind (J9 h2) fun _ r3 h3=>Lt.ok h3
theorem kV{rd:List Tk→Rd Nd}(hit:∀l,Lt l.length (rd l)):∀(f:Nat){l:List Tk},l.length<m→Lt m (args z rd f l)
 |0,l,h=>Lt.bad
 |f+1,l,h=>Lt.ite (fun _=>Lt.ok h) fun _=>Lt.bind ((hit l).mono (Nat.le_of_lt h)) fun n r hr=>Lt.bind (Lt.ite (fun _=>Lt.ok hr) fun _=>J9 hr) fun _ r1 h1=>Lt.bind (kV hit f h1) fun c r2 h2=>Lt.ok h2
theorem pG{rd:Nat→List Tk→Rd Nd}(h:JE rd){l:List Tk}(hl:l.length<m):Lt m (list z rd d l) :=
 Lt.bind (J9 hl) fun _ r hr=>Lt.bind (kV (fun l=>fun n r e=>h _ l n r e) _ hr) fun c r2 h2=>Lt.bind (J9 h2) fun _ r3 h3=>Lt.ok h3
theorem Qsi{ty:Nat→List Tk→Rd Nd}(h:JE ty):JE (BV z ty):=JE.of fun d l =>
 Lt.bind (X6 qE) fun t r hr=>Lt.ite (fun _=>Lt.bind (h.lt hr) fun _ _ h=>Lt.ok h) fun _=>Lt.ite (fun _=>Lt.bind (J9 hr) fun _ _ h1=>Lt.bind (h.lt h1) fun _ _ h=>Lt.ok h) fun _ =>
  Lt.ite (fun _=>Lt.bind (J9 hr) fun _ _ h1=>Lt.bind (h.lt h1) fun _ _ h2=>Lt.bind (J9 h2) fun _ _ h3=>Lt.bind (h.lt h3) fun _ _ h=>Lt.ok h) fun _ =>
  Lt.ite (fun _=>Lt.bind (nu (Xb h) hr) fun _ _ h=>Lt.ok h) fun _=>Lt.ok hr
theorem zm(z:Nat):∀f,JE (NK z f)
 |0=>fun d l n r h=>by cases h
 |f+1=>Qsi (zm z f)
theorem Un(z:Nat):JE (GG z):=fun d l n r h=>zm z _ d l n r h
theorem qF{l:List Tk}(h:JM (QB.hd z l)=true):l≠[]:=fun e=>by
 subst e;simp[JM,QB.hd,QQ,Je,Q9,e0]at h
theorem se{ex:Nat→Nat→List Tk→Rd Nd}(h:∀k,JE (ex k)){t:Tk}{l:List Tk}(hl:l.length<m):Lt m (first z ex d t l) :=
 Lt.ite (fun _=>Lt.ok hl) fun _=>Lt.ite (fun _=>Lt.ok hl) fun _=>Lt.ite (fun _=>Lt.bind ((h 1).lt hl) fun _ _ h1=>Lt.bind (J9 h1) fun _ _ h2=>Lt.ok h2) fun _=>Lt.ok hl
theorem zu{ex:Nat→Nat→List Tk→Rd Nd}(h:∀k,JE (ex k)):∀(f:Nat){n:Nd}{l:List Tk},l.length<m→Lt m (behind z ex d f n l)
 |0,_,_,_=>Lt.bad
 |f+1,n,l,hl=>Lt.ite (fun _=>Lt.bind (pG (h 1) hl) fun _ _ h1=>zu h f h1) fun _ =>
  Lt.ite (fun _=>Lt.bind ((h 1).lt (Jw hl)) fun _ _ h1=>Lt.bind (J9 h1) fun _ _ h2=>zu h f h2) fun _=>Lt.ite (fun _=>Lt.bind (Uy (Jw hl)) fun _ _ h1=>zu h f h1) fun _=>Lt.ok hl
theorem kS{ex:Nat→Nat→List Tk→Rd Nd}(h:∀k,JE (ex k)):∀f,JE (Ru z ex f)
 |0=>fun d l n r h=>by cases h
 |f+1=>JE.of fun d l=>Lt.bind (X6 qF) fun t r hr=>Lt.ite (fun _=>Lt.bind ((kS h f).lt hr) fun _ _ h1=>Lt.ok h1) fun _=>Lt.bind (se h hr) fun _ _ h1=>zu h _ h1
theorem sf{ex:Nat→Nat→List Tk→Rd Nd}{least:Nat}(h:∀k,JE (ex k)):∀(f:Nat){n:Nd}{l:List Tk},l.length<m→Lt m (Xw z ex least d f n l)
 |0,_,_,_=>Lt.bad
 |f+1,n,l,hl=>Lt.ite (fun _=>Lt.bind ((h _).lt (Jw hl)) fun _ _ h1=>sf h f h1) fun _=>Lt.ok hl
theorem Gk(z:Nat):∀(f least:Nat),JE (J6 z f least)
 |0,least=>fun d l n r h=>by cases h
 |f+1,least=>JE.of fun d l=>Lt.bind (fun n r e=>kS (Gk z f) _ d l n r e) fun n r hr=>sf (Gk z f) _ hr
theorem Kb(z:Nat):JE (XH z):=fun d l n r h=>Gk z _ 1 d l n r h
theorem Zh{u:List UInt8}{l:List Tk}(hu:u≠[])(h:QQ (QB.hd z l) u=true):l≠[]:=fun e=>by
 subst e;obtain⟨t,r,e⟩:=Vx h hu;cases e
theorem xI(z:Nat):JE (Rf z):=JE.of fun d l=>Lt.bind (X6 (Zh (by decide))) fun _ _ h=>Lt.bind (Uy h) fun _ _ h=>Lt.bind (Lt.ite (fun _=>Lt.ok h) fun _=>(Un z).lt h) fun _ _ h =>
 Lt.bind (Lt.ite (fun _=>(Kb z).lt (Jw h)) fun _=>Lt.ok h) fun _ _ h=>Lt.ok h
theorem zw{st:Nat→List Tk→Rd Nd}(h:JE st){l:List Tk}(hl:l.length<m):Lt m (Zu z st d l):=Lt.bind (nu h hl) fun _ _ h=>Lt.ok h
theorem tZ{st:Nat→List Tk→Rd Nd}(h:JE st):JE (Zu z st):=JE.of fun d l=>Lt.bind (Qnf h) fun _ _ h=>Lt.ok h
theorem E3{st:Nat→List Tk→Rd Nd}(h:JE st):∀f,JE (Ki z st f)
 |0=>fun d l n r h=>by cases h
 |f+1=>JE.of fun d l=>Lt.bind (X6 (Zh (by decide))) fun _ _ h1=>Lt.bind ((Kb z).lt h1) fun _ _ h2=>Lt.bind (zw h h2) fun _ _ h3 =>
  Lt.bind (Lt.ite (fun _=>Lt.ite (fun _=>(E3 h f).lt (Jw h3)) fun _=>zw h (Jw h3)) fun _=>Lt.ok h3) fun _ _ h4=>Lt.ok h4
theorem rR{st:Nat→List Tk→Rd Nd}(h:JE st):JE (Tb z st):=JE.of fun d l=>Lt.bind (X6 (Zh (by decide))) fun _ _ h1=>Lt.bind (Lt.ite (fun _=>Lt.ok h1) fun _=>(Kb z).lt h1) fun _ _ h2=>Lt.bind (zw h h2) fun _ _ h3=>Lt.ok h3
theorem nv:∀(f:Nat){l:List Tk},l.length<m→Lt m (X8 z d f l)
 |0,_,_=>Lt.bad
 |f+1,l,hl=>Lt.ite (fun _=>Lt.bind ((Kb z).lt (Jw hl)) fun _ _ h1=>Lt.bind (nv f h1) fun _ _ h2=>Lt.ok h2) fun _=>Lt.ok hl
theorem sK(z:Nat):JE (RL z):=JE.of fun d l=>Lt.bind (X6 (Zh (by decide))) fun _ _ h1=>Lt.ite (fun _=>Lt.ok h1) fun _=>Lt.bind ((Kb z).lt h1) fun _ _ h2=>Lt.bind (nv _ h2) fun _ _ h3=>Lt.ok h3
theorem Qj6(z:Nat):JE (Zl z):=JE.of fun d l=>Lt.bind (fun n r e=>Kb z d l n r e) fun n r h=>Lt.ite (fun _=>Lt.bind (AJ h) fun _ _ h1=>Lt.bind ((Kb z).lt (Jw h1)) fun _ _ h2=>Lt.ok h2) fun _ =>
 Lt.ite (fun _=>Lt.bind (AJ h) fun _ _ h1=>Lt.bind ((Kb z).lt (Jw h1)) fun _ _ h2=>Lt.ok h2) fun _=>Lt.ite (fun _=>Lt.bind (AJ h) fun _ _ h1=>Lt.ok (Jw h1)) fun _=>Lt.bind (AJ h) fun _ _ h1=>Lt.ok h1
theorem pF{k:Int}{l:List Tk}(hl:l≠[]):Lt l.length (G2 z k d l):=Lt.bind (X6 fun _=>hl) fun _ _ h=>Lt.ok h
theorem mN{st:Nat→List Tk→Rd Nd}(h:JE st):JE (J3 z st):=JE.of fun d l =>
 Lt.ite (fun _ n r e=>xI z d l n r e) fun _=>Lt.ite (fun _ n r e=>tZ h d l n r e) fun _=>Lt.ite (fun _ n r e=>E3 h _ d l n r e) fun _=>Lt.ite (fun _ n r e=>rR h d l n r e) fun _ =>
 Lt.ite (fun _ n r e=>sK z d l n r e) fun _=>Lt.ite (fun hq=>pF (Zh (by decide) hq)) fun _=>Lt.ite (fun hq=>pF (Zh (by decide) hq)) fun _=>fun n r e=>Qj6 z d l n r e
theorem qR(z:Nat):∀f,JE (SL z f)
 |0=>fun d l n r h=>by cases h
 |f+1=>mN (qR z f)
theorem Ej(z:Nat):JE (Ek z):=fun d l n r h=>qR z _ d l n r h
theorem nX(z:Nat):JE (Ke z):=JE.of fun d l=>Lt.bind (X6 (Zh (by decide))) fun _ _ h1 =>
 Lt.bind (Lt.ite (fun _=>Lt.bind ((Xb (Un z)).lt (Jw h1)) fun _ _ h2=>Lt.bind (J9 h2) fun _ _ h3=>Lt.ok h3) fun _=>Lt.ok h1) fun _ _ h2=>Lt.bind (Uy h2) fun _ _ h3=>Lt.bind (pG (Xb (Un z)) h3) fun _ _ h4 =>
 Lt.bind (Lt.ite (fun _=>Lt.ok h4) fun _=>(Un z).lt h4) fun _ _ h5=>Lt.bind (zw (Ej z) h5) fun _ _ h6=>Lt.ok h6
theorem qU{l:List Tk}(h:l≠[]):l.tail.length<l.length:=by
 cases l with
 |nil=>exact absurd rfl h
 |cons t r=>simp
theorem Ue(z:Nat):JE (Jn z):=JE.of fun d l =>
 Lt.ite (fun hq=>Lt.bind (Uy (qU (Zh (by decide) hq))) fun _ _ h=>Lt.ok h) fun _=>Lt.ite (fun hq=>Lt.bind (AJ (qU (Zh (by decide) hq))) fun _ _ h=>Lt.ok (Jw h)) fun _ =>
 Lt.ite (fun hq=>Lt.bind (Uy (qU (Zh (by decide) hq))) fun _ _ h=>Lt.bind (J9 h) fun _ _ h=>Lt.bind ((Kb z).lt h) fun _ _ h=>Lt.ok h) fun _ =>
 Lt.ite (fun hq=>Lt.bind (Uy (qU (Zh (by decide) hq))) fun _ _ h=>Lt.bind ((Un z).lt h) fun _ _ h=>Lt.ok h) fun _=>Lt.ite (fun _ n r e=>xI z d l n r e) fun _=>fun n r e=>nX z d l n r e
end
open ZR Mem
def Mx(B0 g g' B:Nat):Nat→Prop:=fun b=>B0≤b∧b<B∧b≠g∧b≠g'
section
variable {P B0 g g':Nat}{w w':World}{v:Value}{f:F}
theorem Xv{B1 B:Nat}(h:Fs w (Mi B1 B) v f)(h0:B0≤B1)(h1:g<B1∨B≤g)(h2:g'<B1∨B≤g'){B':Nat}(hB:B≤B'):Fs w (Mx B0 g g' B') v f :=
 h.more fun b hb=>⟨Nat.le_trans h0 hb.1,JQ hb.2 hB,by have:=hb.1;have:=hb.2;omega,by have:=hb.1;have:=hb.2;omega⟩
theorem K9{B:Nat}(h:Fs w (Mx B0 g g' B) v f):Fs w (Mi B0 B) v f:=h.more fun b hb=>⟨hb.1,hb.2.1⟩
theorem K1(h:Fs w (Mx B0 g g' w.heap.size) v f)(hb:QP P g w w')(hP:P<B0):Fs w' (Mx B0 g g' w'.heap.size) v f :=
 (h.keep fun b hb'=>hb.block b hb'.2.1 (by have:=hb'.1;omega) hb'.2.2.1).more fun b hb'=>⟨hb'.1,JQ hb'.2.1 hb.size,hb'.2.2⟩
theorem Vr(h:Fs w (Mx B0 g g' w.heap.size) v f)(hb:ZM P w w')(hP:P<B0):Fs w' (Mx B0 g g' w'.heap.size) v f:=K1 h (QP.QS hb) hP
theorem Qm(h:Fs w (Mx B0 g g' w.heap.size) v f)(hb:Below w.heap.size w w')(hP:P<B0):Fs w' (Mx B0 g g' w'.heap.size) v f:=Vr h (ZM.of hb P) hP
theorem aB(h:Fs w (Mx B0 g g' w.heap.size) v f)(v0 v1 v2 v3:Value):Fs ((((w.setCell ⟨g,0,none⟩ v0).setCell ⟨g,1,none⟩ v1).setCell ⟨g,2,none⟩ v2).setCell ⟨g,3,none⟩ v3) (Mx B0 g g' ((((w.setCell ⟨g,0,none⟩ v0).setCell ⟨g,1,none⟩ v1).setCell ⟨g,2,none⟩ v2).setCell ⟨g,3,none⟩ v3).heap.size) v f:=by
 rw[Z2];exact h.keep fun b hb=>(QP.ZT (P:=g) w v0 v1 v2 v3).block b hb.2.1 hb.2.2.1 hb.2.2.1
end
def UF(B0 g g':Nat)(n:Nd)(v:Value)(w:World):Prop:=∃A C,v=ξ #[ι κ n.k,σ n.x,σ n.y,ς A n.c.len C]∧Fs w (Mx B0 g g' w.heap.size) (ς A n.c.len C) n.c
def Yg(B0 g g':Nat)(c:F)(v:Value)(w:World):Prop:=∃A C,v=ς A c.len C∧Fs w (Mx B0 g g' w.heap.size) (ς A c.len C) c
def Cr{P g:Nat}(B0 g':Nat)(hP:P<B0)(n:Nd):Cd (QP P g):=⟨UF B0 g g' n,fun v W W' h ⟨A,C,e,hf⟩=>⟨A,C,e,K1 hf h hP⟩⟩
def Ba{P g:Nat}(B0 g':Nat)(hP:P<B0)(c:F):Cd (QP P g):=⟨Yg B0 g g' c,fun v W W' h ⟨A,C,e,hf⟩=>⟨A,C,e,K1 hf h hP⟩⟩
def K5(B0 g g':Nat)(n:Nd)(W:World):Prop:=∃A C,Z1 W g 24 (ι κ n.k) (σ n.x) (σ n.y) (ς A n.c.len C)∧Fs W (Mx B0 g g' W.heap.size) (ς A n.c.len C) n.c
section
variable {P B0 g g':Nat}{n:Nd}{W W':World}
theorem K5.later(hP:P<B0)(W W':World)(hb:Below W.heap.size W W')(h:K5 B0 g g' n W):K5 B0 g g' n W':=by
 obtain⟨A,C,h1,h2⟩:=h;exact⟨A,C,h1.later hb,Qm h2 hb hP⟩
theorem K5.QS(hb:ZM P W W')(hP:P<B0)(hg:g≠P)(h:K5 B0 g g' n W):K5 B0 g g' n W':=by
 obtain⟨A,C,h1,h2⟩:=h;exact⟨A,C,h1.QS hb hg,Vr h2 hb hP⟩
theorem E0{k:Int}{x y:ByteArray}{c:F}{A:Option Addr}{m C:Nat}{a b c0 d0:Value}(hx:Z1 W g 24 a b c0 d0)(hm:m=c.len)(hf:Fs W (Mx B0 g g' W.heap.size) (ς A m C) c) :
  K5 B0 g g' ⟨k,x,y,c⟩ ((((W.setCell ⟨g,0,none⟩ (ι κ k)).setCell ⟨g,1,none⟩ (σ x)).setCell ⟨g,2,none⟩ (σ y)).setCell ⟨g,3,none⟩ (ς A m C)):=by
 subst hm;exact⟨A,C,hx.ZT _ _ _ _,aB hf _ _ _ _⟩
end
theorem Af(w:World)(B0 g g':Nat)(ps:List (Nd×Value))(cs:Array Value)(hcs:cs=(ps.flatMap Kz).toArray)(n:Nat)(hn:ps.length=n)(Ld:n≤1000000)(hB:B0≤w.heap.size)(hg:g<w.heap.size)(hg':g'<w.heap.size)(P:Nat)(hP:P<B0)(hf:∀p∈ps,Fs w (Mx B0 g g' w.heap.size) p.2 p.1.c) :
  Fs (w.alloc (θ cs 24)) (Mx B0 g g' (w.alloc (θ cs 24)).heap.size) (ς (some ⟨w.heap.size,0,none⟩) n n) (Vg (ps.map (·.1))):=by
 have hb:Below w.heap.size w (w.alloc (θ cs 24)):=(Below.refl _ _).alloc (QH _) _;refine U2 w.heap.size ⟨hB,by simp,by omega,by omega⟩ ps 0 n n hn (QH _) (by omega) (fun j u hu=>?_) (fun p hp=>Qm (hf p hp) hb hP) _ (.inr rfl);rw[Nat.zero_add,World.cell?_alloc_at _ _ _ _ rfl,hcs];simpa using hu
theorem qi(w:World)(B0 g g' P:Nat)(hB:B0≤w.heap.size)(hg:g<w.heap.size)(hg':g'<w.heap.size)(hP:P<B0)(k:Int)(x y:ByteArray)(c:F)(s:Value)(hf:Fs w (Mx B0 g g' w.heap.size) s c) :
  Yg B0 g g' (one ⟨k,x,y,c⟩) (ς (some ⟨w.heap.size,0,none⟩) 1 1) (w.alloc (θ #[ι κ k,σ x,σ y,s] 24)) :=
 ⟨some ⟨w.heap.size,0,none⟩,1,rfl,Af w B0 g g' [(⟨k,x,y,c⟩,s)] _ (by rfl) 1 rfl (by omega) hB hg hg' P hP (fun p hp=>by simp at hp;subst hp;exact hf)⟩
theorem NS(w:World)(B0 g g' P:Nat)(hB:B0≤w.heap.size)(hg:g<w.heap.size)(hg':g'<w.heap.size)(hP:P<B0)(k:Int)(x y:ByteArray)(c:F)(s:Value)(hf:Fs w (Mx B0 g g' w.heap.size) s c)(k2:Int)(x2 y2:ByteArray)(c2:F)(s2:Value)(hf2:Fs w (Mx B0 g g' w.heap.size) s2 c2) :
  Yg B0 g g' (Qo ⟨k,x,y,c⟩ (one ⟨k2,x2,y2,c2⟩)) (ς (some ⟨w.heap.size,0,none⟩) 2 2) (w.alloc (θ #[ι κ k,σ x,σ y,s,ι κ k2,σ x2,σ y2,s2] 24)) :=
 ⟨some ⟨w.heap.size,0,none⟩,2,rfl,Af w B0 g g' [(⟨k,x,y,c⟩,s),(⟨k2,x2,y2,c2⟩,s2)] _ (by rfl) 2 rfl (by omega) hB hg hg' P hP (fun p hp=>by
  simp only[List.mem_cons,List.not_mem_nil,or_false]at hp;rcases hp with rfl|rfl <;> assumption)⟩
structure XJ(w:World)(R:Nat)(W:World)(P z d:Nat)(l:List Tk):Prop where
 QS:ZM P w W
 ps:PS W P z l d
 bx:JZ R W
 hR:w.heap.size≤R
 hlt:P<w.heap.size
section
variable {w W W':World}{P z d d' R:Nat}{l l':List Tk}
theorem XJ.quiet(h:XJ w R W P z d l)(hb:Below W.heap.size W W'):XJ w R W' P z d l:=⟨h.QS.ZN hb,h.ps.later hb,JZ.later _ _ hb h.bx,h.hR,h.hlt⟩
theorem XJ.read(h:XJ w R W P z d l)(hb:ZM P W W')(hps:PS W' P z l' d'):XJ w R W' P z d' l':=⟨h.QS.trans hb,hps,h.bx.QS hb (by have:=h.hlt;have:=h.hR;omega),h.hR,h.hlt⟩
theorem QY{w W W':World}{R P z d:Nat}{l:List Tk}(h:Hid (XJ w R W P z d l))(hb:Below W.heap.size W W'):Hid (XJ w R W' P z d l):=XJ.quiet h.out hb
theorem hRe{w W W':World}{R P z d d':Nat}{l l':List Tk}(h:Hid (XJ w R W P z d l))(hb:ZM P W W')(hps:PS W' P z l' d'):Hid (XJ w R W' P z d' l'):=XJ.read h.out hb hps
theorem XJ.size(h:XJ w R W P z d l):R+1≤W.heap.size:=by
 obtain⟨a,b,c,d,hx⟩:=h.bx;exact hx.lt
theorem XJ.VD(h:XJ w R W P z d l):(∃a b c d,W.cell? ⟨R,0,none⟩=some a∧W.cell? ⟨R,1,none⟩=some b∧W.cell? ⟨R,2,none⟩=some c∧W.cell? ⟨R,3,none⟩=some d)∧W.frozen? ⟨R,0,none⟩=false∧W.frozen? ⟨R,1,none⟩=false∧W.frozen? ⟨R,2,none⟩=false∧W.frozen? ⟨R,3,none⟩=false:=by
 obtain⟨a,b,c,d,hx⟩:=h.bx;exact⟨⟨a,b,c,d,hx.cells⟩,hx.VD⟩
def NB(B0:Nat)(_w w':World)(v:Value)(n:Nd):Prop:=∃A C,v=ξ #[ι κ n.k,σ n.x,σ n.y,ς A n.c.len C]∧Fs w' (Mi B0 w'.heap.size) (ς A n.c.len C) n.c
theorem XJ.ret(h:XJ w R W P z d l){Rr:Rd Nd}{k:Int}{x y:ByteArray}{c:F}{A:Option Addr}{m C B0:Nat}(hR:Rr=.ok ⟨k,x,y,c⟩ l)(hm:m=c.len)(hf:Fs W (Mi B0 W.heap.size) (ς A m C) c)(hf2:∀v0 v1 v2 v3,Fs ((((W.setCell ⟨R,0,none⟩ v0).setCell ⟨R,1,none⟩ v1).setCell ⟨R,2,none⟩ v2).setCell ⟨R,3,none⟩ v3) (Mi B0 W.heap.size) (ς A m C) c) :
  ((((W.setCell ⟨R,0,none⟩ (ι κ k)).setCell ⟨R,1,none⟩ (σ x)).setCell ⟨R,2,none⟩ (σ y)).setCell ⟨R,3,none⟩ (ς A m C)).heap[R]?=some (θ #[ι κ k,σ x,σ y,ς A m C] 24 (0,0))∧
  Qn (NB B0) w P z d Rr (ρ (ξ #[ι κ k,σ x,σ y,ς A m C])) ((((W.setCell ⟨R,0,none⟩ (ι κ k)).setCell ⟨R,1,none⟩ (σ x)).setCell ⟨R,2,none⟩ (σ y)).setCell ⟨R,3,none⟩ (ς A m C)):=by
 obtain⟨a,b,c0,d0,hx⟩:=h.bx;subst hm;have:=h.hlt;have:=h.hR;exact⟨hx.ZT _ _ _ _,Xs hR ⟨A,C,rfl,by rw[Z2];exact hf2 _ _ _ _⟩ (Va h.ps (by omega) _ _ _ _) (Uh h.QS h.hR _ _ _ _)⟩
end
theorem U9{w w':World}{P z d B0:Nat}{R:Rd Nd}{e:Ending}(h:Qn (NB B0) w P z d R e w')(hB:w.heap.size≤B0):Qn NV w P z d R e w':=by
 unfold Qn at h⊢;split at h
 ·obtain⟨v,h1,⟨A,C,h2,h3⟩,h4,h5⟩:=h;exact⟨v,h1,⟨A,C,h2,Q7 h3 hB (QH _)⟩,h4,h5⟩
 ·exact h
theorem xF:Jd 71:=by intro args w;simp[go_sem]
theorem Qq4:Jd 100:=by intro args w;simp[go_sem]
abbrev KM(k:Int)(x:ByteArray)(p:Nat)(f:Bool):Obj:=θ #[ι κ k,σ x,ι κ (p:Int),τ f] 75
theorem Qq1(P z N:Nat)(ex:Nat→Nat→List Tk→Rd Nd)(hex:Xj 71 P z N (ex 1))(tk:Int)(tx:ByteArray)(tp:Nat)(tf:Bool)(l:List Tk)(d:Nat)(w:World)(h:PS w P z l d)(hl:l.length<N)(hd:d+1≤300) :
  Calls prog 113 #[π (some ⟨P,0,none⟩),ξ #[ι κ tk,σ tx,ι κ (tp:Int),τ tf]] w (Qn NV w P z d (first z ex d ⟨tk,tx,tp,tf⟩ l)):=by
 have hlt:=h.lt;have HST:Hid (XJ w (w.heap.size+1) ((w.alloc (KM tk tx tp tf)).alloc XO) P z d l):=by
  have hb0:Below w.heap.size w (w.alloc (KM tk tx tp tf)):=(Below.refl _ _).alloc (QH _) _;have hb1:=J8 (w.alloc (KM tk tx tp tf));have hs:(w.alloc (KM tk tx tp tf)).heap.size=w.heap.size+1:=by simp
  exact⟨(ZM.of hb0 P).ZN hb1,(h.later hb0).later hb1,⟨_,_,_,_,by have:=Xm (w.alloc (KM tk tx tp tf));rwa[hs]at this⟩,by omega,hlt⟩
 have XN:Hid (Z1 ((w.alloc (KM tk tx tp tf)).alloc XO) w.heap.size 75 (ι κ tk) (σ tx) (ι κ (tp:Int)) (τ tf)):=(Qv w _ _ _ _ _).later (J8 _);have hsp:first z ex d ⟨tk,tx,tp,tf⟩ l=first z ex d ⟨tk,tx,tp,tf⟩ l:=rfl
 conv at hsp=>rhs;unfold first
 have Nf:Hid ((⟨#[41]⟩:ByteArray).toList=[41]):=by show _=_;rw[ByteArray.toList_eq]
 have XS:Hid (∀W,PS W P z l d→Calls prog 89 #[π (some ⟨P,0,none⟩),ι κ ((1:Nat):Int),.func (.func 71) #[π (some ⟨P,0,none⟩)] #[]] W (Qn NV W P z d (ex 1 (d+1) l))) :=
   fun W hW=>Kn P z N _ (ex 1) 1 l d W hW (J0 W xF hex) hl hd
 have IG:w.heap.size≠P:=by omega
 clear h hex;by_cases k2:tk=2
 ·subst k2;rw[if_pos rfl]at hsp;have QL:=QA hsp;clear hsp;go_enter func113,ntmps113;go_wp2_with fail;refine c₁ (Qu 26 tx none 0 0 _) fun w1 hb=>?_;replace HST:=QA (HST.out.quiet hb);clear hb;obtain⟨⟨r0,r1,r2,r3,y0,y1,y2,y3⟩,g0,g1,g2,g3⟩:=HST.out.VD;try unfold e0
  go_wp2;have hfin:=HST.out.ret (B0:=(w.heap.size+2)) QL.out (rfl:0=F.len .nil) (Ju (S:=Mi (w.heap.size+2) _)) (fun _ _ _ _=>V4 (Ju (S:=Mi (w.heap.size+2) _)) (.inl (by omega)) _ _ _ _);refine bodyPost_ret (results_cell_row rfl _ _ (w.heap.size+1) 24 _ (0,0) _ rfl hfin.1 underlying24 rfl Q8) rfl ?_;exact U9 hfin.2 (by omega)
 rw[if_neg k2]at hsp;have b2:(tk==2)=false:=beq_eq_false_iff_ne.2 k2;by_cases k3:tk=3
 ·subst k3;rw[if_pos rfl]at hsp;have QL:=QA hsp;clear hsp;go_enter func113,ntmps113;go_wp2_with fail;refine c₁ (Qu 27 tx none 0 0 _) fun w1 hb=>?_;replace HST:=QA (HST.out.quiet hb);clear hb;obtain⟨⟨r0,r1,r2,r3,y0,y1,y2,y3⟩,g0,g1,g2,g3⟩:=HST.out.VD;try unfold e0
  go_wp2;have hfin:=HST.out.ret (B0:=(w.heap.size+2)) QL.out (rfl:0=F.len .nil) (Ju (S:=Mi (w.heap.size+2) _)) (fun _ _ _ _=>V4 (Ju (S:=Mi (w.heap.size+2) _)) (.inl (by omega)) _ _ _ _);refine bodyPost_ret (results_cell_row rfl _ _ (w.heap.size+1) 24 _ (0,0) _ rfl hfin.1 underlying24 rfl Q8) rfl ?_;exact U9 hfin.2 (by omega)
 rw[if_neg k3]at hsp;have b3:(tk==3)=false:=beq_eq_false_iff_ne.2 k3;clear k2 k3;cases b4:(tx.toList==[40])with
 |false =>
  rw[if_neg (V3 b4)]at hsp;have QL:=QA hsp;clear hsp;go_enter func113,ntmps113;go_wp2_with fail;refine c₁ (Qu 9 tx none 0 0 _) fun w1 hb=>?_;replace HST:=QA (HST.out.quiet hb);clear hb;obtain⟨⟨r0,r1,r2,r3,y0,y1,y2,y3⟩,g0,g1,g2,g3⟩:=HST.out.VD;try unfold e0
  go_wp2;have hfin:=HST.out.ret (B0:=(w.heap.size+2)) QL.out (rfl:0=F.len .nil) (Ju (S:=Mi (w.heap.size+2) _)) (fun _ _ _ _=>V4 (Ju (S:=Mi (w.heap.size+2) _)) (.inl (by omega)) _ _ _ _);refine bodyPost_ret (results_cell_row rfl _ _ (w.heap.size+1) 24 _ (0,0) _ rfl hfin.1 underlying24 rfl Q8) rfl ?_;exact U9 hfin.2 (by omega)
 |true =>
  rw[if_pos (Vp b4)]at hsp;cases hr:ex 1 (d+1) l with
  |bad p er=>rw[hr,Rd.QG]at hsp;rw[hr]at XS;have QL:=QA hsp;clear hsp hr;go_enter func113,ntmps113;go_wp2_with fail;refine c₁ (Qh (XS.out _ HST.out.ps) rfl) fun w1 QD=>?_;have HE:=QA (HST.out.QS.trans QD);clear QD;go_wp2;exact⟨rfl,Qc QL.out HE.out⟩
  |ok n l2 =>
   obtain⟨nk,nx,ny,nc⟩:=n;rw[hr,Rd.bind_ok]at hsp;rw[hr]at XS;clear hr;have ZO:=QA hsp;clear hsp;go_enter func113,ntmps113;go_wp2_with fail;refine(Qf (XS.out _ HST.out.ps) rfl).mono ?_;rintro e W ⟨v,rfl,⟨A,C,rfl,hf⟩,hps,QD⟩;have hf':=Q7 (B0':=w.heap.size+2) hf HST.out.size (QH _);replace HST:=QA (HST.out.read QD hps);generalize hm:nc.len=m at *;have Hm:=QA hm;have HF:=QA hf';clear hf hf' hps QD hm;have WR:W.heap.size≠P:=by have:=HST.out.size;omega
   have HX:=QA (Qv W 24 (ι κ nk) (σ nx) (σ ny) (ς A m C));have Sw:P<w.heap.size+2:=by omega
   have TP:=WR;have Wo:=QA HST.out.size;have hb:=(Below.refl (W).heap.size (W)).alloc (QH _) (θ #[ι κ nk,σ nx,σ ny,ς A m C] 24);replace HST:=QA (HST.out.quiet hb);replace HF:=QA (SU HF.out hb);clear hb;go_wp2_with fail;cases hw:QB.want z [41] l2 with
   |bad p er=>have hsp:=ZO.out;rw[hw,Rd.QG]at hsp;have QL:=QA hsp;have HW:=QA hw;clear hsp hw;refine c₁ (Qh (Vt HST.out.ps Nf.out (by decide)) HW.out) fun w1 QD=>?_;have HE:=QA (HST.out.QS.trans QD);clear QD;go_wp2;exact⟨rfl,Qc QL.out HE.out⟩
   |ok x l3 =>
    have hsp:=ZO.out;rw[hw,Rd.bind_ok]at hsp;have QL:=QA hsp;have HW:=QA hw;clear hsp hw;refine(Qf (Vt HST.out.ps Nf.out (by decide)) HW.out).mono ?_;rintro e W2 ⟨v,rfl,rfl,hps,QD⟩;replace HST:=QA (HST.out.read QD hps);replace HF:=QA (WV HF.out QD Sw);replace HX:=QA (HX.out.QS QD TP);clear hps QD;obtain⟨q0,q1,q2,q3⟩:=HX.out.cells;have hne:W.heap.size≠w.heap.size+1:=by have:=Wo.out;omega
    have Mh:w.heap.size+1≠W.heap.size:=by omega
    obtain⟨⟨r0,r1,r2,r3,y0,y1,y2,y3⟩,g0,g1,g2,g3⟩:=HST.out.VD;try unfold e0
    go_wp2;have hfin:=HST.out.ret (B0:=(w.heap.size+2)) QL.out Hm.out.symm HF.out (fun _ _ _ _=>V4 HF.out (.inl (by omega)) _ _ _ _);refine bodyPost_ret (results_cell_row rfl _ _ (w.heap.size+1) 24 _ (0,0) _ rfl hfin.1 underlying24 rfl Q8) rfl ?_;exact U9 hfin.2 (by omega)
theorem Y6(p:Nd×Value):(Kz p).length=4:=rfl
def Kc:F→List Nd
 | .nil=>[]
 | .cons k x y c r=>⟨k,x,y,c⟩::Kc r
theorem xX:∀f:F,Vg (Kc f)=f
 | .nil=>rfl
 | .cons k x y c r=>by simp only[Kc,Vg,Qo,xX r]
theorem zr{w:World}{S:Nat→Prop}:∀{f:F}{b off n C:Nat},Fs w S (ς (some ⟨b,off,none⟩) n C) f→
  ∃ps:List (Nd×Value),ps.map (·.1)=Kc f∧ps.length=n∧(∀j u,(ps.flatMap Kz)[j]?=some u→w.cell? ⟨b,off+j,none⟩=some u)∧∀p∈ps,Fs w S p.2 p.1.c
 | .nil,b,off,n,C,⟨A,C',e,_⟩=>by
  injection e with _ e2 _;subst e2;exact⟨[],rfl,rfl,fun j u hu=>by simp at hu,fun p hp=>by cases hp⟩
 | .cons k x y c r,b,off,n,C,⟨b',PO,n',C',s,e,h1,h2,h3,hS,c0,c1,c2,c3,hk,hr⟩=>by
  injection e with e1 e2 e3;injection e1 with e1;injection e1 with e4 e5;subst e4;subst e5;subst e2;subst e3;obtain⟨ps,p1,p2,p3,p4⟩:=zr (hr (some ⟨b,off+4,none⟩) (.inr rfl));refine⟨(⟨k,x,y,c⟩,s)::ps,by rw[List.map_cons,p1];rfl,by rw[List.length_cons,p2],fun j u hu=>?_,fun p hp=>?_⟩
  ·rw[List.flatMap_cons]at hu;by_cases hj:j<4
   ·rw[List.getElem?_append_left (by rw[Y6];exact hj)]at hu
    match j,hj,hu with
    |0,_,hu=>cases hu;exact c0
    |1,_,hu=>cases hu;exact c1
    |2,_,hu=>cases hu;exact c2
    |3,_,hu=>cases hu;exact c3
   ·rw[List.getElem?_append_right (by rw[Y6];omega),Y6]at hu;have:=p3 (j-4) u hu;rwa[show off+4+(j-4)=off+j by omega]at this
  ·rcases List.mem_cons.1 hp with rfl|hp
   ·exact hk
   ·exact p4 p hp
theorem one_cell{w:World}{S:Nat→Prop}{ps:List (Nd×Value)}(hf:∀p∈ps,Fs w S p.2 p.1.c):∀u∈ps.flatMap Kz,u.oneCell'=true:=by
 intro u hu;obtain⟨p,hp,hu⟩:=List.mem_flatMap.1 hu;obtain⟨A,C,e,_,_⟩:=(hf p hp).slice;simp only[Kz,List.mem_cons,List.not_mem_nil,or_false]at hu;rcases hu with rfl|rfl|rfl|rfl
 ·rfl
 ·rfl
 ·rfl
 ·rw[e];rfl
theorem Qd8{P:Program}(w:World)(t ty e:TypeId)(i:TypeInfo)(ht:P.underlying t=some (.slice e))(hi:P.info? e=some i)(b:Addr)(n cap:Nat)(hn:n≤cap)(A:Option Addr)(c:Nat) :
  (Builtin.append_ #[t,t] ty #[ς (some b) n cap,ς A 0 c]).run P w=.ok (ς (some b) n cap) w:=by
 cases A with
 |none=>simp[Builtin.append_,run_underlying ht,sizeOf,typeInfo,hi,Builtin.lenOf,Builtin.firstCells,hn,storeCells]
 |some a=>simp[Builtin.append_,run_underlying ht,sizeOf,typeInfo,hi,Builtin.lenOf,Builtin.firstCells,hn,storeCells,loadCells,loadCellsFrom]
def jH(B0 g g':Nat)(n:Nd)(v:Value)(w:World):Prop:=∃b,v=ς (some ⟨b,0,none⟩) 1 1∧Fs w (Mx B0 g g' w.heap.size) (ς (some ⟨b,0,none⟩) 1 1) (one n)
def lG{P g:Nat}(B0 g':Nat)(hP:P<B0)(n:Nd):Cd (QP P g):=⟨jH B0 g g' n,fun v W W' h ⟨b,e,hf⟩=>⟨b,e,K1 hf h hP⟩⟩
theorem oD(w:World)(ty:TypeId)(P B0 g g' b C:Nat)(hP:P<B0)(hB:B0≤w.heap.size)(hg:g<w.heap.size)(hg':g'<w.heap.size)(n:Nd)(c:F)(A:Option Addr)(h1:Fs w (Mx B0 g g' w.heap.size) (ς (some ⟨b,0,none⟩) 1 1) (one n))(h2:Fs w (Mx B0 g g' w.heap.size) (ς A c.len C) c)(hc:c.len≤10000000) :
  ∃v' w',(Builtin.append_ #[22,22] ty #[ς (some ⟨b,0,none⟩) 1 1,ς A c.len C]).run prog w=.ok v' w'∧Below w.heap.size w w'∧Yg B0 g g' (Qo n c) v' w':=by
 obtain⟨i0,hi0,hz0,hz1,hz2⟩:=zf;have hT:=underlying22;cases hcn:c with
 |nil=>refine⟨_,w,Qd8 (P:=prog) w _ ty _ i0 hT hi0 ⟨b,0,none⟩ 1 1 (QH _) A C,Below.refl _ _,_,_,rfl,?_⟩;exact h1
 |cons k x y c0 r =>
  have hlen:0<c.len:=by rw[hcn];simp[F.len]
  rw[←hcn];obtain⟨b2,PN,hA⟩:∃b2 PN,A=some ⟨b2,PN,none⟩:=by rw[hcn]at h2;obtain⟨b2,PN,n2,C2,s2,e,_⟩:=h2;injection e with e1 _ _;exact⟨b2,PN,e1⟩
  subst hA;obtain⟨Ip,a1,a2,a3,a4⟩:=zr h1;obtain⟨Ma,b1,eQ,b3,b4⟩:=zr h2;have ad:∀(q o j:Nat),(⟨q,o,none⟩:Addr).add j=⟨q,o+j,none⟩:=fun q o j=>by unfold Addr.add;split <;> simp_all
  have hmul:(1+c.len)*64≤10000001*64:=Nat.mul_le_mul (by omega) (QH _)
  obtain⟨v',w',hrun,hown,hgr⟩:=run_append_arg_grows (P:=prog) (w:=w) 22 ty 24 i0 _ 4 64 hT hi0 hz0 hz1 hz2 rfl (by decide) ⟨b,0,none⟩ 1 1 (Ip.flatMap Kz) (by rw[qX Y6,a2]) (fun j u hu=>by rw[ad];exact a3 j u hu)
   ⟨b2,PN,none⟩ c.len C (Ma.flatMap Kz) (by rw[qX Y6,eQ]) (fun j u hu=>by rw[ad];exact b3 j u hu) (by omega) (by unfold maxLen;omega) (by omega)
  have hbl:Below w.heap.size w w':=⟨hgr.os,hgr.tape,hgr.output,hgr.size,fun k hk=>hgr.block k hk (by simp)⟩;refine⟨v',w',hrun,hbl,?_⟩;rcases hown.2 with⟨_,h0⟩|⟨q,cap,cur,rfl,hq0,hq,q1,q2,q3,q4⟩
  ·omega
  ·have hl:=hown.lt q rfl;have hcl:=hown.cells (g:=q) rfl;have Lf:(Qo n c).len=1+c.len:=by simp[Qo,F.len];omega
   have e:Qo n c=Vg ((Ip++Ma).map (·.1)):=by rw[List.map_append,a1,b1];simp only[one,Qo,Kc,List.cons_append,List.nil_append,Vg,xX]
   refine⟨some ⟨q,0,none⟩,cap,by rw[Lf],?_⟩;rw[Lf,e];refine U2 q ⟨by omega,hl.2,by omega,by omega⟩ (Ip++Ma) 0 _ cap (by rw[List.length_append,a2,eQ]) q1 q2 (fun j u hu=>?_) (fun p hp=>?_) _ (.inr rfl)
   ·rw[List.flatMap_append]at hu;have:=hcl j u hu;rwa[ad]at this
   ·rcases List.mem_append.1 hp with hp|hp
    ·exact Qm (a4 p hp) hbl hP
    ·exact Qm (b4 p hp) hbl hP
theorem Qmd{o:Oper}{a:Act}{w:World}{K:Act→World→Prop}{Q:Exit→Act→World→Prop}(s x:Operand)
  (ho:o.op=.call { callee:=.builtin .append,args:=#[s,x],argTypes:=#[22,22] }) (P B0 g g' b C:Nat) (hP:P<B0) (hB:B0≤w.heap.size) (hg:g<w.heap.size) (hg':g'<w.heap.size) (n:Nd) (c:F) (A:Option Addr) (hs:a.eval s=ς (some ⟨b,0,none⟩) 1 1) (hx:a.eval x=ς A c.len C)
  (h1:Fs w (Mx B0 g g' w.heap.size) (ς (some ⟨b,0,none⟩) 1 1) (one n)) (h2:Fs w (Mx B0 g g' w.heap.size) (ς A c.len C) c) (hc:c.len≤10000000)
  (hK:∀v' w',Below w.heap.size w w'→Yg B0 g g' (Qo n c) v' w'→K (a.put o.dst v') w'):Oper.wp prog o a w K Q:=by
 obtain⟨v',w',hrun,r1,r2⟩:=oD w o.type P B0 g g' b C hP hB hg hg' n c A h1 h2 hc;unfold Oper.wp;simp[execOp,ho,resolve,invoke,builtin,hs,hx,hrun,Result.andThen];exact hK v' w' r1 r2
