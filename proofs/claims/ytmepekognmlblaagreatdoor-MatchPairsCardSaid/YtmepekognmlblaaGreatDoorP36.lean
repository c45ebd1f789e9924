import Derived.Test.YtmepekognmlblaaGreatDoorP25
set_option maxHeartbeats 16000000
set_option maxRecDepth 100000
set_option linter.unusedVariables false
open Go.ChangeShapes Go.WideShapes Go.ChangeAt Go.RowKit
open _root_.List renaming mem_cons_of_mem→UN,setIfInBounds_toArray→ZC,set_cons_succ→ZA,set_cons_zero→QZ,getElem?_eq_getElem→QN,mem_of_getElem?→JK,getElem?_map→VP,length_map→VD
open Go.Lib renaming hid→QA
open Go.RowKit.Below renaming refl→QE
open _root_.Nat renaming lt_of_lt_of_le→VE,le_trans→QW,zero_le→ZR
open Go.Value renaming string→σ,int→ι,slice→ς,pointer→π,agg→ξ
open Go.IntKind renaming i64→γ
open Go.Obj renaming cells→θ
open Go.Ending renaming returned→ρ
namespace Go.Proofs.YtmepekognmlblaaGreatDoor
namespace Shape
open Mem Tree
theorem ù{w:World}{b:Nat}{o:Obj}(h:w.heap[b]?=some o):b<w.heap.size:=by
 rcases Nat.lt_or_ge b w.heap.size with h1|h1
 ·exact h1
 ·rw[Array.getElem?_eq_none h1]at h;cases h
theorem Qo3{b:Nat}{o:Obj}{w w':World}{row:Option Nat}(h:w.heap[b]?=some o)(hg:w.grownBy w' row)(hne:some b=none∨some b≠row):w'.heap[b]?=some o:=by
 rcases hne with hne|hne
 ·cases hne
 ·rw[hg.block b (ù h) hne];exact h
def bN(b:Nat)(o:Obj):QC:=⟨some b,fun w=>w.heap[b]?=some o,fun w k h hk=>(Option.some.inj hk) ▸ ù h,fun w w' row h hg hne=>Qo3 h hg hne⟩
def PR(g:Nat)(vN vP vS vK:Value)(nN:Nat)(cN:List Value)(nP:Nat)(cP:List Value)(nS:Nat)(cS:List Value)(nK:Nat)(us vs:List Value)(ks:List (List Nat))(X:List QC):List QC :=
 Kf 59 g [vN,vP,vS,vK]::Qb 24 4 vN nN cN::Qb 3 1 vP nP cP::Qb 3 1 vS nS cS::Qb 32 1 vK nK us::(VW vs ks++X)
def Safe(S:Nat→Prop)(B:Nat)(X:List QC):Prop:=∀b,S b→b<B∨∃o,bN b o∈X
theorem Safe.more{S:Nat→Prop}{B:Nat}{X Y:List QC}(h:Safe S B X)(hs:∀t∈X,t∈Y):Safe S B Y:=fun b hb=>(h b hb).imp id fun⟨o,ho⟩=>⟨o,hs _ ho⟩
theorem Safe.keep{S:Nat→Prop}{B:Nat}{X R R':List QC}{w w':World}(h:Safe S B X)(h1:QH w B (R++X))(h2:QH w' B (R'++X))(hb:Below B w w'):∀b,S b→w'.heap[b]? = w.heap[b]? := fun b hS=>by
 rcases h b hS with h|⟨o,ho⟩
 ·exact hb.block b h
 ·have e1:w.heap[b]?=some o:=h1.h _ (List.mem_append_right _ ho);have e2:w'.heap[b]?=some o:=h2.h _ (List.mem_append_right _ ho);rw[e1,e2]
theorem Z4(g:Nat)(vN vP vS vK:Value)(nN:Nat)(cN:List Value)(nP:Nat)(cP:List Value)(nS:Nat)(cS:List Value)(nK:Nat)(us vs:List Value)(ks:List (List Nat))(X:List QC) :
 PR g vN vP vS vK nN cN nP cP nS cS nK us vs ks X=PR g vN vP vS vK nN cN nP cP nS cS nK us vs ks []++X:=by
 simp only[PR,List.append_nil,List.cons_append]
structure PS(w:World)(B:Nat)(S:Nat→Prop)(X:List QC)(g:Nat)(L:List Nd)(ps zs:List Int)(ks:List (List Nat)):Prop where
 all:∃(vN vP vS vK:Value)(us:List Value)(nps:List (Nd×Value)),QH w B (PR g vN vP vS vK nps.length (nps.flatMap VC) ps.length (ps.map iv) zs.length (zs.map iv) us.length us us ks X)∧nps.map (·.1)=L∧(∀p∈nps,Fs w S p.2 p.1.c)∧us.length=ks.length
 safe:Safe S B X
section
variable {w w':World}{B:Nat}{S:Nat→Prop}{X:List QC}{g:Nat}{L L':List Nd}{ps zs ps' zs':List Int}{ks ks':List (List Nat)}{t t':QC}
theorem PS.GD(h:PS w B S X g L ps zs ks):∃R,QH w B (R++X):=by
 obtain⟨vN,vP,vS,vK,us,nps,h1,_⟩:=h.all;rw[Z4]at h1;exact⟨_,h1⟩
theorem PS.keep(h:PS w B S X g L ps zs ks)(h':PS w' B S X g L' ps' zs' ks')(hb:Below B w w'):∀b,S b→w'.heap[b]?=w.heap[b]?:=by
 obtain⟨R,h1⟩:=h.GD;obtain⟨R',h2⟩:=h'.GD;exact h.safe.keep h1 h2 hb
theorem PS.le(h:PS w B S X g L ps zs ks):B≤w.heap.size:=by
 obtain⟨R,h1⟩:=h.GD;exact h1.B
theorem PS.get(h:PS w B S X g L ps zs ks)(ht:t∈X):t.H w:=by
 obtain⟨R,h1⟩:=h.GD;exact h1.h _ (List.mem_append_right _ ht)
theorem PS.later(h:PS w B S X g L ps zs ks)(hb:Below w.heap.size w w'):PS w' B S X g L ps zs ks:=by
 obtain⟨vN,vP,vS,vK,us,nps,h1,h2,h3,h4⟩:=h.all;have h5:=h1.later hb;have hk:∀b,S b→w'.heap[b]?=w.heap[b]?:=by rw[Z4]at h1 h5;exact h.safe.keep h1 h5 (hb.mono h.le)
 exact⟨⟨vN,vP,vS,vK,us,nps,h5,h2,fun p hp=>(h3 p hp).keep hk,h4⟩,h.safe⟩
theorem PS.add(h:PS w B S X g L ps zs ks)(hb:Below w.heap.size w w')(ht:t.H w')(hn:∀k,t.b=some k→w.heap.size≤k):PS w' B S (t::X) g L ps zs ks:=by
 obtain⟨vN,vP,vS,vK,us,nps,h1,h2,h3,h4⟩:=h.all;have h5:=h1.snoc (Qd8 hb) ht hn;have hk:∀b,S b→w'.heap[b]?=w.heap[b]?:=by rw[Z4]at h1;have h5':=h1.later hb;exact h.safe.keep h1 h5' (hb.mono h.le)
 refine⟨⟨vN,vP,vS,vK,us,nps,h5.perm ?_,h2,fun p hp=>(h3 p hp).keep hk,h4⟩,h.safe.more fun t ht=>UN _ ht⟩;rw[Z4,Z4 _ _ _ _ _ _ _ _ _ _ _ _ _ _ _ (t::X),List.append_assoc];exact List.Perm.append_left _ List.perm_append_comm
theorem PS.less(h:PS w B S (t::X) g L ps zs ks)(hs:Safe S B X):PS w B S X g L ps zs ks:=by
 obtain⟨vN,vP,vS,vK,us,nps,h1,h2,h3,h4⟩:=h.all;refine⟨⟨vN,vP,vS,vK,us,nps,h1.sub ?_,h2,h3,h4⟩,hs⟩;rw[Z4,Z4 _ _ _ _ _ _ _ _ _ _ _ _ _ _ _ (t::X)];exact List.Sublist.append (List.Sublist.refl _) (List.sublist_cons_self _ _)
theorem PS.turn(h:PS w B S (t::X) g L ps zs ks)(hs:Safe S B X)(hg:w.grownBy w' t.b)(ht:t'.H w')(hb:t'.b=t.b):PS w' B S (t'::X) g L ps zs ks∧Below B w w':=by
 obtain⟨vN,vP,vS,vK,us,nps,h1,h2,h3,h4⟩:=h.all;rw[Z4]at h1;generalize hR:PR g vN vP vS vK nps.length (nps.flatMap VC) ps.length (ps.map iv) zs.length (zs.map iv) us.length us us ks []=R at h1;have hi:(R++t::X)[R.length]?=some t:=ψ
 have h5:=h1.set hi hg ht (.inl hb);have hB:=h1.QF hi hg;have e:(R++t::X).set R.length t'=R++t'::X:=ψ
 rw[e]at h5
 have hk:∀b,S b→w'.heap[b]? = w.heap[b]? := fun b hS=>by
  rcases hs b hS with q|⟨o,ho⟩
  ·exact hB.block b q
  ·have e1:w.heap[b]?=some o:=h1.h _ (List.mem_append_right _ (UN _ ho));have e2:w'.heap[b]?=some o:=h5.h _ (List.mem_append_right _ (UN _ ho));rw[e1,e2]
 refine⟨⟨⟨vN,vP,vS,vK,us,nps,?_,h2,fun p hp=>(h3 p hp).keep hk,h4⟩,hs.more fun t ht=>UN _ ht⟩,hB⟩;rw[Z4,hR];exact h5
theorem PS.cast(h:PS w B S X g L ps zs ks)(h1:L=L')(h2:ps=ps')(h3:zs=zs')(h4:ks=ks'):PS w B S X g L' ps' zs' ks':=by
 subst h1;subst h2;subst h3;subst h4;exact h
end
theorem Qx5{g:Nat}{vN vP vS vK:Value}{nN:Nat}{cN:List Value}{nP:Nat}{cP:List Value}{nS:Nat}{cS:List Value}{nK:Nat}{us vs:List Value}{ks:List (List Nat)}{X:List QC}{i n':Nat}{v:Value}{c':List Value}{l':List Nat}(hi:i<vs.length)(hl:vs.length=ks.length)(hn:n'=l'.length)(hc:c'=l'.map nv) :
 ((PR g vN vP vS vK nN cN nP cP nS cS nK us vs ks X).set (i+5) (Qb 3 1 v n' c')).set 4 (Qb 32 1 vK nK (us.set i v))=PR g vN vP vS vK nN cN nP cP nS cS nK (us.set i v) (vs.set i v) (ks.set i l') X:=by
 subst hn;subst hc;unfold PR;rw[←Uy vs ks i v l' hl,←List.set_append_left _ _ (by rw[Ye vs ks hl,←hl];exact hi)];rfl
theorem OH{g:Nat}{vN vP vS vK:Value}{nN:Nat}{cN:List Value}{nP:Nat}{cP:List Value}{nS:Nat}{cS:List Value}{nK:Nat}{us vs:List Value}{ks:List (List Nat)}{X:List QC}{i:Nat}{v:Value}{l:List Nat}(hv:vs[i]?=some v)(hk:ks[i]?=some l) :
 (PR g vN vP vS vK nN cN nP cP nS cS nK us vs ks X)[i+5]?=some (Qb 3 1 v l.length (l.map nv)):=by
 show(VW vs ks++X)[i]?=_;have h:=Xg hv hk;rw[List.getElem?_append_left (List.getElem?_eq_some_iff.1 h).1,h]
theorem Gk{R:List QC}{i:Nat}{t t':QC}(h:R[i]?=some t):(R.set i t')[i]?=some t':=by
 rw[List.getElem?_set_self (List.getElem?_eq_some_iff.1 h).1]
theorem Qu0{w:World}{B g:Nat}{vN vP vS vK:Value}{nN:Nat}{cN:List Value}{nP:Nat}{cP:List Value}{nS:Nat}{cS:List Value}{nK:Nat}{us vs:List Value}{ks:List (List Nat)}{X:List QC}{v:Value}{l:List Nat}(hl:vs.length=ks.length)
 (h:QH w B (PR g vN vP vS vK nN cN nP cP nS cS nK us vs ks X++[Qb 3 1 v l.length (l.map nv)])):QH w B (PR g vN vP vS vK nN cN nP cP nS cS nK us (vs++[v]) (ks++[l]) X):=by
 refine h.perm ?_;have e:PR g vN vP vS vK nN cN nP cP nS cS nK us (vs++[v]) (ks++[l]) X=PR g vN vP vS vK nN cN nP cP nS cS nK us vs ks []++([Qb 3 1 v l.length (l.map nv)]++X):=by unfold PR;rw[←D4 vs ks v l hl];simp
 rw[e,Z4,List.append_assoc];exact List.Perm.append_left _ List.perm_append_comm
theorem Jz:(Tryz.prog.info? 24).map (fun i=>(i.zero,i.size,i.bytes))=some (some (ξ #[ι γ 0,σ ⟨#[]⟩,σ ⟨#[]⟩,ς none 0 0]),4,64):=χ
theorem PS.box{w:World}{B:Nat}{S:Nat→Prop}{X:List QC}{g:Nat}{L:List Nd}{ps zs:List Int}{ks:List (List Nat)}(h:PS w B S X g L ps zs ks)(e:TypeId)(cs:Array Value):PS (w.alloc (θ cs e)) B S (Kf e w.heap.size cs.toList::X) g L ps zs ks :=
 h.add (Qz w _) (World.ownsRow_lit w cs 1 (Nat.zero_le _) (by unfold maxLen;omega) ψ) fun k hk=>by
  have hk:some w.heap.size=some k:=hk;injection hk with hk;omega
theorem fh{g:Nat}{vN vP vS vK:Value}{nN:Nat}{cN:List Value}{nP:Nat}{cP:List Value}{nS:Nat}{cS:List Value}{nK:Nat}{us vs:List Value}{ks:List (List Nat)}{X:List QC}{t:QC}(h:t∈X):t∈PR g vN vP vS vK nN cN nP cP nS cS nK us vs ks X:=by
 rw[Z4];exact List.mem_append_right _ h
theorem Yi{W:World}{B:Nat}{R:List QC}{g:Nat}{T:TypeId}{a b c d:Value}(h:QH W B R)(hm:Kf T g [a,b,c,d]∈R) :
 (W.cell? ⟨g,0,none⟩=some a∧W.cell? ⟨g,1,none⟩=some b∧W.cell? ⟨g,2,none⟩=some c∧W.cell? ⟨g,3,none⟩=some d)∧W.frozen? ⟨g,0,none⟩=false∧W.frozen? ⟨g,1,none⟩=false∧W.frozen? ⟨g,2,none⟩=false∧W.frozen? ⟨g,3,none⟩=false:=by
 obtain⟨j,hj⟩:=List.getElem?_of_mem hm;exact Zr h hj
theorem QH.MP{W:World}{B:Nat}{R:List QC}{i n c g:Nat}{e:TypeId}{xs:List Value}(h:QH W B R)(hi:R[i]?=some (Qb e 4 (ς (some ⟨g,0,none⟩) n c) n xs))(j:Nat)(a0 a1 a2 a3:Value) :
 QH ((((W.setCell ⟨g,j,none⟩ a0).setCell ⟨g,j+1,none⟩ a1).setCell ⟨g,j+2,none⟩ a2).setCell ⟨g,j+3,none⟩ a3) B (R.set i (Qb e 4 (ς (some ⟨g,0,none⟩) n c) n ((((xs.set j a0).set (j+1) a1).set (j+2) a2).set (j+3) a3)))∧
 Below B W ((((W.setCell ⟨g,j,none⟩ a0).setCell ⟨g,j+1,none⟩ a1).setCell ⟨g,j+2,none⟩ a2).setCell ⟨g,j+3,none⟩ a3):=by
 obtain⟨h1,b1⟩:=h.store hi j a0;obtain⟨h2,b2⟩:=h1.store (Gk hi) (j+1) a1;rw[List.set_set]at h2;obtain⟨h3,b3⟩:=h2.store (Gk hi) (j+2) a2;rw[List.set_set]at h3;obtain⟨h4,b4⟩:=h3.store (Gk hi) (j+3) a3;rw[List.set_set]at h4;exact⟨h4,((b1.trans b2).trans b3).trans b4⟩
theorem Ao(xs:List Value)(z0 z1 z2 z3 a0 a1 a2 a3:Value)(m:Nat)(hm:xs.length=m):((((xs++[z0,z1,z2,z3]).set m a0).set (m+1) a1).set (m+2) a2).set (m+3) a3=xs++[a0,a1,a2,a3]:=by
 subst hm;simp
section
variable {w w':World}{B:Nat}{S:Nat→Prop}{X:List QC}{g:Nat}{L:List Nd}{ps zs:List Int}{ks:List (List Nat)}
theorem PS.rd(h:PS w B S X g L ps zs ks):∃aN cN aP cP aS cS aK cK,(w.cell? ⟨g,0,none⟩=some (ς aN L.length cN)∧w.cell? ⟨g,1,none⟩=some (ς aP ps.length cP)∧w.cell? ⟨g,2,none⟩=some (ς aS zs.length cS)∧w.cell? ⟨g,3,none⟩=some (ς aK ks.length cK))∧
 (w.frozen? ⟨g,0,none⟩=false∧w.frozen? ⟨g,1,none⟩=false∧w.frozen? ⟨g,2,none⟩=false∧w.frozen? ⟨g,3,none⟩=false)∧
 (∀(i:Nat)(nd:Nd),L[i]?=some nd→∃gN s,aN=some ⟨gN,0,none⟩∧(w.cell? ⟨gN,i*4,none⟩=some (ι γ nd.k)∧w.cell? ⟨gN,i*4+1,none⟩=some (σ nd.x)∧w.cell? ⟨gN,i*4+2,none⟩=some (σ nd.y)∧w.cell? ⟨gN,i*4+3,none⟩=some s)∧Fs w S s nd.c):=by
 obtain⟨vN,vP,vS,vK,us,nps,hF,hL,VX,KU⟩:=h.all;obtain⟨aN,ZO,rfl,_,_⟩:=hF.slice (i:=1) rfl;obtain⟨aP,EN,rfl,_,_⟩:=hF.slice (i:=2) rfl;obtain⟨aS,G',rfl,_,_⟩:=hF.slice (i:=3) rfl;obtain⟨aK,ZB,rfl,_,_⟩:=hF.slice (i:=4) rfl;obtain⟨⟨q0,q1,q2,q3⟩,z0,z1,z2,z3⟩:=Zr hF (j:=0) rfl;have hl:nps.length=L.length:=by rw[←hL,List.length_map]
 refine⟨aN,ZO,aP,EN,aS,G',aK,ZB,⟨by rw[←hl];exact q0,q1,q2,by rw[←KU];exact q3⟩,⟨z0,z1,z2,z3⟩,fun i nd hi=>?_⟩;rw[←hL,List.getElem?_map]at hi;cases hp:nps[i]? with
 |none=>rw[hp]at hi;cases hi
 |some q=>obtain⟨tY,s⟩:=q;rw[hp]at hi;injection hi with hi;have hi:tY=nd:=hi;subst hi;obtain⟨gN,c',e,_,_⟩:=hF.sliceAt (i:=1) rfl (by have:=(List.getElem?_eq_some_iff.1 hp).1;omega);injection e with e _ _;subst e;exact⟨gN,s,rfl,yJ (j:=1) (nps:=nps) hF rfl hp,VX _ (List.mem_of_getElem? hp)⟩
theorem PS.EW{e:TypeId}{sz n c b:Nat}{xs:List Value}(h:PS w B S (Qb e sz (ς (some ⟨b,0,none⟩) n c) n xs::X) g L ps zs ks)(hs:Safe S B X)(j:Nat)(u:Value):PS (w.setCell ⟨b,j,none⟩ u) B S (Qb e sz (ς (some ⟨b,0,none⟩) n c) n (xs.set j u)::X) g L ps zs ks∧Below B w (w.setCell ⟨b,j,none⟩ u):=by
 have ho:w.ownsRow 0 e sz (ς (some ⟨b,0,none⟩) n c) n xs:=h.get List.mem_cons_self;obtain⟨h1,h2⟩:=ho.stored j u;exact h.turn hs h2 h1 rfl
theorem PS.KD{T:TypeId}{b:Nat}{x0 x1 x2 x3:Value}(h:PS w B S (Kf T b [x0,x1,x2,x3]::X) g L ps zs ks)(hs:Safe S B X)(a0 a1 a2 a3:Value):PS ((((w.setCell ⟨b,0,none⟩ a0).setCell ⟨b,1,none⟩ a1).setCell ⟨b,2,none⟩ a2).setCell ⟨b,3,none⟩ a3) B S (Kf T b [a0,a1,a2,a3]::X) g L ps zs ks∧
 Below B w ((((w.setCell ⟨b,0,none⟩ a0).setCell ⟨b,1,none⟩ a1).setCell ⟨b,2,none⟩ a2).setCell ⟨b,3,none⟩ a3):=by
 obtain⟨h1,b1⟩:=PS.EW h hs 0 a0;obtain⟨h2,b2⟩:=PS.EW h1 hs 1 a1;obtain⟨h3,b3⟩:=PS.EW h2 hs 2 a2;obtain⟨h4,b4⟩:=PS.EW h3 hs 3 a3;exact⟨h4,((b1.trans b2).trans b3).trans b4⟩
theorem PS.fs{L':List Nd}{ps' zs':List Int}{ks':List (List Nat)}(h:PS w B S X g L ps zs ks)(h':PS w' B S X g L' ps' zs' ks')(hb:Below B w w'){v:Value}{f:F}(hf:Fs w S v f):Fs w' S v f:=hf.keep (h.keep h' hb)
def pD(w:World)(g:Nat):Nat:=match w.cell? ⟨g,0,none⟩with
 |some (ς _ n _)=>n
 |_=>0
theorem PS.len(h:PS w B S X g L ps zs ks):pD w g=L.length:=by
 obtain⟨aN,cN,aP,cP,aS,cS,aK,cK,⟨q0,_⟩,_⟩:=h.rd;unfold pD;rw[q0]
end
section
variable {w W:World}{B:Nat}{S:Nat→Prop}{X:List QC}{g:Nat}{L:List Nd}{ps zs:List Int}{ks:List (List Nat)}
theorem PS.re{vN vP vS vK:Value}{us:List Value}{nps:List (Nd×Value)}{zs':List Int}{ks':List (List Nat)}(h:PS w B S X g L ps zs ks)(hL:nps.map (·.1)=L)(VX:∀p∈nps,Fs w S p.2 p.1.c)(KU:us.length=ks'.length)
 (hF:QH W B (PR g vN vP vS vK nps.length (nps.flatMap VC) ps.length (ps.map iv) zs'.length (zs'.map iv) us.length us us ks' X)) (hb:Below B w W):PS W B S X g L ps zs' ks':=by
 have hF':=hF;rw[Z4]at hF';obtain⟨R,h0⟩:=h.GD;have hk:=h.safe.keep h0 hF' hb;exact⟨⟨vN,vP,vS,vK,us,nps,hF,hL,fun p hp=>(VX p hp).keep hk,KU⟩,h.safe⟩
theorem PS.size{aS:Option Addr}{n cS:Nat}(h:PS w B S X g L ps zs ks)(q2:w.cell? ⟨g,2,none⟩=some (ς aS n cS)){t:Nat}(ht:t<zs.length)(z:Int):∃gS u,aS=some ⟨gS,0,none⟩∧w.cell? ⟨gS,t,none⟩=some (ι γ u)∧w.frozen? ⟨gS,t,none⟩=false∧
 PS (w.setCell ⟨gS,t,none⟩ (ι γ z)) B S X g L ps (zs.set t z) ks∧Below B w (w.setCell ⟨gS,t,none⟩ (ι γ z)):=by
 obtain⟨vN,vP,vS,vK,us,nps,hF,hL,VX,KU⟩:=h.all;obtain⟨⟨p0,p1,p2,p3⟩,_⟩:=Zr hF (j:=0) rfl;obtain rfl:=Option.some.inj (p2.symm.trans q2);obtain⟨gS,c',e,_,_⟩:=hF.sliceAt (i:=3) rfl ω;injection e with e e2 _;subst e;subst e2;have hc:(zs.map iv)[t]?=some (ι γ (zs[t]'ht)):=by rw[List.getElem?_map,List.getElem?_eq_getElem ht];rfl
 have hst:=hF.store (i:=3) rfl t (ι γ z);refine⟨gS,_,rfl,hF.cell (i:=3) rfl hc,hF.JO (i:=3) rfl t,h.re (vN:=vN) (vP:=vP) (vS:=ς (some ⟨gS,0,none⟩) zs.length cS) (vK:=vK) (us:=us) hL VX KU ?_ hst.2,hst.2⟩;rw[List.length_set,List.map_set];exact hst.1
theorem PS.appended{vN vP vS vK v:Value}{us cN cP cS:List Value}{nps:List (Nd×Value)}{N nP nS nK t q:Nat}{l:List Nat}(h:PS w B S X g L ps zs ks)(hL:nps.map (·.1)=L)(VX:∀p∈nps,Fs w S p.2 p.1.c)(KU:us.length=ks.length)
 (hN:nps.length=N) (LF:nps.flatMap VC=cN) (LB:ps.length=nP) (LD:ps.map iv=cP) (Lc:zs.length=nS) (XE:zs.map iv=cS) (GM:us.length=nK) (ht:ks[t]?=some l)
 (hF:QH W B (((PR g vN vP vS vK N cN nP cP nS cS nK us us ks X).set (t+5) (Qb 3 1 v (l.length+1) (l.map nv++[ι γ (q:Int)]))).set 4 (Qb 32 1 vK nK (us.set t v)))) (hb:Below B w W):PS W B S X g L ps zs (ks.set t (l++[q])):=by
 have hlt:t<us.length:=by rw[KU];exact(List.getElem?_eq_some_iff.1 ht).1
 rw[Qx5 (l':=l++[q]) hlt KU ψ (by simp[nv])]at hF;subst hN;subst LF;subst LB;subst LD;subst Lc;subst XE;subst GM;refine h.re (vN:=vN) (vP:=vP) (vS:=vS) (vK:=vK) (us:=us.set t v) hL VX (by simp[KU]) ?_ hb;rw[List.length_set];exact hF
end
theorem Qzt{w:World}{B g:Nat}{vN vP vS vK:Value}{nN:Nat}{cN:List Value}{nP:Nat}{cP:List Value}{nS:Nat}{cS:List Value}{nK:Nat}{us vs:List Value}{ks:List (List Nat)}{X:List QC}{t:QC}(h:QH w B (PR g vN vP vS vK nN cN nP cP nS cS nK us vs ks X))(ht:t∈X):t.b=none∨t.b≠vN.ownBlock:=by
 obtain⟨j,hj⟩:=List.getElem?_of_mem ht;have hj':(PR g vN vP vS vK nN cN nP cP nS cS nK us vs ks X)[(PR g vN vP vS vK nN cN nP cP nS cS nK us vs ks []).length+j]?=some t:=by rw[Z4,List.getElem?_append_right ω,Nat.add_sub_cancel_left];exact hj
 exact h.ne hj' (j:=1) rfl (by have:5≤(PR g vN vP vS vK nN cN nP cP nS cS nK us vs ks []).length:=(by simp only[PR,List.length_cons];omega);omega)
abbrev TL(W W':World):Prop:=Below W.heap.size W W'
structure CI(w0:World)(Φ:List (Cd TL))(Fin:Value→World→Prop)(iC iS:Nat)(L:Nat→Bool)(x:Nat→Value)(W:World):Prop where
 QF:L iS=false→Below w0.heap.size w0 W
 kc:L iS=false→∀i,L i=true→(YA Φ i).p (x i) W
 fin:L iS=true→Fin (x iC) W
section
variable {w0 W W':World}{Φ:List (Cd TL)}{Fin:Value→World→Prop}{iC iS:Nat}{L:Nat→Bool}{x:Nat→Value}{v:Value}
theorem CI.start(w:World):CI w Φ Fin iC iS (fun _=>false) x w.drew:=⟨fun _=>⟨rfl,rfl,rfl,Nat.le_refl _,fun _ _=>rfl⟩,fun _ _ h=>(by cases h),fun h=>(by cases h)⟩
theorem CI.quiet(h:CI w0 Φ Fin iC iS L x W){i:Nat}(hS:L iS=false)(hi:iS≠i)(hb:Below W.heap.size W W')(hp:(YA Φ i).p v W'):CI w0 Φ Fin iC iS (Zh L i) (Qq x i v) W':=by
 refine⟨fun _=>(h.QF hS).trans (hb.mono (h.QF hS).size),fun _ j hj=>?_,fun a=>(by rw[Qr hi,hS]at a;cases a)⟩;by_cases e:j=i
 ·subst e;rw[Ks];exact hp
 ·rw[Zf e];rw[Qr e]at hj;exact(YA Φ j).mono _ _ _ hb (h.kc hS j hj)
theorem CI.store(h:CI w0 Φ Fin iC iS L x W)(hc:iC≠iS)(hf:Fin (x iC) W'):CI w0 Φ Fin iC iS (Zh L iS) (Qq x iS v) W' :=
 ⟨fun a=>(by rw[V8]at a;cases a),fun a=>(by rw[V8]at a;cases a),fun _=>by rw[Zf hc];exact hf⟩
end
def Qz5(h:Nat)(k:Int)(x y:ByteArray)(c:F):Cd TL:=⟨fun v W=>∃A n C,v = ξ #[ι γ k,σ x,σ y,ς A n C]∧Fs W (Ll h W) (ς A n C) c∧TF W (ς A n C),fun v W W' h hp=>by
 obtain⟨A,n,C,e,hr,ht⟩:=hp;exact⟨A,n,C,e,(hr.keep fun b hb=>h.block b hb.2).more (fun b hb=>⟨hb.1,VE hb.2 h.size⟩),ht.below h⟩⟩
theorem Gw:∀(nps:List (Nd×Value))(i:Nat)(k:Int)(x y:ByteArray)(c:F)(s u:Value),nps[i]?=some (⟨k,x,y,c⟩,s)→
 (((((nps.flatMap VC).set (i*4) (ι γ k)).set (i*4+1) (σ x)).set (i*4+2) (σ y)).set (i*4+3) u)=(nps.set i (⟨k,x,y,c⟩,u)).flatMap VC
 |[],i,k,x,y,c,s,u,h=>by simp at h
 |p::ps,0,k,x,y,c,s,u,h=>by
  simp only[List.getElem?_cons_zero,Option.some.injEq]at h;subst h;simp[VC]
 |p::ps,i+1,k,x,y,c,s,u,h=>by
  have ih:=Gw ps i k x y c s u (by simpa using h);simp only[ZA,List.flatMap_cons];rw[←ih,show(i+1)*4=i*4+4 by omega];simp[VC]
def Xc(zs:List Int)(i:Nat):Int:=(zs.take i).sum
theorem Qe9(zs:List Int):Xc zs 0=0:=by simp[Xc]
theorem Qfa{zs:List Int}{i:Nat}{z:Int}(h:zs[i]?=some z):Xc zs (i+1)=Xc zs i+z:=by
 unfold Xc;rw[List.take_add_one,h,List.sum_append];simp
theorem İ{zs:List Int}{m:Int}(h0:0≤m)(h:∀z∈zs,z≤m):∀i,i≤zs.length→Xc zs i≤(i:Int)*m
 |0,_=>by rw[Qe9];simp
 |i+1,hi=>by
  have e:=QN (show i<zs.length by omega);rw[Qfa e];have h1:=h _ (List.getElem_mem (show i<zs.length by omega));have h2:=İ h0 h i ω;rw[Int.natCast_add,Int.add_mul];omega
theorem fL(w:World)(k:Int)(x y:ByteArray)(s:Value){W:World}(hW:Below (w.alloc (θ #[ι γ k,σ x,σ y,s] 24)).heap.size (w.alloc (θ #[ι γ k,σ x,σ y,s] 24)) W) :
 W.cell? ⟨w.heap.size,0,none⟩=some (ι γ k)∧W.cell? ⟨w.heap.size,1,none⟩=some (σ x)∧W.cell? ⟨w.heap.size,2,none⟩=some (σ y)∧W.cell? ⟨w.heap.size,3,none⟩=some s:=by
 have h:W.heap[w.heap.size]?=_:=(hW.block w.heap.size ψ).trans (heap_alloc_new w _);refine⟨?_,?_,?_,?_⟩ <;> simp[World.cell?,h]
def Qt7(B:Nat)(X:List QC)(g:Nat)(L:List Nd)(ps zs:List Int)(ks:List (List Nat))(w:World)(e:Ending)(w':World):Prop :=
 e=ρ (.tuple #[])∧(∃(vN vP vS vK:Value)(us:List Value)(nps:List (Nd×Value)),QH w' B (PR g vN vP vS vK nps.length (nps.flatMap VC) ps.length (ps.map iv) zs.length (zs.map iv) us.length us us ks X)∧nps.map (·.1)=L∧
   (∀p∈nps,Fs w' (Ll w.heap.size w') p.2 p.1.c∧TF w' p.2)∧us.length=ks.length)∧Below B w w'
structure IQ(w0:World)(B:Nat)(S:Nat→Prop)(g gN ZO N:Nat)(vP vS vK:Value)(nP:Nat)(cP:List Value)(nS:Nat)(cS:List Value)(nK:Nat)(us:List Value)(ks:List (List Nat))(X:List QC)(SM:List (Nd×Value))(i:Nat)(nps:List (Nd×Value))(W:World):Prop where
 GD:QH W B (PR g (ς (some ⟨gN,0,none⟩) N ZO) vP vS vK N (nps.flatMap VC) nP cP nS cS nK us us ks X)
 fst:nps.map (·.1)=SM.map (·.1)
 done:∀q p,q<i→nps[q]?=some p→Fs W (Ll w0.heap.size W) p.2 p.1.c∧TF W p.2
 todo:∀q,i≤q→nps[q]?=SM[q]?
 grown:w0.grownBy W (some gN)
section
variable {w0 W W':World}{B:Nat}{S:Nat→Prop}{g gN ZO N:Nat}{vP vS vK:Value}{nP:Nat}{cP:List Value}{nS:Nat}{cS:List Value}{nK:Nat}{us:List Value}{ks:List (List Nat)}{X:List QC}{SM nps:List (Nd×Value)}{i:Nat}
theorem IQ.later(h:IQ w0 B S g gN ZO N vP vS vK nP cP nS cS nK us ks X SM i nps W)(hb:Below W.heap.size W W'):IQ w0 B S g gN ZO N vP vS vK nP cP nS cS nK us ks X SM i nps W' :=
 ⟨h.GD.later hb,h.fst,fun q p hq hp=>⟨((h.done q p hq hp).1.keep fun b hb'=>hb.block b hb'.2).more (fun b hb'=>⟨hb'.1,VE hb'.2 hb.size⟩),(h.done q p hq hp).2.below hb⟩,h.todo,
  ⟨hb.os.trans h.grown.os,hb.tape.trans h.grown.tape,hb.output.trans h.grown.output,QW h.grown.size hb.size,fun k hk hne=>(hb.block k (VE hk h.grown.size)).trans (h.grown.block k hk hne)⟩⟩
theorem IQ.put(h:IQ w0 B S g gN ZO N vP vS vK nP cP nS cS nK us ks X SM i nps W)(hg:gN<w0.heap.size){k:Int}{x y:ByteArray}{c:F}{s u:Value}(hi:nps[i]?=some (⟨k,x,y,c⟩,s))(hf:Fs W (Ll w0.heap.size W) u c)(ht:TF W u) :
 IQ w0 B S g gN ZO N vP vS vK nP cP nS cS nK us ks X SM (i+1) (nps.set i (⟨k,x,y,c⟩,u)) ((((W.setCell ⟨gN,i*4,none⟩ (ι γ k)).setCell ⟨gN,i*4+1,none⟩ (σ x)).setCell ⟨gN,i*4+2,none⟩ (σ y)).setCell ⟨gN,i*4+3,none⟩ u):=by
 have hst:=QH.MP (i:=1) h.GD rfl (i*4) (ι γ k) (σ x) (σ y) u;rw[Gw nps i k x y c s u hi]at hst
 have hk:∀b,b≠gN→((((W.setCell ⟨gN,i*4,none⟩ (ι γ k)).setCell ⟨gN,i*4+1,none⟩ (σ x)).setCell ⟨gN,i*4+2,none⟩ (σ y)).setCell ⟨gN,i*4+3,none⟩ u).heap[b]? = W.heap[b]? := fun b hb=>by
  rw[Below.heap_setCell _ _ _ _ hb,Below.heap_setCell _ _ _ _ hb,Below.heap_setCell _ _ _ _ hb,Below.heap_setCell _ _ _ _ hb]
 have htf:∀v,TF W v→TF ((((W.setCell ⟨gN,i*4,none⟩ (ι γ k)).setCell ⟨gN,i*4+1,none⟩ (σ x)).setCell ⟨gN,i*4+2,none⟩ (σ y)).setCell ⟨gN,i*4+3,none⟩ u) v:=fun v hv=>(((hv.set _ _ _).set _ _ _).set _ _ _).set _ _ _
 have hsz:W.heap.size≤((((W.setCell ⟨gN,i*4,none⟩ (ι γ k)).setCell ⟨gN,i*4+1,none⟩ (σ x)).setCell ⟨gN,i*4+2,none⟩ (σ y)).setCell ⟨gN,i*4+3,none⟩ u).heap.size:=ψ
 have hos:((((W.setCell ⟨gN,i*4,none⟩ (ι γ k)).setCell ⟨gN,i*4+1,none⟩ (σ x)).setCell ⟨gN,i*4+2,none⟩ (σ y)).setCell ⟨gN,i*4+3,none⟩ u).os=W.os∧((((W.setCell ⟨gN,i*4,none⟩ (ι γ k)).setCell ⟨gN,i*4+1,none⟩ (σ x)).setCell ⟨gN,i*4+2,none⟩ (σ y)).setCell ⟨gN,i*4+3,none⟩ u).tape=W.tape∧((((W.setCell ⟨gN,i*4,none⟩ (ι γ k)).setCell ⟨gN,i*4+1,none⟩ (σ x)).setCell ⟨gN,i*4+2,none⟩ (σ y)).setCell ⟨gN,i*4+3,none⟩ u).output=W.output:=⟨rfl,rfl,rfl⟩;generalize(((W.setCell ⟨gN,i*4,none⟩ (ι γ k)).setCell ⟨gN,i*4+1,none⟩ (σ x)).setCell ⟨gN,i*4+2,none⟩ (σ y)).setCell ⟨gN,i*4+3,none⟩ u=W4 at *;have fix:∀{v:Value}{c:F},Fs W (Ll w0.heap.size W) v c∧TF W v→Fs W4 (Ll w0.heap.size W4) v c∧TF W4 v:=fun hv =>
  ⟨(hv.1.keep fun b hb=>hk b (fun e=>by have:=hb.1;omega)).more (fun b hb=>⟨hb.1,VE hb.2 hsz⟩),htf _ hv.2⟩
 refine⟨hst.1,?_,fun q p hq hp=>?_,fun q hq=>?_,⟨hos.1.trans h.grown.os,hos.2.1.trans h.grown.tape,hos.2.2.trans h.grown.output,QW h.grown.size hsz,fun b hb hne=>?_⟩⟩
 ·rw[List.map_set];have e:(nps.map (·.1))[i]?=some (⟨k,x,y,c⟩:Nd):=by rw[VP,hi];rfl
  obtain⟨h1,h2⟩:=List.getElem?_eq_some_iff.1 e;rw[←h.fst];show(nps.map (·.1)).set i (⟨k,x,y,c⟩:Nd)=_;rw[←h2,List.set_getElem_self]
 ·rw[List.getElem?_set]at hp;by_cases e:i=q
  ·rw[if_pos e,if_pos (by have:=(List.getElem?_eq_some_iff.1 hi).1;omega)]at hp;injection hp with hp;subst hp;exact fix ⟨hf,ht⟩
  ·rw[if_neg e]at hp;exact fix (h.done q p ω hp)
 ·rw[List.getElem?_set_ne ω];exact h.todo q ω
 ·exact(hk b (fun e=>hne (by rw[e]))).trans (h.grown.block b hb hne)
end
theorem Qr4(w:World)(B:Nat)(S:Nat→Prop)(X:List QC)(g:Nat)(L:List Nd)(ps zs:List Int)(ks:List (List Nat))(h:PS w B S X g L ps zs ks)(hz:∀z∈zs,0≤z∧z≤45001)(kC:∀i,Xc zs i≤4194304)(hl:zs.length≤45001)(gv:1≤L.length)(hL2:L.length≤45001)(hn:∀nd∈L,nd.c.size≤45001)(hS:∀b,S b→b<w.heap.size) :
 Calls Tryz.prog 57 #[π (some ⟨g,0,none⟩)] w (Qt7 B X g L ps zs ks w):=by
 obtain⟨vN,vP,vS,vK,us,nps,hF,hL,VX,KU⟩:=h.all;have hnl:nps.length=L.length:=by rw[←hL,VD]
 obtain⟨gN,ZO,rfl,_,_⟩:=hF.sliceAt (i:=1) rfl ω;obtain⟨aS,G',rfl,_,_⟩:=hF.slice (i:=3) rfl;have hgN:gN<w.heap.size:=(hF.lt (k:=gN) (JK (i:=1) rfl) rfl).2
 have É:∀b,S b→b<w.heap.size∧b≠gN:=fun b hb=>⟨hS b hb,fun e=>by
  have Mg:B≤gN:=(hF.lt (k:=gN) (JK (i:=1) rfl) rfl).1;rcases h.safe b hb with q|⟨ob,ho⟩
  ·omega
  ·rcases Qzt hF ho with h' |h'
   ·cases h'
   ·exact h' (by rw[e];rfl)⟩
 obtain⟨N,hN⟩:=Mem.QD (nps.length);obtain⟨cN,LF⟩:=Mem.QD (nps.flatMap VC);obtain⟨nP,LB⟩:=Mem.QD (ps.length);obtain⟨nS,Lc⟩:=Mem.QD (zs.length);obtain⟨nK,GM⟩:=Mem.QD (us.length);obtain⟨cP,LD⟩:=Mem.QD (ps.map iv);obtain⟨cS,XE⟩:=Mem.QD (zs.map iv);rw[hN,LB,Lc,GM,LD,XE]at hF;rw[Lc]at hl;obtain⟨⟨q0,q1,q2,q3⟩,z0,z1,z2,z3⟩:=Zr hF (j:=0) rfl;have Mg:B≤gN:=(hF.lt (k:=gN) (JK (i:=1) rfl) rfl).1;have HF:=QA hF;have TS:=QA É;have QP:=QA VX;have vQ:=QA KU;have HL:=QA hL;have TU:=QA hnl;have aU:=QA LB;have rZ:=QA Lc;have aW:=QA GM;have Ac:=QA LD;have BL:=QA XE;have HN:=QA hN;have FP:1≤N:=ω
 have hN2:N≤45001:=ω
 have HZ:=QA hz;have aR:Hid (∀nd∈L,nd.c.size≤45001):=hn;have Tq:Hid (∀i,Xc zs i≤4194304):=kC;have MJ:=QA hgN;have Rv:=QA Mg;clear h hz kC gv hL2 hn hS hF hL VX KU hnl hgN É hN LF LB Lc GM LD XE Mg;go_enter Tryz.func57,Tryz.ntmps57;go_wp2
 go_loopw [2,12] (fun s2 YU wr=>∃(i:Nat)(all:Int),i≤nS∧0≤all∧all≤Xc zs i∧s2=ι γ all∧YU=ι γ (i:Int)∧wr=w) (fun _ s _=>nS-(intOf s).toNat)
 case atStart=>exact⟨0,0,ZR _,Int.le_refl _,by rw[Qe9];exact Int.le_refl _,rfl,rfl,rfl⟩
 case round =>
  obtain⟨i,all,hi,ha0,ha1,rfl,rfl,rfl⟩:=hrel;by_cases hlt:i<nS
  ·have hlt':(i:Int)<(nS:Int):=ω
   have hi0:(0:Int)≤(i:Int):=ω
   obtain⟨gS,cs',e,_,_⟩:=HF.out.sliceAt (i:=3) rfl ω;injection e with e _ _;subst e;have Oe:i<zs.length:=by rw[rZ.out];exact hlt
   obtain⟨z,eY⟩:=Mem.QD (zs[i]'(Oe));have hzz:=HZ.out z (by rw[←eY];exact List.getElem_mem Oe);have hc:=HF.out.cell (i:=3) rfl (j:=i) (u:=ι γ z) (by rw[←BL.out,VP,QN Oe,eY];rfl);obtain⟨hz1,hz2⟩:=hzz;have hlm:=Qfa (zs:=zs) (i:=i) (z:=z) (by rw[QN Oe,eY]);have mS:=Tq.out i;have XW:=QA hlt;have Bc:Hid (all+z≤Xc zs (i+1)):=by show _≤_;omega
   have ha5:all≤4194304:=ω
   clear eY Oe hlm mS ha1 hlt;go_wp2
   go_roundw
   case rel=>exact⟨i+1,all+z,by have:=XW.out;omega,ω,Bc.out,rfl,by go_num,trivial⟩
   case measure=>have:=XW.out;simp[intOf];omega
  ·have hlt':¬(i:Int)<(nS:Int):=ω
   have mS:=Tq.out i;have hgt:¬(4194304:Int)<all:=ω
   clear mS ha1 hlt;go_wp2;obtain⟨w0,rfl⟩:∃w0,w0=wr:=⟨_,rfl⟩;have zw:Hid (IQ w0 B S g gN ZO N vP (ς aS nS G') vK nP cP nS cS nK us ks X nps 0 nps w0):=⟨HF.out,rfl,fun q _ hq=>absurd hq (Nat.not_lt_zero q),fun _ _=>rfl,World.grownBy.refl w0 _⟩;clear q0 q1 q2 q3 z0 z1 z2 z3
   go_loopw [27] (fun s27 wr=>∃(i:Nat)(Az:List (Nd×Value)),i≤N∧s27=ι γ (i:Int)∧Hid (IQ w0 B S g gN ZO N vP (ς aS nS G') vK nP cP nS cS nK us ks X nps i Az wr)) (fun s _=>N-(intOf s).toNat)
   case atStart=>exact⟨0,nps,ZR _,rfl,zw.out⟩
   case round =>
    clear zw;obtain⟨i,Az,hi,rfl,HC⟩:=hrel;by_cases hlt:i<N
    ·have hlt':(i:Int)<(N:Int):=ω
     have hi0:(0:Int)≤(i:Int):=ω
     have TJ:i<nps.length:=by rw[HN.out];exact hlt
     obtain⟨⟨⟨k,x,y,c⟩,s⟩,hp⟩:∃p,nps[i]?=some p:=⟨_,QN TJ⟩;have hpi:=(HC.out.todo i (Nat.le_refl _)).trans hp;have hfi:Fs w0 S s c:=QP.out _ (JK hp);obtain⟨As,Cs,rfl,_,_⟩:=hfi.slice;obtain⟨ln,YO⟩:=Mem.QD (c.len);rw[YO]at hpi hfi;obtain⟨v0,v1,v2,v3⟩:=yJ (j:=1) (nps:=Az) HC.out.GD rfl hpi;have hc1:c.size≤45001:=aR.out ⟨k,x,y,c⟩ (by rw[←HL.out];exact List.mem_map.2 ⟨_,JK hp,rfl⟩);have HFW:Hid (Fs wr S (ς As ln Cs) c):=hfi.keep fun b hb=>HC.out.grown.block b (TS.out b hb).1 (fun e=>(TS.out b hb).2 (Option.some.inj e))
     have wD:Hid (∀b,S b→b<wr.heap.size):=fun b hb=>VE (TS.out b hb).1 HC.out.grown.size
     have JF:=Qz wr (θ #[ι γ k,σ x,σ y,ς As ln Cs] 24);have jo:=QA (HC.out.later JF);have KB:=QA JF;have zJ:Hid (∀W,Below (wr.alloc (θ #[ι γ k,σ x,σ y,ς As ln Cs] 24)).heap.size (wr.alloc (θ #[ι γ k,σ x,σ y,ς As ln Cs] 24)) W→W.cell? ⟨wr.heap.size,0,none⟩=some (ι γ k)∧W.cell? ⟨wr.heap.size,1,none⟩=some (σ x)∧W.cell? ⟨wr.heap.size,2,none⟩=some (σ y)∧W.cell? ⟨wr.heap.size,3,none⟩=some (ς As ln Cs)):=fun W hW=>fL wr k x y _ hW
     have L5:=QA hpi;have XW:=QA hlt;have HC5:=QA hc1;clear hp hpi hfi YO TJ JF hlt;go_wp2;clear v0 v1 v2 v3;obtain⟨gb,hgb⟩:=Mem.QD (wr.heap.size);have Q3k:=QA hgb;rw[hgb]at zJ;obtain⟨w1,hw1⟩:=Mem.QD (wr.alloc (θ #[ι γ k,σ x,σ y,ς As ln Cs] 24));rw[hw1]at jo KB zJ;try rw[hw1]
     try rw[hgb]
     clear hw1 hgb;refine Z3 (CI w1 [Cd.is (π (some ⟨g,0,none⟩)),Cd.is (π (some ⟨g,0,none⟩)),Cd.is (π (some ⟨g,0,none⟩)),Cd.is (ς (some ⟨gN,0,none⟩) N ZO),Cd.is (ι γ (i:Int)),Cd.is (ξ #[ι γ k,σ x,σ y,ς As ln Cs]),Qz5 w0.heap.size k x y c,Cd.is (π (some ⟨gN,i*4,none⟩))] (fun v W=>∃u,IQ w0 B S g gN ZO N vP (ς aS nS G') vK nP cP nS cS nK us ks X nps (i+1) (Az.set i (⟨k,x,y,c⟩,u)) W) 6 8) χ δ χ (fun _=>CI.start _) ?steps ?done
     case steps =>
      intro L xv W hI hcl a ha;simp only[Qi]at ha;simp only[ZC,ZA,QZ,Nat.zero_add,Nat.reduceAdd]at ha;subst ha;refine⟨?s0,?s1,?s2,?s3,?s4,?s5,?s6,?s7,?s8,trivial⟩;all_goals intro hL hd K hK
      all_goals(try simp only[Act.put,ZC,ZA,QZ]at hK)
      case s0=>have hS:=Qh (i:=0) (r:=8) hcl hL χ;have hB:=hI.QF hS;clear hd;exact c28
      case s1=>have hS:=Qh (i:=1) (r:=8) hcl hL χ;have hB:=hI.QF hS;have hx0:xv 0=π (some ⟨g,0,none⟩):=hI.kc hS 0 (hd 0 χ);clear hd;rw[hx0]at hK⊢;exact c28
      case s2=>have hS:=Qh (i:=2) (r:=8) hcl hL χ;have hB:=hI.QF hS;have hx1:xv 1=π (some ⟨g,0,none⟩):=hI.kc hS 1 (hd 1 χ);clear hd;rw[hx1]at hK⊢;exact c28
      case s3=>have hS:=Qh (i:=3) (r:=8) hcl hL χ;have hB:=hI.QF hS;have hx2:xv 2=π (some ⟨g,0,none⟩):=hI.kc hS 2 (hd 2 χ);have hC:=jo.out.later hB;obtain⟨⟨q0,q1,q2,q3⟩,z0,z1,z2,z3⟩:=Zr hC.GD (j:=0) rfl;clear hC;clear hd;rw[hx2]at hK⊢;exact c28
      case s4=>have hS:=Qh (i:=4) (r:=8) hcl hL χ;have hB:=hI.QF hS;clear hd;exact c28
      case s5=>have hS:=Qh (i:=5) (r:=8) hcl hL χ;have hB:=hI.QF hS;obtain⟨m0,m1,m2,m3⟩:=zJ.out W hB;clear hd;exact c28
      case s6 =>
       have hS:=Qh (i:=6) (r:=8) hcl hL χ;have hB:=hI.QF hS;have JB:xv 5=ξ #[ι γ k,σ x,σ y,ς As ln Cs]:=hI.kc hS 5 (hd 5 χ);have hW0:wr.heap.size≤W.heap.size:=QW KB.out.size hB.size;have hfw:Fs W (Lo W.heap.size) (ς As ln Cs) c:=(HFW.out.keep fun b hb=>((hB.mono KB.out.size).block b (wD.out b hb)).trans (KB.out.block b (wD.out b hb))).more fun b hb=>VE (wD.out b hb) hW0
       have Ac:=Ei c.size k x y As ln Cs c W (Nat.le_refl _) (by have:=HC5.out;omega) hfw;have hw0:w0.heap.size≤W.heap.size:=QW HC.out.grown.size hW0;clear hd;rw[JB]at hK⊢;refine(if_pos (by rfl)).mpr ?_;go_simp;go_at_call 56;refine Ac.mono ?_;rintro e W' ⟨hb,Ar,nr,Cr,rfl,XM,htr⟩;exact hK.out _ _ (hI.quiet hS δ hb ⟨Ar,nr,Cr,rfl,XM.more (fun b hb'=>⟨QW hw0 hb'.1,hb'.2⟩),htr⟩)
      case s7 =>
       have hS:=Qh (i:=7) (r:=8) hcl hL χ;have hB:=hI.QF hS;have hx3:xv 3=ς (some ⟨gN,0,none⟩) N ZO:=hI.kc hS 3 (hd 3 χ);have JJ:xv 4=ι γ (i:Int):=hI.kc hS 4 (hd 4 χ);have FA:(i:Int)<(N:Int):=by have:=XW.out;omega
       clear hd;rw[hx3]at hK⊢;rw[JJ]at hK⊢;exact c28
      case s8 =>
       have hS:=hL;have hB:=hI.QF hS;have YX:xv 7=π (some ⟨gN,i*4,none⟩):=hI.kc hS 7 (hd 7 χ);obtain⟨A6,n6,C6,JR,Sy,Sv⟩:∃A n C,xv 6=ξ #[ι γ k,σ x,σ y,ς A n C]∧Fs W (Ll w0.heap.size W) (ς A n C) c∧TF W (ς A n C):=hI.kc hS 6 (hd 6 χ);have hC:=jo.out.later hB;obtain⟨v0,v1,v2,v3⟩:=yJ (j:=1) (nps:=Az) hC.GD rfl L5.out;have hz:=fun q=>hC.GD.JO (i:=1) rfl (i*4+q)
       obtain⟨z0,z1,z2,z3⟩:=(⟨hz 0,hz 1,hz 2,hz 3⟩:_∧_∧_∧_);simp only[Nat.add_zero]at z0;have hput:=hC.put MJ.out L5.out Sy Sv;clear hd;rw[YX]at hK⊢;rw[JR]at hK⊢;refine(if_pos (by rfl)).mpr ?_;go_simp;exact hK.out undef _ (hI.store δ ⟨_,hput⟩)
     case done =>
      intro Lq xv W hI hall a ha;obtain⟨u,hC⟩:=hI.fin (hall 8 δ);simp only[Qi]at ha;simp only[ZC,ZA,QZ,Nat.zero_add,Nat.reduceAdd]at ha;subst ha;have UO:=QA hC;clear hI hall hC HC jo;go_wp2
      go_roundw
      case rel=>exact⟨i+1,_,by have:=XW.out;omega,by go_num,UO.out⟩
      case measure=>have:=XW.out;simp[intOf];omega
    ·obtain rfl:N=i:=ω
     have hlt':¬(N:Int)<(N:Int):=ω
     clear hlt;go_wp2
     go_end0
     have hC:=HC.out;have hl:Az.length=N:=by have:=congrArg List.length hC.fst;rwa[VD,VD,HN.out]at this
     refine⟨rfl,⟨ς (some ⟨gN,0,none⟩) N ZO,vP,ς aS nS G',vK,us,Az,?_,hC.fst.trans HL.out,fun p hp=>?_,vQ.out⟩,?_⟩
     ·have:=hC.GD;rw[hl,aU.out,rZ.out,aW.out,Ac.out,BL.out];exact this
     ·obtain⟨q,hq⟩:=List.getElem?_of_mem hp;exact hC.done q p (by have:=(List.getElem?_eq_some_iff.1 hq).1;omega) hq
     ·exact⟨hC.grown.os,hC.grown.tape,hC.grown.output,hC.grown.size,fun b hb=>hC.grown.block b (by have:=Rv.out;have:=MJ.out;omega) (fun e=>by have:=Option.some.inj e;have:=Rv.out;omega)⟩
