import Derived.Test.YtmepekognmlblaaGreatDoorG21
import Derived.StillTailTactics
import Derived.RegionTactic
import Derived.Deep.Draws
set_option maxHeartbeats 4000000
set_option maxRecDepth 100000
set_option linter.unusedVariables false
open Go.RowKit Go.ChangeShapes Go.WideShapes Go.ChangeAt
open Go.Lib renaming hid→QA
open _root_.List renaming getElem?_eq_getElem→QN
open _root_.Nat renaming zero_add→ZL
open Go.Value renaming int→ι,slice→ς
open Go.IntKind renaming i64→γ
open Go.Obj renaming cells→θ
open Go.Ending renaming returned→ρ
namespace Go.Proofs.YtmepekognmlblaaGreatDoor
namespace Mem
section
variable {P:Program}{Q:Exit→Act→World→Prop}
theorem Ea{l:List Oper}{Inv:(Nat→Bool)→(Nat→Value)→World→Prop}{L:Nat→Bool}{x:Nat→Value}{a:Act}{W:World}(hcl:∀k j,L k=true→Eh l k j=true→L j=true) :
 ∀(os:List Oper)(i:Nat),(∀j,os[j]?=l[i+j]?)→X9 P l Q Inv L x a W i os→X9 P l Q (fun L x W=>Inv L x W∧∀k j,L k=true→Eh l k j=true→L j=true) L x a W i os
 |[],_,_,_=>trivial
 |o::os,i,ho,⟨h1,h2⟩=>by
  refine⟨fun hi hd K hK=>h1 hi hd K (show Shut _ from fun v W' hv=>hK.out v W' ⟨hv,fun k j hk hw=>?_⟩),Ea hcl os (i+1) (fun j=>by have:=ho (j+1);simpa[Nat.add_assoc,Nat.add_comm 1 j]using this) h2⟩;unfold Zh at hk⊢;by_cases zU:k=i
  ·subst zU;have h0:=ho 0;simp only[List.getElem?_cons_zero,Nat.add_zero]at h0;have:L j=true:=hd j (by unfold Eh at hw;rw[←h0]at hw;simpa using hw);split
   ·rfl
   ·exact this
  ·rw[if_neg zU]at hk;split
   ·rfl
   ·exact hcl k j hk hw
theorem Z3{id:Nat}{l:List Oper}{a0:Act}{w:World}(Inv:(Nat→Bool)→(Nat→Value)→World→Prop)(hm:P.follows .mixedOrders=true)(hn:(Xs l).Nodup)(he:Z2 l=true)
 (h0:∀x,Inv (fun _=>false) x w.drew)
 (hsteps:∀L x W,Inv L x W→(∀k j,L k=true→Eh l k j=true→L j=true)→∀a,a=(⟨Qi x 0 l a0.tmps,a0.defers⟩:Act)→X9 P l Q Inv L x a W 0 l)
 (hdone:∀L x W,Inv L x W→(∀i,i<l.length→L i=true)→∀a,a=(⟨Qi x 0 l a0.tmps,a0.defers⟩:Act)→Q .normal a W) :
 (Code.region id l.toArray true).wp P Q a0 w :=
 Qkv (fun L x W=>Inv L x W∧∀k j,L k=true→Eh l k j=true→L j=true) hm hn he ⟨h0 _,fun _ _ h=>by cases h⟩
  (fun L x W hI a ha=>Ea hI.2 l 0 (fun j=>by rw[Nat.zero_add]) (hsteps L x W hI.1 hI.2 a ha)) fun L x W hI hall a ha=>hdone L x W hI.1 hall a ha
theorem Qh{l:List Oper}{dn:Nat→Bool}{i r:Nat}(hcl:∀k j,dn k=true→Eh l k j=true→dn j=true)(hd:dn i=false)(hw:Eh l r i=true):dn r=false:=by
 cases h:dn r with
 |false=>rfl
 |true=>rw[hcl r i h hw]at hd;cases hd
theorem Qr{L:Nat→Bool}{i j:Nat}(h:j≠i):Zh L i j=L j:=by unfold Zh;rw[if_neg h]
theorem Zf{x:Nat→Value}{v:Value}{i j:Nat}(h:j≠i):Qq x i v j=x j:=by unfold Qq;rw[if_neg h]
theorem V8{L:Nat→Bool}{i:Nat}:Zh L i i=true:=by unfold Zh;rw[if_pos rfl]
theorem Ks{x:Nat→Value}{v:Value}{i:Nat}:Qq x i v i=v:=by unfold Qq;rw[if_pos rfl]
end
theorem Qz(w:World)(o:Obj):Below w.heap.size w (w.alloc o):=(Below.refl _ _).alloc (Nat.le_refl _) _
theorem Vk(w:World)(cs:List Value)(T:TypeId):∀(j:Nat)(u:Value),cs[j]? = some u→(w.alloc (θ cs.toArray T)).cell? ⟨w.heap.size,j,none⟩=some u:=fun j u h=>by
 rw[World.cell?_alloc_at _ _ _ _ rfl];simpa using h
structure AG(w0:World)(B:Nat)(C:Nat→Option Value)(iB iA iS:Nat)(R:List QC)(cs:List Value)(R1 R2:Value→List QC)(L:Nat→Bool)(x:Nat→Value)(W:World):Prop where
 QF:Below B w0 W
 kc:∀i v,C i=some v→L i=true→x i=v
 f0:L iA=false→QH W B R
 fb:L iB=true→L iA=false→∃g c,x iB=ς (some ⟨g,0,none⟩) 1 c∧∀j u,cs[j]?=some u→W.cell? ⟨g,j,none⟩=some u
 f1:L iA=true→L iS=false→QH W B (R1 (x iA))
 f2:L iS=true→QH W B (R2 (x iA))
 dS:L iS=true→L iA=true
section
variable {w0 W W':World}{B:Nat}{C:Nat→Option Value}{iB iA iS:Nat}{R:List QC}{cs:List Value}{R1 R2:Value→List QC}{L:Nat→Bool}{x:Nat→Value}{v:Value}
theorem AG.start(h:QH W B R):AG W B C iB iA iS R cs R1 R2 (fun _=>false) x W.drew :=
 ⟨⟨rfl,rfl,rfl,Nat.le_refl _,fun _ _=>rfl⟩,fun _ _ _ h=>(by cases h),fun _=>h.YH ⟨rfl,rfl,rfl,Nat.le_refl _,fun _ _ _=>rfl⟩,fun h=>(by cases h),fun h=>(by cases h),fun h=>(by cases h),fun h=>(by cases h)⟩
theorem AG.Cc(h:AG w0 B C iB iA iS R cs R1 R2 L x W){i:Nat}(hi:C i=none∨C i=some v):∀j u,C j=some u→Zh L i j=true→Qq x i v j=u:=fun j u hj hl=>by
 by_cases e:j=i
 ·subst e;rw[Ks];rcases hi with hi|hi
  ·rw[hi]at hj;cases hj
  ·exact Option.some.inj (hi.symm.trans hj)
 ·rw[Zf e];rw[Qr e]at hl;exact h.kc j u hj hl
theorem AG.quiet(h:AG w0 B C iB iA iS R cs R1 R2 L x W)(hW:B≤W.heap.size)(hb:Below W.heap.size W W'){i:Nat}(hi:C i=some v)(h1:iB≠i)(h2:iA≠i)(h3:iS≠i):AG w0 B C iB iA iS R cs R1 R2 (Zh L i) (Qq x i v) W':=by
 refine⟨h.QF.trans (hb.mono hW),h.Cc (.inr hi),?_,?_,?_,?_,?_⟩;all_goals simp only[Qr h1,Qr h2,Qr h3,Zf h1,Zf h2]
 ·exact fun a=>(h.f0 a).later hb
 ·exact c68
 ·exact fun a b=>(h.f1 a b).later hb
 ·exact fun a=>(h.f2 a).later hb
 ·exact h.dS
theorem AG.build(h:AG w0 B C iB iA iS R cs R1 R2 L x W)(hW:B≤W.heap.size)(hb:Below W.heap.size W W')(hC:C iB=none)(hA:iA≠iB)(hS:iS≠iB){g c:Nat}(hv:v=ς (some ⟨g,0,none⟩) 1 c)(hc:∀j u,cs[j]?=some u→W'.cell? ⟨g,j,none⟩=some u) :
 AG w0 B C iB iA iS R cs R1 R2 (Zh L iB) (Qq x iB v) W':=by
 refine⟨h.QF.trans (hb.mono hW),h.Cc (.inl hC),?_,fun _ _=>⟨g,c,by rw[Ks,hv],hc⟩,?_,?_,?_⟩;all_goals simp only[Qr hA,Qr hS,Zf hA]
 ·exact fun a=>(h.f0 a).later hb
 ·exact fun a b=>(h.f1 a b).later hb
 ·exact fun a=>(h.f2 a).later hb
 ·exact h.dS
theorem AG.app(h:AG w0 B C iB iA iS R cs R1 R2 L x W)(hC:C iA=none)(hS:iS≠iA)(hL:L iA=false)(hb:Below B W W')(hf:QH W' B (R1 v)):AG w0 B C iB iA iS R cs R1 R2 (Zh L iA) (Qq x iA v) W':=by
 have s0:L iS=false:=by cases e:L iS with|false=>rfl|true=>rw[h.dS e]at hL;cases hL
 refine⟨h.QF.trans hb,h.Cc (.inl hC),fun a=>(by rw[V8]at a;cases a),fun _ a=>(by rw[V8]at a;cases a),fun _ _=>by rw[Ks];exact hf,?_,?_⟩;all_goals simp only[Qr hS,s0]
 all_goals intro q;cases q
theorem AG.store(h:AG w0 B C iB iA iS R cs R1 R2 L x W)(hC:C iS=none)(hA:iA≠iS)(hL:L iA=true)(hb:Below B W W')(hf:QH W' B (R2 (x iA))):AG w0 B C iB iA iS R cs R1 R2 (Zh L iS) (Qq x iS v) W':=by
 refine⟨h.QF.trans hb,h.Cc (.inl hC),fun a=>?_,fun _ a=>?_,fun _ a=>(by rw[V8]at a;cases a),fun _=>by rw[Zf hA];exact hf,fun _=>by rw[Qr hA];exact hL⟩;all_goals rw[Qr hA,hL]at a;cases a
end
theorem K7{P:Program}{T E:TypeId}{i0:TypeInfo}{z:Value}{Hd:Nat}{ops:Array Oper}{rest:List Oper}{o:Oper}{a:Act}{Q:Exit→Act→World→Prop}{W:World}{B:Nat}{R:List QC}{i n:Nat}{v u:Value}{xs:List Value}(h:QH W B R)(hi:R[i]?=some (Qb E 1 v n xs))(hgd:o.guard=none)(s x:Operand)
 (ho:o.op=.call { callee:=.builtin .append,args:=#[s,x],argTypes:=#[T,T] }) (hT:P.underlying T=some (.slice E)) (hi0:P.info? E=some i0) (hz0:i0.zero=some z) (hz1:i0.size=1) (hz2:i0.bytes=Hd) (Np:z.cells.size=1) (hby:Hd≤1000)
 (hs:a.eval s=v) (g c:Nat) (hg:g=W.heap.size) (hx:a.eval x=ς (some ⟨g,0,none⟩) 1 c) (h1:u.oneCell'=true) (hn:n≤10000000)
 (k:∀v' w',QH w' B (R.set i (Qb E 1 v' (n+1) (xs++[u])))→Below B W w'→wpList P ops Q rest (a.put o.dst v') w'):wpList P ops Q (o::rest) a (W.alloc (θ #[u] E)):=by
 subst hg;have hb:=Qz W (θ #[u] E);obtain⟨v',w',hr,hf,hb',_,_⟩:=(h.later hb).VT (P:=P) (T:=T) (g:=W.heap.size) (c:=c) (cs:=[u]) hi o.type hT hi0 hz0 hz1 hz2 Np δ hby rfl (Vk W [u] E) (fun q hq=>by rw[List.mem_singleton.1 hq];exact h1) hn;exact Y8 hgd s x ho hs hx hr (k v' w' hf ((hb.mono h.B).trans hb'))
end Mem
namespace Match
open Mem Tree
def ZY(W:World)(g:Nat)(e:TypeId)(xs:List Value):Prop:=W.heap[g]?=some (θ xs.toArray e (0,0))
section
variable {W W':World}{g:Nat}{e:TypeId}{xs:List Value}
theorem ZY.lt(h:ZY W g e xs):g<W.heap.size:=(Array.getElem?_eq_some_iff.1 h).1
theorem ZY.at_(h:ZY W g e xs){i:Nat}{v:Value}(hi:xs[i]?=some v):W.cell? ⟨g,i,none⟩=some v:=by
 have h:W.heap[g]?=some (θ xs.toArray e (0,0)):=h;simp[World.cell?,h,hi]
theorem ZY.free(h:ZY W g e xs)(i:Nat):W.frozen? ⟨g,i,none⟩=false:=by
 have h:W.heap[g]?=some (θ xs.toArray e (0,0)):=h;simp[World.frozen?,h]
theorem ZY.set(h:ZY W g e xs){i:Nat}(hi:i<xs.length)(v:Value):ZY (W.setCell ⟨g,i,none⟩ v) g e (xs.set i v):=by
 have:=Z8 (w:=W) h i v;show(W.setCell ⟨g,i,none⟩ v).heap[g]?=_;rw[this,List.setIfInBounds_toArray]
theorem ZY.keep(h:ZY W g e xs)(hb:Below W.heap.size W W'):ZY W' g e xs:=(hb.block g h.lt).trans h
theorem ZY.drew(h:ZY W g e xs):ZY W.drew g e xs:=h
end
def iV(l:List Int):List Value:=l.map fun(v:Int)=>ι γ v
theorem Xh(l:List Int):(iV l).length=l.length:=by simp[iV]
theorem bJ{l:List Int}{i:Nat}{v:Int}(h:l[i]?=some v):(iV l)[i]?=some (ι γ v):=by simp[iV,h]
theorem bT(l:List Int)(i:Nat)(v:Int):(iV l).set i (ι γ v)=iV (l.set i v):=by unfold iV;rw[List.map_set]
theorem Zq:(Tryz.prog.info? 3).map (fun i=>(i.zero,i.size,i.bytes))=some (some (ι γ 0),1,8):=χ
theorem Jg(n:Nat)(hn:n≤1000000)(w:World):(Instr.makeSlice 32 (ι γ (n:Int)) (ι γ (n:Int))).run Tryz.prog w=.ok (ς (some ⟨w.heap.size,0,none⟩) n n) (w.alloc (θ (iV (List.replicate n 0)).toArray 3)):=by
 obtain⟨i0,hi0,hz0,hz1,hz2⟩:=info_parts Zq;have h:=run_make (P:=Tryz.prog) w 32 3 i0 (ι γ 0) Tryz.underlying32 hi0 hz0 γ γ n n ω (Int.le_refl _) (by rw[hz2];omega) ω;rw[h];simp only[Int.toNat_natCast]
 congr 2
 have:madeCells (ι γ 0).cells (n*i0.size)=(iV (List.replicate n 0)).toArray:=by rw[hz1,Nat.mul_one];apply Array.toList_inj.1;have:=toList_madeCells_one (ι γ 0) n;simp only[Value.cells];rw[this];simp[iV]
 rw[this]
def Yp(n i:Nat):List Int:=List.replicate i (-1)++List.replicate (n-i) 0
theorem Qf2{n i:Nat}(h:i≤n):(Yp n i).length=n:=by simp[Yp];omega
theorem Qpe{n i:Nat}(h:i<n):(Yp n i).set i (-1)=Yp n (i+1):=by
 unfold Yp;rw[List.set_append_right _ _ ψ];simp only[List.length_replicate,Nat.sub_self];obtain⟨m,hm⟩:∃m,n-i=m+1:=⟨n-i-1,ω⟩;rw[hm,show n-(i+1)=m by omega,List.replicate_succ,List.set_cons_zero,List.replicate_succ',List.append_assoc];rfl
theorem Qpf(n:Nat):Yp n n=List.replicate n (-1):=by simp[Yp]
theorem Qlx(n:Nat):Yp n 0=List.replicate n 0:=by simp[Yp]
theorem Qkd{n:Nat}{L:List P2}{j:Nat}{p:P2}(h:L[j]?=some p):(Yu n (L.take j)).set p.1.toNat p.2=Yu n (L.take (j+1)):=by
 unfold Yu;rw[List.take_add_one,h,List.foldl_append];rfl
theorem Zn{B:Nat}{w w':World}(h:Below B w w'){b:Nat}(hb:B≤b)(i:Nat)(v:Value):Below B w (w'.setCell ⟨b,i,none⟩ v):=h.setCell (p:=⟨b,i,none⟩) hb v
theorem Q8(w:World):Below w.heap.size w w.drew:=⟨rfl,rfl,rfl,Nat.le_refl _,fun _ _=>rfl⟩
theorem Qob(n:Nat)(A:Option Addr)(C:Nat)(L:List P2)(w:World)(hl:Qm w (Lo w.heap.size) (ς A L.length C) L)(hn:n≤100000)(hr:∀p∈L,0≤p.1∧p.1<(n:Int))(hL:L.length≤1000000) :
 Calls Tryz.prog 18 #[ι γ (n:Int),ς A L.length C] w fun e w'=>Below w.heap.size w w'∧∃g,w.heap.size≤g∧e=ρ (ς (some ⟨g,0,none⟩) n n)∧ZY w' g 3 (iV (Yu n L)):=by
 have hmk:=Jg n ω w;have b1:=Qz w (θ (iV (List.replicate n 0)).toArray 3);have Z':=QA b1;have HK:Hid (ZY (w.alloc (θ (iV (List.replicate n 0)).toArray 3)) w.heap.size 3 (iV (Yp n 0))):=by rw[Qlx];exact heap_alloc_new w _
 have HL:=QA hl;have HR:=QA hr;clear hl hr b1;obtain⟨M,hM⟩:=Mem.QD (L.length);have HM:=QA hM;rw[hM]at hL HL⊢;clear hM;go_enter Tryz.func18,Tryz.ntmps18;go_wp2;clear hmk;obtain⟨w0,hw0⟩:=Mem.QD (w.alloc (θ (iV (List.replicate n 0)).toArray 3));obtain⟨g,hg⟩:=Mem.QD (w.heap.size);have HG:=QA hg;rw[hw0]at Z' HK⊢;rw[hg]at HK⊢;clear hw0 hg
 go_loopw [6] (fun s6 wr=>∃i:Nat,i≤n∧s6=ι γ (i:Int)∧Hid (ZY wr g 3 (iV (Yp n i)))∧Hid (Below w.heap.size w wr)) (fun s _=>n-(intOf s).toNat)
 case atStart=>exact⟨0,Nat.zero_le _,rfl,HK,Z'⟩
 case round =>
  clear HK Z';obtain⟨i,hi,rfl,HK,HB⟩:=hrel;by_cases hlt:i<n
  ·have hlt':(i:Int)<(n:Int):=ω
   have KZ:(0:Int)≤(i:Int):=ω
   obtain⟨vd,kA⟩:∃v,(iV (Yp n i))[i]?=some v:=⟨_,QN (by rw[Xh,Qf2 hi];exact hlt)⟩;have Nv:=HK.out.at_ kA;have Mj:=HK.out.free i;clear kA;go_wp2
   go_roundw
   case rel=>exact⟨i+1,ω,by go_num,(by have h1:=HK.out.set (i:=i) (by rw[Xh,Qf2 hi];exact hlt) (ι γ (-1));rw[bT,Qpe hlt]at h1;exact h1),Zn HB.out (by have:=HG.out;omega) _ _⟩
   case measure=>simp[intOf];omega
  ·obtain rfl:n=i:=ω
   have hlt':¬(n:Int)<(n:Int):=ω
   clear hlt;go_wp2;have EP:Hid (ZY wr g 3 (iV (Yu n (L.take 0)))):=by have:=HK.out;rw[Qpf]at this;exact this
   have Pw:=QA HB.out;clear HK HB;obtain⟨wm,DV⟩:∃wm,wm=wr:=⟨_,rfl⟩;rw[←DV]at EP Pw⊢;clear DV
   go_loopw [7] (fun s7 W=>∃j:Nat,j≤M∧s7=ι γ (j:Int)∧Hid (ZY W g 3 (iV (Yu n (L.take j))))∧Hid (Below w.heap.size w W)) (fun s _=>M-(intOf s).toNat)
   case atStart=>exact⟨0,Nat.zero_le _,rfl,EP,Pw⟩
   case round =>
    clear EP Pw;obtain⟨j,hj,rfl,HK,HB⟩:=hrel;by_cases hlt:j<M
    ·have hlt':(j:Int)<(M:Int):=ω
     have mY:(0:Int)≤(j:Int):=ω
     have XW:=QA hlt;obtain⟨⟨x,y⟩,hp⟩:∃p,L[j]?=some p:=⟨_,QN (by rw[HM.out];exact hlt)⟩;have nH:=HR.out _ (List.mem_of_getElem? hp);obtain⟨xn,rfl⟩:∃xn:Nat,x=(xn:Int):=⟨x.toNat,by have:=nH.1;simp only at this;omega⟩;simp only at nH;obtain⟨b,o,rfl,_,c0,c1⟩:=Qm.at_ (HL.out.later HB.out) hp;simp only at c0 c1;have HP:=QA hp;have SQ:xn<n:=ω
     have nR:(0:Int)≤(xn:Int):=ω
     have SP:(xn:Int)<(n:Int):=ω
     obtain⟨vd,kA⟩:∃v,(iV (Yu n (L.take j)))[xn]?=some v:=⟨_,QN (by rw[Xh,Qe5];exact SQ)⟩;have HVD:=QA kA;have yP:=QA SQ;clear hp nH kA;go_wp2
     go_still_tail 12,χ
     change wpList _ _ _ _ _ wr.drew;clear c0 c1;have Nv:=HK.out.drew.at_ HVD.out;have Mj:=HK.out.drew.free xn;have Re:=QA HK.out.drew;have zI:Hid (Below w.heap.size w wr.drew):=HB.out.trans ((Q8 wr).mono HB.out.size);clear HK HB;generalize wr.drew=wd at *;go_wp2
     go_roundw
     case rel=>exact⟨j+1,(by have:=XW.out;omega),by go_num,(by have h1:=Re.out.set (i:=xn) (by rw[Xh,Qe5];exact yP.out) (ι γ y);rw[bT]at h1;have h2:=Qkd (n:=n) HP.out;simp only[Int.toNat_natCast]at h2;rw[h2]at h1;exact h1),Zn zI.out (by have:=HG.out;omega) _ _⟩
     case measure=>have:=XW.out;simp[intOf];omega
    ·obtain rfl:M=j:=ω
     have hlt':¬(M:Int)<(M:Int):=ω
     have HKE:Hid (ZY wr g 3 (iV (Yu n L))):=by have:=HK.out;rw[List.take_of_length_le (by rw[HM.out];exact Nat.le_refl _)]at this;exact this
     clear hlt HK;go_wp2;go_ret;exact⟨HB.out,g,by have:=HG.out;omega,rfl,HKE.out⟩
end Match
namespace Mem
variable {P:Program}{Q:Exit→Act→World→Prop}
def yc(A2:List (Value→Value→Prop))(i:Nat):Value→Value→Prop:=A2.getD i fun _ _=>True
def Qxe(P:Program)(l:List Oper)(t0:Array Value)(Q:Exit→Act→World→Prop)(pre:List Nat)(s1 s2 s3:Nat)(U:World→World→Prop)(S1:World→Prop)(Ph:Bool→Bool→Value→World→Prop)(E:List (Cd U))(A:List (Value→Prop))(A2:List (Value→Value→Prop))(x:Nat→Value)(a:Act)(W:World)(i:Nat)(o:Oper):Prop :=
 (∀j,waits l j i=true→x j=Eu l t0 j)→(∀j,waits l i j=true→Bv A j (x j))→(∀j,waits l i j=true→waits l j s1=true→yc A2 j (x s1) (x j))→
 ∀p q r:Bool,(p=false→S1 W∧∀j,waits l i j=true→(YA E j).p (x j) W)→(p=true→Ph q r (x s1) W)→
 (pre.contains i=true∨i=s1→p=false)→(waits l i s1=true→p=true)→(waits l s2 i=true∨i=s2→q=false)→(waits l s3 i=true∨i=s3→r=false)→(waits l i s2=true→q=true)→(waits l i s3=true→r=true)→
 ∀K:Act→World→Prop,Shut (∀v W',(i≠s1→i≠s2→i≠s3→U W W'∧(YA E i).p v W')→(i=s1→Ph false (decide (l.length≤s3)) v W')→(i=s2→Ph true r (x s1) W')→(i=s3→Ph q true (x s1) W')→Bv A i v→(waits l i s1=true→yc A2 i (x s1) v)→K (a.put o.dst v) W')→Jb P l Q o K a W
def Ew(P:Program)(l:List Oper)(t0:Array Value)(Q:Exit→Act→World→Prop)(pre:List Nat)(s1 s2 s3:Nat)(U:World→World→Prop)(S1:World→Prop)(Ph:Bool→Bool→Value→World→Prop)(E:List (Cd U))(A:List (Value→Prop))(A2:List (Value→Value→Prop))(x:Nat→Value)(a:Act)(W:World):Nat→List Oper→Prop
 |_,[]=>True
 |i,o::os=>Qxe P l t0 Q pre s1 s2 s3 U S1 Ph E A A2 x a W i o∧Ew P l t0 Q pre s1 s2 s3 U S1 Ph E A A2 x a W (i+1) os
theorem Ew.get{l:List Oper}{t0:Array Value}{pre:List Nat}{s1 s2 s3:Nat}{U:World→World→Prop}{S1:World→Prop}{Ph:Bool→Bool→Value→World→Prop}{E:List (Cd U)}{A:List (Value→Prop)}{A2:List (Value→Value→Prop)}{x:Nat→Value}{a:Act}{W:World}:∀(os:List Oper)(k i:Nat)(o:Oper),Ew P l t0 Q pre s1 s2 s3 U S1 Ph E A A2 x a W k os→os[i]?=some o→Qxe P l t0 Q pre s1 s2 s3 U S1 Ph E A A2 x a W (k+i) o
 |[],_,_,_,_,h=>by simp at h
 |p::os,k,0,o,hs,h=>by
  exact c56
 |p::os,k,i+1,o,hs,h=>by
  have:=Ew.get os (k+1) i o hs.2 (by simpa using h);rwa[show k+1+i=k+(i+1)by omega]at this
theorem Qrv{l:List Oper}{pre:List Nat}{s1 s2 s3:Nat}{U:World→World→Prop}{S1:World→Prop}{Ph:Bool→Bool→Value→World→Prop}{E:List (Cd U)}{A:List (Value→Prop)}{A2:List (Value→Value→Prop)}{a0:Act}(hn:(Xs l).Nodup)(he:Z2 l=true)(hpre:yr l s1 pre=true)(h12:waits l s2 s1=true)(Lh:(decide (l.length≤s3)||waits l s3 s1)=true)(CQ:s1≠s2)(CJ:s1≠s3)(CH:s2≠s3)(Lg:s1<l.length)(hl2:s2<l.length)
 (WR:∀W W',U W W'→S1 W→S1 W') (cV:∀q r v W W',U W W'→Ph q r v W→Ph q r v W')
 (hsteps:∀x W,∀a,a=(⟨Qi x 0 l a0.tmps,a0.defers⟩:Act)→Ew P l a0.tmps Q pre s1 s2 s3 U S1 Ph E A A2 x a W 0 l)
 (hdone:∀x W,Ph true true (x s1) W→(∀i,i<l.length→Bv A i (x i))→(∀i,i<l.length→waits l i s1=true→yc A2 i (x s1) (x i))→∀a,a=(⟨Qi x 0 l a0.tmps,a0.defers⟩:Act)→Q .normal a W) :
 ∀(fuel:Nat)(listed:Array Bool)(x:Nat→Value)(a:Act)(W:World),Su listed l.length=fuel→a=⟨Qi x 0 l a0.tmps,a0.defers⟩→(∀i,i<l.length→listed.getD i true=true→Bv A i (x i))→(∀i,i<l.length→listed.getD i true=true→waits l i s1=true→yc A2 i (x s1) (x i))→
  (listed.getD s1 true=false→S1 W∧∀i,i<l.length→listed.getD i true=true→(YA E i).p (x i) W)→(listed.getD s1 true=true→Ph (listed.getD s2 true) (listed.getD s3 true) (x s1) W)→(∀j,j<l.length→listed.getD j true=true→∀i,waits l j i=true→listed.getD i true=true)→(l.length=listed.size)→(∀j,j<l.length→listed.getD j true=false→x j=Eu l a0.tmps j)→
  wpAny P .any l.toArray Q fuel listed a W:=by
 have all:∀listed:Array Bool,Region.ready .any l.toArray listed=[]→∀i,i<l.length→listed.getD i true=true:=by
  intro listed hr i
  induction i using Nat.strongRecOn with
  |_ i ih =>
   intro hi;by_cases hl:listed.getD i true=true
   ·exact hl
   ·exfalso
    have hm:i∈Region.ready .any l.toArray listed:=mem_ready.2 ⟨by simpa using hl,l[i],by simp[hi],fun e hm hb=>by
     have h1:=List.all_eq_true.1 he i (List.mem_range.2 hi);simp only[List.getElem?_eq_getElem hi]at h1;have h2:=Array.all_eq_true_iff_forall_mem.1 h1 e hm;simp only[hb,Bool.not_true,Bool.false_or,decide_eq_true_eq]at h2;have h3:=ih e.on h2 ω;rcases Nat.lt_or_ge e.on listed.size with h' |h'
     ·simpa[h']using h3
     ·exfalso;have h4:listed.getD i true=true:=by simp[Array.getElem?_eq_none (show listed.size≤i by omega)]
      exact hl h4⟩
    rw[hr]at hm;cases hm
 intro fuel
 induction fuel with
 |zero =>
  intro listed x a W hf ha hA hB _ h2 _ hsz _;have hall:=Gc hf;have hq:listed.getD s2 true=true:=hall s2 hl2;have hr3:listed.getD s3 true=true:=by
   rcases Nat.lt_or_ge s3 l.length with h' |h'
   ·exact hall s3 h'
   ·simp[Array.getElem?_eq_none (show listed.size≤s3 by omega)]
  have kM:=h2 (hall s1 Lg);rw[hq,hr3]at kM;refine⟨?_,hdone x W kM (fun i hi=>hA i hi (hall i hi)) (fun i hi hw=>hB i hi (hall i hi) hw) a ha⟩;cases hr:Region.ready .any l.toArray listed with
  |nil=>rfl
  |cons i rs =>
   exfalso;obtain⟨h0,o,ho,_⟩:=mem_ready.1 (show i∈Region.ready .any l.toArray listed by rw[hr];exact List.mem_cons_self ..);have hi:i<l.length:=by have:=(Array.getElem?_eq_some_iff.1 ho).1;simpa using this
   rw[hall i hi]at h0;cases h0
 |succ fuel ih =>
  intro listed x a W hf ha hA hB h1 h2 hws mf hin;have hsz:l.length≤listed.size:=ω
  have hbig:∀j,l.length≤j→listed.getD j true=true:=fun j hj=>by simp[Array.getElem?_eq_none (show listed.size≤j by omega)]
  refine⟨fun hr=>by
   have kM:=h2 (all listed hr s1 Lg);have hr3:listed.getD s3 true=true:=by
    rcases Nat.lt_or_ge s3 l.length with h' |h'
    ·exact all listed hr s3 h'
    ·exact hbig s3 h'
   rw[all listed hr s2 hl2,hr3]at kM;exact hdone x W kM (fun i hi=>hA i hi (all listed hr i hi)) (fun i hi hw=>hB i hi (all listed hr i hi) hw) a ha,fun i hi=>?_⟩
  obtain⟨h0,o,ho,PM⟩:=mem_ready.1 hi;have ho':l[i]?=some o:=by simpa using ho
  have hil:i<l.length:=(List.getElem?_eq_some_iff.1 ho').1
  have JN:∀j,(o.after.any fun e=>Region.binds .any e&&e.on==j)=true→listed.getD j true=true∧j<i:=fun j hj=>by
   rw[←Array.any_toList,List.any_eq_true]at hj;obtain⟨e,hm0,hb⟩:=hj;have hm:e∈o.after:=Array.mem_toList_iff.1 hm0;simp only[Bool.and_eq_true,beq_iff_eq]at hb;have h1:=PM e hm hb.1;rw[hb.2]at h1;have hjl:j<listed.size:=by
    rcases Nat.lt_or_ge j listed.size with h' |h'
    ·exact h'
    ·simp[Array.getElem?_eq_none h']at h1
   exact c29
  have hlen:∀j q,waits l j q=true→j<l.length:=fun j q hw=>by
   unfold waits at hw;rcases Nat.lt_or_ge j l.length with h' |h'
   ·exact h'
   ·exact c109
  have SV:∀j,waits l j i=true→listed.getD j true=false:=fun j hw=>by
   by_cases hl:listed.getD j true=true
   ·exfalso;rw[hws j (hlen j i hw) hl i hw]at h0;cases h0
   ·simpa using hl
  have hs1:pre.contains i=true∨i=s1→listed.getD s1 true=false:=fun hw=>by
   rcases hw with hw|hw
   ·refine Qmu hpre (fun j q hq gI=>?_) hlen _ i (Nat.le_refl _) hw h0;by_cases hl:listed.getD j true=true
    ·exfalso;rw[hws j (hlen j q hq) hl q hq]at gI;cases gI
    ·simpa using hl
   ·subst hw;exact h0
  have PI:∀j,waits l i j=true→listed.getD j true=true∧j<i:=fun j hj=>by
   unfold waits at hj;rw[ho']at hj;exact JN j (by simpa using hj)
  have hst:=Ew.get l 0 i o (hsteps x W a ha) ho' (fun j hw=>by
   rw[ZL]at hw;exact hin j (hlen j i hw) (SV j hw))
   (fun j hj=>by rw[ZL]at hj;exact hA j (by have:=(PI j hj).2;omega) (PI j hj).1)
   (fun j hj TI=>by rw[ZL]at hj;exact hB j (by have:=(PI j hj).2;omega) (PI j hj).1 TI)
   (listed.getD s1 true) (listed.getD s2 true) (listed.getD s3 true)
   (fun hp=>⟨(h1 hp).1,fun j hj=>by rw[ZL]at hj;exact(h1 hp).2 j (by have:=(PI j hj).2;omega) (PI j hj).1⟩)
   h2
   (fun hw=>hs1 (by rw[ZL]at hw;exact hw))
   (fun hw=>by rw[ZL]at hw;exact(PI s1 hw).1)
   (fun hw=>by
    rw[ZL]at hw;rcases hw with hw|hw
    ·exact SV s2 hw
    ·subst hw;exact h0)
   (fun hw=>by
    rw[ZL]at hw;rcases hw with hw|hw
    ·exact SV s3 hw
    ·subst hw;exact h0)
   (fun hw=>by rw[ZL]at hw;exact(PI s2 hw).1)
   (fun hw=>by rw[ZL]at hw;exact(PI s3 hw).1)
   (fun a' W'=>wpAny P .any l.toArray Q fuel (listed.setIfInBounds i true) a' W')
   (by
    intro v W' RJ hi1 hi2 PL hv hvB;rw[ZL]at hv RJ hi1 hi2 PL hvB;have ZV:(listed.setIfInBounds i true).getD i true=true:=by simp[show i<listed.size by omega]
    have MO:∀j,j≠i→Qq x i v j=x j:=fun j hj=>by simp only[Qq];rw[if_neg hj]
    refine ih (listed.setIfInBounds i true) (Qq x i v) _ W' (by have:=Ui h0 hil;omega) ?_ (fun j hj hl=>?_) (fun j hj hl hw=>?_) (fun hl=>?_) (fun hl=>?_) (fun q kK hl j hw=>?_) (by simpa using mf) (fun j hjl hl=>?_)
    ·rw[ha];cases hd:o.dst with
     |none =>
      simp only[Act.put]
      congr 1
      have key:∀(os:List Oper)(k m:Nat)(t:Array Value),os[m]?=some o→Qi (Qq x (k+m) v) k os t=Qi x k os t:=by
       intro os
       induction os with
       |nil=>intro k m t h;rfl
       |cons p os Fg =>
        intro k m t h;cases m with
        |zero=>simp only[List.getElem?_cons_zero,Option.some.injEq]at h;subst h;simp only[Qi,hd];exact Vv os (k+1) _ fun j hj=>by simp only[Qq];rw[if_neg ω]
        |succ m =>
         simp only[Qi];have e1:Qq x (k+(m+1)) v k=x k:=by simp only[Qq];rw[if_neg ω]
         exact c57
      have:=key l 0 i a0.tmps ho';rw[ZL]at this;exact this.symm
     |some d =>
      simp only[Act.put]
      congr 1
      have:=K8 (x:=x) (v:=v) l 0 i o a0.tmps hn ho' hd;rw[ZL]at this;exact this.symm
    ·by_cases VK:j=i
     ·subst VK;simpa[Qq]using hv
     ·rw[MO j VK];rw[getD_set_ne true (Ne.symm VK)]at hl;exact hA j hj hl
    ·by_cases hjs:i=s1
     ·exfalso;subst hjs;by_cases VK:j=i
      ·subst VK;exact Nat.lt_irrefl _ (PI j hw).2
      ·rw[getD_set_ne true (Ne.symm VK)]at hl;rw[hws j hj hl i hw]at h0;cases h0
     ·rw[MO s1 (Ne.symm hjs)];by_cases VK:j=i
      ·subst VK;simpa[Qq]using hvB hw
      ·rw[MO j VK];rw[getD_set_ne true (Ne.symm VK)]at hl;exact hB j hj hl hw
    ·by_cases XT:i=s1
     ·subst XT;rw[ZV]at hl;cases hl
     ·rw[getD_set_ne true XT]at hl;obtain⟨g1,g2⟩:=h1 hl
      have GC:i≠s2:=fun e=>by
       subst e;rw[(PI s1 h12).1]at hl;cases hl
      have Dh:i≠s3:=fun e=>by
       subst e;rw[Bool.or_eq_true,decide_eq_true_eq]at Lh;rw[(PI s1 (Lh.resolve_left ω)).1]at hl;cases hl
      obtain⟨hU,hE⟩:=RJ XT GC Dh;refine⟨WR _ _ hU g1,fun j hj hl'=>?_⟩;by_cases VK:j=i
      ·subst VK;simpa[Qq]using hE
      ·exact c122
    ·by_cases XT:i=s1
     ·subst XT;have e2:listed.getD s2 true=false:=SV s2 h12;have e3:listed.getD s3 true=decide (l.length≤s3):=by
       rw[Bool.or_eq_true,decide_eq_true_eq]at Lh;rcases Lh with h' |h'
       ·rw[hbig s3 h',decide_eq_true h']
       ·rw[SV s3 h',decide_eq_false (by have:=hlen s3 i h';omega)]
      rw[getD_set_ne true CQ,getD_set_ne true CJ,e2,e3];simpa[Qq]using hi1 rfl
     ·rw[getD_set_ne true XT]at hl;rw[MO s1 (Ne.symm XT)];by_cases GC:i=s2
      ·subst GC;rw[ZV,getD_set_ne true CH];exact hi2 rfl
      ·by_cases Dh:i=s3
       ·subst Dh;rw[ZV,getD_set_ne true GC];exact PL rfl
       ·rw[getD_set_ne true GC,getD_set_ne true Dh];exact cV _ _ _ _ _ (RJ XT GC Dh).1 (h2 hl)
    ·by_cases VK:j=i
     ·exact c165
     ·rw[getD_set_ne true (Ne.symm VK)];by_cases XT:i=q
      ·exact c77
      ·exact c121
    ·by_cases VK:j=i
     ·subst VK;exfalso;simp[show j<listed.size by omega]at hl
     ·have e1:Qq x i v j=x j:=by simp only[Qq];rw[if_neg VK]
      rw[e1];rw[getD_set_ne true (Ne.symm VK)]at hl;exact hin j hjl hl)
  unfold Jb at hst;unfold wpOp;simp only[ho];split
  ·rename_i hw
   exact c132
  ·rename_i hw
   rw[if_neg hw]at hst;exact hst
theorem Qbp{id:Nat}{l:List Oper}{a0:Act}{w:World}(pre:List Nat)(s1 s2 s3:Nat)(U:World→World→Prop)(S1:World→Prop)(Ph:Bool→Bool→Value→World→Prop)(E:List (Cd U))(A:List (Value→Prop))(A2:List (Value→Value→Prop))(hm:P.follows .mixedOrders=true)(hn:(Xs l).Nodup)(he:Z2 l=true)
 (hpre:yr l s1 pre=true) (h12:waits l s2 s1=true) (Lh:(decide (l.length≤s3)||waits l s3 s1)=true) (CQ:s1≠s2) (CJ:s1≠s3) (CH:s2≠s3) (Lg:s1<l.length) (hl2:s2<l.length) (hS:S1 w.drew)
 (WR:∀W W',U W W'→S1 W→S1 W') (cV:∀q r v W W',U W W'→Ph q r v W→Ph q r v W')
 (hsteps:∀x W,∀a,a=(⟨Qi x 0 l a0.tmps,a0.defers⟩:Act)→Ew P l a0.tmps Q pre s1 s2 s3 U S1 Ph E A A2 x a W 0 l)
 (hdone:∀x W,Ph true true (x s1) W→(∀i,i<l.length→Bv A i (x i))→(∀i,i<l.length→waits l i s1=true→yc A2 i (x s1) (x i))→∀a,a=(⟨Qi x 0 l a0.tmps,a0.defers⟩:Act)→Q .normal a W) :
 (Code.region id l.toArray true).wp P Q a0 w:=by
 refine wp_region_any hm (Qrv (a0:=a0) hn he hpre h12 Lh CQ CJ CH Lg hl2 WR cV hsteps hdone l.toArray.size (Array.replicate l.toArray.size false) (Eu l a0.tmps) a0 w.drew ?_ ?_ ?_ ?_ (fun _=>⟨hS,?_⟩) ?_ ?_ ?_ (fun _ _ _=>rfl))
 ·exact c91
 ·rw[Ke]
 ·intro i hi h;exfalso;simp[hi]at h
 ·intro i hi h;exfalso;simp[hi]at h
 ·intro i hi h;exfalso;simp[hi]at h
 ·intro h;exfalso;simp[Lg]at h
 ·intro j hsl h;exfalso;simp[hsl]at h
 ·simp
