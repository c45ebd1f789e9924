import Derived.Test.YtaiihnniblibaaaGreatDoorG05
set_option maxHeartbeats 2000000
set_option maxRecDepth 100000
set_option linter.unusedVariables false
open Go.Proofs.Tryz Go.ChangeShapes Go.WideShapes Go.ChangeAt Go.RowKit
open Go.Lib renaming hid→QA
open Go.RowKit.Below renaming refl→QF
open _root_.Nat renaming le_refl→QH
open Go.Value renaming string→σ,int→ι,slice→ς,pointer→π,bool→τ,agg→ξ
open Go.IntKind renaming i64→κ
open Go.Obj renaming cells→θ
open Go.Ending renaming returned→ρ
namespace Go.Proofs.YtaiihnniblibaaaGreatDoor
namespace QB
open Tree ZR Mem
theorem qB:(prog.info? 75).map (·.size)=some 4:=by kernel_rfl
theorem Q8:(prog.info? 24).map (·.size)=some 4:=by kernel_rfl
theorem GR.cells{w:World}{P z:Nat}{A:Option Addr}{n C k:Nat}{L:List Tk}{d:Nat}(h:GR w P z A n C k L d) :
  w.cell? ⟨P,0,none⟩=some (ς A n C)∧w.cell? ⟨P,1,none⟩=some (ι κ (k:Int))∧w.cell? ⟨P,2,none⟩=some (ι κ (z:Int))∧w.cell? ⟨P,3,none⟩=some (ι κ (d:Int)):=by
 have:=h.blk;simp[World.cell?,this]
theorem GR.VD{w:World}{P z:Nat}{A:Option Addr}{n C k:Nat}{L:List Tk}{d:Nat}(h:GR w P z A n C k L d) :
  w.frozen? ⟨P,1,none⟩=false∧w.frozen? ⟨P,3,none⟩=false:=by
 have:=h.blk;simp[World.frozen?,this]
theorem GR.tok{w:World}{P z:Nat}{A:Option Addr}{n C k:Nat}{L:List Tk}{d:Nat}(h:GR w P z A n C k L d){t:Tk}{r:List Tk}(ht:L.drop k=t::r) :
  ∃b,A=some ⟨b,0,none⟩∧b<P∧k<n∧w.cell? ⟨b,k*4,none⟩=some (ι κ t.kind)∧w.cell? ⟨b,k*4+1,none⟩=some (σ t.x)∧w.cell? ⟨b,k*4+2,none⟩=some (ι κ (t.place:Int))∧w.cell? ⟨b,k*4+3,none⟩=some (τ t.first):=by
 have hk:k<L.length:=by
  rcases Nat.lt_or_ge k L.length with h' |h'
  ·exact h'
  ·rw[List.drop_eq_nil_of_le h']at ht;cases ht
 have hg:L[k]?=some t:=by have:=congrArg (·[0]?) ht;simpa using this
 obtain⟨b,e,hb,hc⟩:=h.rt.at_ (by omega);exact⟨b,e,hb,by rw[←h.len];exact hk,by simpa using hc k t hg 0 _ rfl,hc k t hg 1 _ rfl,hc k t hg 2 _ rfl,hc k t hg 3 _ rfl⟩
theorem xD(P z:Nat)(l:List Tk)(d:Nat)(w:World)(h:PS w P z l d) :
  Calls prog 51 #[π (some ⟨P,0,none⟩)] w fun e w'=>e=ρ (τ (decide (l.length=0)))∧∃q,w'=w.drewN q:=by
 obtain⟨A,n,C,k,L,h,rfl⟩:=h;obtain⟨c0,c1,c2,c3⟩:=h.cells;have hl:=h.len;have hk:=h.hk;have e:decide ((L.drop k).length=0)=decide (n≤k):=by rw[List.length_drop];apply Bool.eq_iff_iff.2;simp only[decide_eq_true_eq];omega
 rw[e];clear e hl h;go_enter func51,ntmps51;go_wp2
 go_quiet (fail)
 go_wp2;go_ret;exact⟨rfl,_,rfl⟩
def Q2w(w:World)(t:Tk)(e:Ending)(w':World):Prop:=e=ρ (VK t)∧Below w.heap.size w w'
theorem Vk(P z:Nat)(l:List Tk)(d:Nat)(w:World)(h:PS w P z l d) :
  Calls prog 45 #[π (some ⟨P,0,none⟩)] w (Q2w w (hd z l)):=by
 have HD:=QA (xD P z l d (w.alloc (θ #[ι κ 0,σ ⟨#[]⟩,ι κ 0,τ false] 75)) (h.alloc _));obtain⟨A,n,C,k,L,h,rfl⟩:=h;have hP:=Jk h.blk;obtain⟨c0,c1,c2,c3⟩:=h.cells;cases hl:L.drop k with
 |nil =>
  have e:decide ((L.drop k).length=0)=true:=by rw[hl];rfl
  rw[e]at HD;clear h e hl;go_enter func45,ntmps45;go_wp2_with fail;refine HD.out.mono ?_;rintro e w' ⟨rfl,q,rfl⟩;go_wp2;have QZ:Z1 ((w.alloc (θ #[ι κ 0,σ ⟨#[]⟩,ι κ 0,τ false] 75)).drewN q) w.heap.size 75 (ι κ 0) (σ ⟨#[]⟩) (ι κ 0) (τ false):=Qv w _ _ _ _ _;refine bodyPost_ret (results_cell_row rfl _ _ w.heap.size 75 _ (0,0) _ rfl (QZ.ZT _ _ _ _) underlying75 rfl qB) rfl ?_;exact⟨rfl,gu (tW ((QF _ _).alloc (QH _) _) q) (QH _) _ _ _ _⟩
 |cons t r =>
  have e:decide ((L.drop k).length=0)=false:=by rw[hl];rfl
  rw[e]at HD;obtain⟨b,rfl,hb,hkn,d0,d1,d2,d3⟩:=h.tok hl;have vV:(k:Int)<(n:Int):=by omega
  have Sq:(0:Int)≤(k:Int):=by omega
  have ZW:b<w.heap.size:=by omega
  clear h e hl;go_enter func45,ntmps45;go_wp2_with fail;refine HD.out.mono ?_;rintro e w' ⟨rfl,q,rfl⟩;go_wp2
  go_region
  all_goals go_wp2
  all_goals
   have QZ:Z1 ((w.alloc (θ #[ι κ 0,σ ⟨#[]⟩,ι κ 0,τ false] 75)).drewN (q+1)) w.heap.size 75 (ι κ 0) (σ ⟨#[]⟩) (ι κ 0) (τ false):=Qv w _ _ _ _ _;refine bodyPost_ret (results_cell_row rfl _ _ w.heap.size 75 _ (0,0) _ rfl (QZ.ZT _ _ _ _) underlying75 rfl qB) rfl ?_;exact⟨rfl,gu (tW ((QF _ _).alloc (QH _) _) (q+1)) (QH _) _ _ _ _⟩
theorem wO(x:ByteArray):KL.ZZ (ZA x):=fun y hy=>by
 unfold ZA at hy;obtain⟨b,_,rfl⟩:=List.mem_map.1 hy;have:=b.toNat_lt;omega
theorem wY(x:ByteArray):strOfNums (ZA x)=x:=by
 apply Jp;rw[Lib.strOfNums_toList];unfold ZA Lib.bytesOf;rw[List.map_map];conv=>rhs;rw[←List.map_id x.toList]
 apply List.map_congr_left;intro b _;simp
theorem Qle(x:ByteArray)(w:World):Calls prog 63 #[σ x] w fun e w'=>e = ρ (τ (Lex.isWord (ZA x)))∧w=w':=by
 have:=Lex.rH (ZA x) (wO x) w;rwa[wY]at this
theorem G4(t:Tk)(w:World):Calls prog 86 #[VK t] w fun e w'=>e = ρ (τ (Je t))∧Below w.heap.size w w':=by
 obtain⟨k,x,pl,fi⟩:=t;have hb:=(QF w.heap.size w).alloc (QH _) (θ #[ι κ k,σ x,ι κ (pl:Int),τ fi] 75);unfold Je VK;cases hk:(k==1)with
 |false=>have HB:=QA hb;clear hb;go_enter func86,ntmps86;go_wp2;go_ret;exact⟨rfl,HB.out⟩
 |true=>have HW:=QA (Qle x (w.alloc (θ #[ι κ k,σ x,ι κ (pl:Int),τ fi] 75)));have HB:=QA hb;clear hb;go_enter func86,ntmps86;go_wp2_with fail;refine HW.out.mono ?_;rintro e w' ⟨rfl,rfl⟩;go_wp2;go_ret;exact⟨rfl,HB.out⟩
theorem Ct(k:Int)(x:ByteArray)(pl:Int)(fi:Bool)(w:World):(Instr.field 75 (ξ #[ι κ k,σ x,ι κ pl,τ fi]) 0).run prog w=.ok (ι κ k) w:=by kernel_rfl
theorem RH(k:Int)(x:ByteArray)(pl:Int)(fi:Bool)(w:World):(Instr.field 75 (ξ #[ι κ k,σ x,ι κ pl,τ fi]) 1).run prog w=.ok (σ x) w:=by kernel_rfl
theorem Q3o(k:Int)(x:ByteArray)(pl:Int)(fi:Bool)(w:World):(Instr.field 75 (ξ #[ι κ k,σ x,ι κ pl,τ fi]) 2).run prog w=.ok (ι κ pl) w:=by kernel_rfl
theorem kf(s:ByteArray)(P z:Nat)(l:List Tk)(d:Nat)(w:World)(h:PS w P z l d) :
  Calls prog 50 #[π (some ⟨P,0,none⟩),σ s] w fun e w'=>e=ρ (τ (QQ (hd z l) s.toList))∧Below w.heap.size w w':=by
 have HN:=QA (Vk P z l d w h);clear h;unfold QQ;generalize hd z l=t at *;obtain⟨k,x,pl,fi⟩:=t;go_enter func50,ntmps50;go_wp2_with fail;refine c₁ HN.out fun w' hb=>?_;unfold VK;have HB:=QA hb;have hf:=RH k x pl fi;clear hb;go_wp2;go_ret;exact⟨rfl,HB.out⟩
theorem GR.take{w:World}{P z:Nat}{A:Option Addr}{n C k:Nat}{L:List Tk}{d:Nat}(h:GR w P z A n C k L d)(hk:k<n)(v:Int)(hv:v=(k:Int)+1):GR (w.setCell ⟨P,1,none⟩ (ι κ v)) P z A n C (k+1) L d:=by
 refine⟨?_,?_,h.len,hk,h.hn,h.hC,h.UN⟩
 ·have:=h.blk;subst hv;simp[World.setCell,Array.getElem?_modify,this]
 ·rcases h.rt with e|⟨b,e,hl,hc⟩
  ·exact .inl e
  ·exact .inr ⟨b,e,hl,fun i x hx j u hu=>(World.cell?_of_block (w:=w) (a:=⟨b,i*4+j,none⟩) (Below.heap_setCell _ _ _ _ (by show b≠P;omega))).trans (hc i x hx j u hu)⟩
theorem GR.deep{w:World}{P z:Nat}{A:Option Addr}{n C k:Nat}{L:List Tk}{d:Nat}(h:GR w P z A n C k L d)(d':Nat)(v:Int)(hv:v=(d':Int)):GR (w.setCell ⟨P,3,none⟩ (ι κ v)) P z A n C k L d':=by
 refine⟨?_,?_,h.len,h.hk,h.hn,h.hC,h.UN⟩
 ·have:=h.blk;subst hv;simp[World.setCell,Array.getElem?_modify,this]
 ·rcases h.rt with e|⟨b,e,hl,hc⟩
  ·exact .inl e
  ·exact .inr ⟨b,e,hl,fun i x hx j u hu=>(World.cell?_of_block (w:=w) (a:=⟨b,i*4+j,none⟩) (Below.heap_setCell _ _ _ _ (by show b≠P;omega))).trans (hc i x hx j u hu)⟩
theorem PS.deep{w:World}{P z:Nat}{l:List Tk}{d:Nat}(h:PS w P z l d)(d':Nat)(v:Int)(hv:v=(d':Int)):PS (w.setCell ⟨P,3,none⟩ (ι κ v)) P z l d':=by
 obtain⟨A,n,C,k,L,h,e⟩:=h;exact⟨A,n,C,k,L,h.deep d' v hv,e⟩
theorem PS.depth{w:World}{P z:Nat}{l:List Tk}{d:Nat}(h:PS w P z l d):w.cell? ⟨P,3,none⟩=some (ι κ (d:Int))∧w.frozen? ⟨P,3,none⟩=false:=by
 obtain⟨A,n,C,k,L,h,e⟩:=h;exact⟨h.cells.2.2.2,h.VD.2⟩
theorem mz(er:Int)(P z:Nat)(l:List Tk)(d:Nat)(w:World)(h:PS w P z l d) :
  Calls prog 75 #[π (some ⟨P,0,none⟩),ι κ er] w fun e w'=>e=.panicked (Si (hd z l).place er)∧Below w.heap.size w w':=by
 have HN:=QA (Vk P z l d w h);clear h;unfold Si;generalize hd z l=t at *;obtain⟨k,x,pl,fi⟩:=t;go_enter func75,ntmps75;go_wp2_with fail;refine c₁ HN.out fun w' hb=>?_;unfold VK;have HB:=QA hb;have hf:=Q3o k x pl fi;clear hb;go_wp2;exact⟨rfl,rfl,HB.out⟩
theorem Z3(P:Nat)(w:World) :
  Calls prog 49 #[π (some ⟨P,0,none⟩),τ true] w fun e w'=>e=ρ (.tuple #[])∧w'=w:=by
 go_enter func49,ntmps49;go_wp2
 go_end0
 exact⟨rfl,rfl⟩
theorem K2(P z:Nat)(l:List Tk)(d:Nat)(w:World)(h:PS w P z l d) :
  Calls prog 49 #[π (some ⟨P,0,none⟩),τ false] w fun e w'=>e=.panicked (Si (hd z l).place 5)∧Below w.heap.size w w':=by
 have HN:=QA (mz 5 P z l d w h);clear h;generalize hd z l=t at *;go_enter func49,ntmps49;go_wp2_with fail;refine c₁ HN.out fun w' hb=>?_;have HB:=QA hb;clear hb;go_wp2;exact⟨rfl,rfl,HB.out⟩
theorem Q5(P z:Nat)(t:Tk)(r:List Tk)(d:Nat)(w:World)(h:PS w P z (t::r) d) :
  Calls prog 68 #[π (some ⟨P,0,none⟩)] w (Qn TV w P z d (.ok t r)):=by
 have YS:Z1 (w.alloc (θ #[ι κ 0,σ ⟨#[]⟩,ι κ 0,τ false] 75)) w.heap.size 75 (ι κ 0) (σ ⟨#[]⟩) (ι κ 0) (τ false):=Qv w _ _ _ _ _;have hb0:Below w.heap.size w (w.alloc (θ #[ι κ 0,σ ⟨#[]⟩,ι κ 0,τ false] 75)):=(QF _ _).alloc (QH _) _;have hs0:(w.alloc (θ #[ι κ 0,σ ⟨#[]⟩,ι κ 0,τ false] 75)).heap.size=w.heap.size+1:=by simp
 have h0:=h.alloc (θ #[ι κ 0,σ ⟨#[]⟩,ι κ 0,τ false] 75);have HN:=QA (Vk P z _ d _ h0);have hlt:=h.lt;simp only[hd]at HN;have UQ:=QA hb0;have HX:=QA YS;have H0:=QA h0;have HS:=QA hs0;clear hb0 YS h0 h hs0;go_enter func68,ntmps68;go_wp2_with fail;refine c₁ HN.out fun W hb=>?_;have hps:=H0.out.later hb;have QZ:=HX.out.later hb;have ZW:=UQ.out.trans (hb.mono (by rw[HS.out];omega));have hsz:w.heap.size<W.heap.size:=by have:=hb.size;rw[HS.out]at this;omega
 obtain⟨A,n,C,k,L,hq,hl⟩:=hps;obtain⟨b,rfl,hbP,hkn,_⟩:=hq.tok hl.symm;obtain⟨c0,c1,c2,c3⟩:=hq.cells;obtain⟨f1,f3⟩:=hq.VD;have hn:=hq.hn;have hne:W.heap.size≠P:=by omega
 have Mh:P≠W.heap.size:=by omega
 have XX:P<W.heap.size:=by omega
 have HQ:=QA hq;have CJ:=QA QZ;have Lz:=QA ZW;have HL:=QA hl;obtain⟨g0,g1,g2,g3⟩:=QZ.VD;obtain⟨x0,x1,x2,x3⟩:=QZ.cells;have iE:w.heap.size≠P:=by omega
 have hR2:w.heap.size≠W.heap.size:=by omega
 obtain⟨k',x,pl,fi⟩:=t;unfold VK;clear HN hb hq QZ ZW hl UQ HX H0 HS c0 c2 c3 f3;go_wp2;have hq':=(HQ.out.take hkn _ rfl);have vM:PS (W.setCell ⟨P,1,none⟩ (ι κ ((k:Int)+1))) P z r d:=⟨_,n,C,k+1,L,hq',by have:=congrArg List.tail HL.out;simpa using this⟩
 have ji:=((CJ.out.other (p:=⟨P,1,none⟩) (Ne.symm iE) (ι κ ((k:Int)+1))).ZT (ι κ k') (σ x) (ι κ (pl:Int)) (τ fi)).later ((QF _ _).alloc (QH _) (θ #[ι κ k',σ x,ι κ (pl:Int),τ fi] 75));refine bodyPost_ret (results_cell_row rfl _ _ w.heap.size 75 _ (0,0) _ rfl ji underlying75 rfl qB) rfl ?_;exact⟨_,rfl,rfl,(Va vM hlt _ _ _ _).alloc _,(Uh ((ZM.of Lz.out P).set (.inl rfl) _) (QH _) _ _ _ _).alloc _⟩
theorem Qr9(s:ByteArray)(u:List UInt8)(hu:s.toList=u)(P z:Nat)(l:List Tk)(d:Nat)(hne:u≠[])(w:World)(h:PS w P z l d) :
  Calls prog 70 #[π (some ⟨P,0,none⟩),σ s] w (Qn UV w P z d (want z u l)):=by
 have HI:=QA (kf s P z l d w h);have H:=QA h;have hw:want z u l=want z u l:=rfl;conv at hw=>rhs;unfold want
 rw[hu]at HI;cases hb:QQ (hd z l) u with
 |true =>
  rw[hb]at HI hw;rw[if_pos rfl]at hw;obtain⟨t,r,rfl⟩:∃t r,l=t::r:=by
   cases l with
   |nil=>exfalso;simp only[hd,QQ,e0,beq_iff_eq]at hb;exact hne (by rw[←hb];simp)
   |cons t r=>exact⟨t,r,rfl⟩
  rw[hw];clear h hb hw hu hne;go_enter func70,ntmps70;go_wp2_with fail;refine c₁ HI.out fun w1 hb1=>?_;have QJ:=QA hb1;have HT:=QA (Q5 P z t r d w1 (H.out.later hb1));clear hb1;go_wp2_with fail;refine(Z3 P w1).mono ?_;rintro e w2 ⟨rfl,rfl⟩;go_wp2_with fail;refine HT.out.mono ?_;rintro e w3 ⟨v,rfl,rfl,hps,QD⟩;have YX:=QA hps;have GA:=QA QD;clear hps QD;go_wp2
  go_end0
  exact⟨_,rfl,rfl,YX.out,(ZM.of QJ.out P).trans GA.out⟩
 |false=>rw[hb]at HI hw;rw[if_neg (by decide)]at hw;rw[hw];clear h hb hw hu hne;go_enter func70,ntmps70;go_wp2_with fail;refine c₁ HI.out fun w1 hb1=>?_;have QJ:=QA hb1;have HM:=QA (K2 P z l d w1 (H.out.later hb1));clear hb1;go_wp2_with fail;refine c₁ HM.out fun w2 hb2=>?_;have QR:=QA hb2;clear hb2;go_wp2;exact⟨rfl,rfl,ZM.of (QJ.out.trans (QR.out.mono QJ.out.size)) P⟩
theorem FA{z:Nat}{l:List Tk}(h:Je (hd z l)=true):∃t r,l=t::r:=by
 cases l with
 |nil=>simp[hd,Je]at h
 |cons t r=>exact⟨t,r,rfl⟩
theorem Jb(P z:Nat)(l:List Tk)(d:Nat)(w:World)(h:PS w P z l d) :
  Calls prog 69 #[π (some ⟨P,0,none⟩)] w (Qn SV w P z d (name z l)):=by
 have HN:=QA (Vk P z l d w h);have H:=QA h;have hw:name z l=name z l:=rfl;conv at hw=>rhs;unfold name
 cases hb:Je (hd z l)with
 |true=>rw[hb,if_pos rfl]at hw;obtain⟨t,r,rfl⟩:=FA hb;rw[hw];simp only[hd,List.tail_cons]at *;have HI:=QA (fun W=>G4 t W);rw[hb]at HI;clear h hb hw;go_enter func69,ntmps69;go_wp2_with fail;refine c₁ HN.out fun w1 hb1=>?_;have QJ:=QA hb1;clear hb1;go_wp2_with fail;refine c₁ (HI.out w1) fun w2 hb2=>?_;have QR:=QN QJ hb2;have HT:=QA (Q5 P z t r d w2 (H.out.later QR.out));clear hb2;go_wp2_with fail;refine(Z3 P w2).mono ?_;rintro e w3 ⟨rfl,rfl⟩;go_wp2_with fail;refine HT.out.mono ?_;rintro e w3 ⟨v,rfl,rfl,hps,QD⟩;have YX:=QA hps;have GA:=QA QD;clear hps QD;obtain⟨k,x,pl,fi⟩:=t;have hf:=RH k x pl fi;unfold VK;go_wp2;go_ret;exact⟨_,rfl,rfl,YX.out,(ZM.of QR.out P).trans GA.out⟩
 |false=>rw[hb,if_neg (by decide)]at hw;rw[hw];have HI:=QA (fun W=>G4 (hd z l) W);rw[hb]at HI;clear h hb hw;go_enter func69,ntmps69;go_wp2_with fail;refine c₁ HN.out fun w1 hb1=>?_;have QJ:=QA hb1;clear hb1;go_wp2_with fail;refine c₁ (HI.out w1) fun w2 hb2=>?_;have QR:=QN QJ hb2;have HM:=QA (K2 P z l d w2 (H.out.later QR.out));clear hb2;go_wp2_with fail;refine c₁ HM.out fun w3 hb3=>?_;have XG:=QA hb3;clear hb3;go_wp2;exact⟨rfl,rfl,ZM.of (QR.out.trans (XG.out.mono QR.out.size)) P⟩
theorem Zr(f:Bool)(P z:Nat)(l:List Tk)(d:Nat)(hne:f=true→l≠[])(hd1:d≤100000)(w:World)(h:PS w P z l d) :
  Calls prog 66 #[π (some ⟨P,0,none⟩),τ f] w (Qn TV w P z d (J' z f d l)):=by
 have hw:J' z f d l=J' z f d l:=rfl;conv at hw=>rhs;unfold J'
 have hb0:Below w.heap.size w (w.alloc (θ #[ι κ 0,σ ⟨#[]⟩,ι κ 0,τ false] 75)):=(QF _ _).alloc (QH _) _;have YS:Z1 (w.alloc (θ #[ι κ 0,σ ⟨#[]⟩,ι κ 0,τ false] 75)) w.heap.size 75 (ι κ 0) (σ ⟨#[]⟩) (ι κ 0) (τ false):=Qv w _ _ _ _ _;have hlt:=h.lt;have h0:=h.alloc (θ #[ι κ 0,σ ⟨#[]⟩,ι κ 0,τ false] 75);have hs0:(w.alloc (θ #[ι κ 0,σ ⟨#[]⟩,ι κ 0,τ false] 75)).heap.size=w.heap.size+1:=by simp
 have HS:=QA hs0;cases f with
 |false=>have HM:=QA (K2 P z l d _ h0);have UQ:=QA hb0;rw[hw,if_neg (by decide)];clear h hw hb0 YS h0 hne hs0;go_enter func66,ntmps66;go_wp2_with fail;refine c₁ HM.out fun w1 hb1=>?_;have QJ:=QA hb1;clear hb1;go_wp2;exact⟨rfl,rfl,ZM.of (UQ.out.trans (QJ.out.mono (by rw[HS.out];omega))) P⟩
 |true =>
  rw[if_pos rfl]at hw;by_cases hdd:256<d
  ·have HM:=QA (mz 6 P z l d _ h0);have UQ:=QA hb0;have yA:=QA (fun W=>Z3 P W);rw[hw,if_pos hdd];have hd':decide ((256:Int)<(d:Int))=true:=by rw[decide_eq_true_eq];omega
   obtain⟨c3,f3⟩:=h0.depth;clear h hw hb0 YS h0 hne hs0 f3;go_enter func66,ntmps66;go_wp2_with fail;refine(yA.out _).mono ?_;rintro e w1 ⟨rfl,rfl⟩;go_wp2_with fail;refine c₁ HM.out fun w1 hb1=>?_;have QJ:=QA hb1;clear hb1;go_wp2;exact⟨rfl,rfl,ZM.of (UQ.out.trans (QJ.out.mono (by rw[HS.out];omega))) P⟩
  ·obtain⟨t,r,rfl⟩:∃t r,l=t::r:=by
    cases l with
    |nil=>exact absurd rfl (hne rfl)
    |cons t r=>exact⟨t,r,rfl⟩
   have HT:=QA (Q5 P z t r d _ h0);have UQ:=QA hb0;have FK:=QA YS;have yA:=QA (fun W=>Z3 P W);rw[hw,if_neg hdd];simp only[hd,List.tail_cons];obtain⟨c3,f3⟩:=h0.depth;clear h hw hb0 YS h0 hne hs0 f3;go_enter func66,ntmps66;go_wp2_with fail;refine(yA.out _).mono ?_;rintro e w1 ⟨rfl,rfl⟩;go_wp2_with fail;refine HT.out.mono ?_;rintro e w1 ⟨v,rfl,rfl,hps,QD⟩;have QZ:=FK.out.QS QD (by omega);have HX:=QA QZ;have YX:=QA hps;have GA:=QA QD;obtain⟨g0,g1,g2,g3⟩:=QZ.VD;obtain⟨x0,x1,x2,x3⟩:=QZ.cells;obtain⟨k,x,pl,fi⟩:=t;unfold VK;clear hps QD QZ c3;go_wp2;refine bodyPost_ret (results_cell_row rfl _ _ w.heap.size 75 _ (0,0) _ rfl (HX.out.ZT _ _ _ _) underlying75 rfl qB) rfl ?_;exact⟨_,rfl,rfl,Va YX.out hlt _ _ _ _,Uh ((ZM.of UQ.out P).trans GA.out) (QH _) _ _ _ _⟩
theorem Qu(k:Int)(x:ByteArray)(A:Option Addr)(n C:Nat)(w:World) :
  Calls prog 52 #[ι κ k,σ x,ς A n C] w fun e w'=>e=ρ (ξ #[ι κ k,σ x,σ e0,ς A n C])∧Below w.heap.size w w':=by
 go_enter func52,ntmps52;go_wp2;refine bodyPost_ret (results_cell_row rfl _ _ w.heap.size 24 #[ι κ k,σ x,σ ⟨#[]⟩,ς A n C] (0,0) _ rfl (heap_alloc_new _ _) underlying24 rfl Q8) rfl ?_;exact⟨rfl,(QF _ _).alloc (QH _) _⟩
theorem Xu(w:World) :
  Calls prog 92 #[] w fun e w'=>e=ρ (ξ #[ι κ 33,σ e0,σ e0,ς none 0 0])∧Below w.heap.size w w':=by
 have HN:=QA (Qu 33 ⟨#[]⟩ none 0 0 (w.alloc (θ #[ι κ 0,σ ⟨#[]⟩,σ ⟨#[]⟩,ς none 0 0] 24)));have YS:Z1 (w.alloc (θ #[ι κ 0,σ ⟨#[]⟩,σ ⟨#[]⟩,ς none 0 0] 24)) w.heap.size 24 (ι κ 0) (σ ⟨#[]⟩) (σ ⟨#[]⟩) (ς none 0 0):=Qv w _ _ _ _ _;have FK:=QA YS;have hb0:Below w.heap.size w (w.alloc (θ #[ι κ 0,σ ⟨#[]⟩,σ ⟨#[]⟩,ς none 0 0] 24)):=(QF _ _).alloc (QH _) _;have UQ:=QA hb0;clear YS hb0;go_enter func92,ntmps92;go_wp2_with fail;refine c₁ HN.out fun w1 hb1=>?_;have QZ:=FK.out.later hb1;have HX:=QA QZ;have HB:=QN UQ hb1;obtain⟨g0,g1,g2,g3⟩:=QZ.VD;obtain⟨x0,x1,x2,x3⟩:=QZ.cells;unfold e0;clear hb1 QZ;go_wp2;refine bodyPost_ret (results_cell_row rfl _ _ w.heap.size 24 _ (0,0) _ rfl (HX.out.ZT _ _ _ _) underlying24 rfl Q8) rfl ?_;exact⟨rfl,gu HB.out (QH _) _ _ _ _⟩
theorem gy(t:Tk)(w:World):Calls prog 111 #[VK t] w fun e w'=>e = ρ (τ (Q9 t))∧Below w.heap.size w w':=by
 obtain⟨k,x,pl,fi⟩:=t;have hb:=(Below.refl w.heap.size w).alloc (Nat.le_refl _) (θ #[ι κ k,σ x,ι κ (pl:Int),τ fi] 75);have HB:=QA hb;clear hb;cases b0:(x.toList==[45])with
 |true =>
  have hv:Q9 ⟨k,x,pl,fi⟩=true:=by simp only[Q9,QQ,b0];rfl
  rw[hv];clear hv;unfold VK;go_enter func111,ntmps111;go_wp2;go_ret;exact⟨rfl,HB.out⟩
 |false =>
 cases b1:(x.toList==[33])with
 |true =>
  have hv:Q9 ⟨k,x,pl,fi⟩=true:=by simp only[Q9,QQ,b0,b1];rfl
  rw[hv];clear hv;unfold VK;go_enter func111,ntmps111;go_wp2;go_ret;exact⟨rfl,HB.out⟩
 |false =>
 cases b2:(x.toList==[94])with
 |true =>
  have hv:Q9 ⟨k,x,pl,fi⟩=true:=by simp only[Q9,QQ,b0,b1,b2];rfl
  rw[hv];clear hv;unfold VK;go_enter func111,ntmps111;go_wp2;go_ret;exact⟨rfl,HB.out⟩
 |false =>
 cases b3:(x.toList==[42])with
 |true =>
  have hv:Q9 ⟨k,x,pl,fi⟩=true:=by simp only[Q9,QQ,b0,b1,b2,b3];rfl
  rw[hv];clear hv;unfold VK;go_enter func111,ntmps111;go_wp2;go_ret;exact⟨rfl,HB.out⟩
 |false =>
 cases b4:(x.toList==[38])with
 |true =>
  have hv:Q9 ⟨k,x,pl,fi⟩=true:=by simp only[Q9,QQ,b0,b1,b2,b3,b4];rfl
  rw[hv];clear hv;unfold VK;go_enter func111,ntmps111;go_wp2;go_ret;exact⟨rfl,HB.out⟩
 |false =>
 cases b5:(x.toList==[43])with
 |true =>
  have hv:Q9 ⟨k,x,pl,fi⟩=true:=by simp only[Q9,QQ,b0,b1,b2,b3,b4,b5];rfl
  rw[hv];clear hv;unfold VK;go_enter func111,ntmps111;go_wp2;go_ret;exact⟨rfl,HB.out⟩
 |false =>
 have hv:Q9 ⟨k,x,pl,fi⟩=false:=by simp only[Q9,QQ,b0,b1,b2,b3,b4,b5];rfl
 rw[hv];clear hv;unfold VK;go_enter func111,ntmps111;go_wp2;go_ret;exact⟨rfl,HB.out⟩
theorem Qv4(t:Tk)(w:World):Calls prog 88 #[VK t] w fun e w'=>e = ρ (τ (V' t))∧Below w.heap.size w w':=by
 have HI:=QA (fun W=>G4 t W);obtain⟨k,x,pl,fi⟩:=t;have hb:=(Below.refl w.heap.size w).alloc (Nat.le_refl _) (θ #[ι κ k,σ x,ι κ (pl:Int),τ fi] 75);have HB:=QA hb;clear hb;cases b0:(x.toList==[42])with
 |true =>
  have hv:V' ⟨k,x,pl,fi⟩=true:=by simp only[V',QQ,b0];rfl
  rw[hv];clear hv HI;unfold VK;go_enter func88,ntmps88;go_wp2;go_ret;exact⟨rfl,HB.out⟩
 |false =>
 cases b1:(x.toList==[91])with
 |true =>
  have hv:V' ⟨k,x,pl,fi⟩=true:=by simp only[V',QQ,b0,b1];rfl
  rw[hv];clear hv HI;unfold VK;go_enter func88,ntmps88;go_wp2;go_ret;exact⟨rfl,HB.out⟩
 |false =>
 cases b2:(x.toList==[109,97,112])with
 |true =>
  have hv:V' ⟨k,x,pl,fi⟩=true:=by simp only[V',QQ,b0,b1,b2];rfl
  rw[hv];clear hv HI;unfold VK;go_enter func88,ntmps88;go_wp2;go_ret;exact⟨rfl,HB.out⟩
 |false =>
 cases b3:(x.toList==[115,116,114,117,99,116])with
 |true =>
  have hv:V' ⟨k,x,pl,fi⟩=true:=by simp only[V',QQ,b0,b1,b2,b3];rfl
  rw[hv];clear hv HI;unfold VK;go_enter func88,ntmps88;go_wp2;go_ret;exact⟨rfl,HB.out⟩
 |false =>
 have hv:V' ⟨k,x,pl,fi⟩=Je ⟨k,x,pl,fi⟩:=by simp only[V',QQ,b0,b1,b2,b3];rfl
 rw[hv];clear hv;generalize Je ⟨k,x,pl,fi⟩=bb at *;unfold VK at *;go_enter func88,ntmps88;go_wp2_with fail;refine c₁ (HI.out _) fun w1 hb1=>?_;have QJ:=QN HB hb1;clear hb1;go_wp2;go_ret;exact⟨rfl,QJ.out⟩
theorem Qv3(t:Tk)(w:World):Calls prog 110 #[VK t] w fun e w'=>e = ρ (τ (JM t))∧Below w.heap.size w w':=by
 have HI:=QA (fun W=>G4 t W);have HS:=QA (fun W=>gy t W);obtain⟨k,x,pl,fi⟩:=t;have hb:=(Below.refl w.heap.size w).alloc (Nat.le_refl _) (θ #[ι κ k,σ x,ι κ (pl:Int),τ fi] 75);have HB:=QA hb;clear hb;cases b0:(k==2)with
 |true =>
  have hv:JM ⟨k,x,pl,fi⟩=true:=by simp only[JM,QQ,b0];rfl
  rw[hv];clear hv HI HS;unfold VK;go_enter func110,ntmps110;go_wp2;go_ret;exact⟨rfl,HB.out⟩
 |false =>
 cases b1:(k==3)with
 |true =>
  have hv:JM ⟨k,x,pl,fi⟩=true:=by simp only[JM,QQ,b0,b1];rfl
  rw[hv];clear hv HI HS;unfold VK;go_enter func110,ntmps110;go_wp2;go_ret;exact⟨rfl,HB.out⟩
 |false =>
 cases b2:(x.toList==[40])with
 |true =>
  have hv:JM ⟨k,x,pl,fi⟩=true:=by simp only[JM,QQ,b0,b1,b2];rfl
  rw[hv];clear hv HI HS;unfold VK;go_enter func110,ntmps110;go_wp2;go_ret;exact⟨rfl,HB.out⟩
 |false =>
 have hv:JM ⟨k,x,pl,fi⟩=(Je ⟨k,x,pl,fi⟩||Q9 ⟨k,x,pl,fi⟩):=by simp only[JM,QQ,b0,b1,b2];rfl
 rw[hv];clear hv;generalize Q9 ⟨k,x,pl,fi⟩=b4 at *;generalize im:Je ⟨k,x,pl,fi⟩=b3 at *;clear im;unfold VK at *;cases b3 with
 |true=>clear HS;go_enter func110,ntmps110;go_wp2_with fail;refine c₁ (HI.out _) fun w1 hb1=>?_;have QJ:=QN HB hb1;clear hb1;go_wp2;go_ret;exact⟨rfl,QJ.out⟩
 |false=>have YS:Z1 (w.alloc (θ #[ι κ k,σ x,ι κ (pl:Int),τ fi] 75)) w.heap.size 75 (ι κ k) (σ x) (ι κ (pl:Int)) (τ fi):=Qv w _ _ _ _ _;have HX:=QA YS;clear YS;go_enter func110,ntmps110;go_wp2_with fail;refine c₁ (HI.out _) fun w1 hb1=>?_;have QJ:=QN HB hb1;obtain⟨x0,x1,x2,x3⟩:=(HX.out.later hb1).cells;clear hb1;go_wp2_with fail;refine c₁ (HS.out _) fun w2 hb2=>?_;have QR:=QN QJ hb2;clear hb2;go_wp2;go_ret;exact⟨rfl,QR.out⟩
theorem AO(k:Int)(x y:ByteArray)(c:F)(A:Option Addr)(n C:Nat)(w:World):Calls prog 127 #[ξ #[ι κ k,σ x,σ y,ς A n C]] w fun e w'=>e = ρ (τ (LB ⟨k,x,y,c⟩))∧Below w.heap.size w w':=by
 have hb:=(Below.refl w.heap.size w).alloc (Nat.le_refl _) (θ #[ι κ k,σ x,σ y,ς A n C] 24);have HB:=QA hb;clear hb;cases b0:(k==9)with
 |true =>
  have hv:LB ⟨k,x,y,c⟩=true:=by simp only[LB,b0];rfl
  rw[hv];clear hv;go_enter func127,ntmps127;go_wp2;go_ret;exact⟨rfl,HB.out⟩
 |false =>
 cases b1:(k==31)with
 |true =>
  have hv:LB ⟨k,x,y,c⟩=true:=by simp only[LB,b0,b1];rfl
  rw[hv];clear hv;go_enter func127,ntmps127;go_wp2;go_ret;exact⟨rfl,HB.out⟩
 |false =>
 cases b2:(k==32)with
 |true =>
  have hv:LB ⟨k,x,y,c⟩=true:=by simp only[LB,b0,b1,b2];rfl
  rw[hv];clear hv;go_enter func127,ntmps127;go_wp2;go_ret;exact⟨rfl,HB.out⟩
 |false =>
 cases b3:(k==28)with
 |false =>
  have hv:LB ⟨k,x,y,c⟩=false:=by simp only[LB,b0,b1,b2,b3];rfl
  rw[hv];clear hv;go_enter func127,ntmps127;go_wp2;go_ret;exact⟨rfl,HB.out⟩
 |true =>
 cases b4:(x.toList==[42])with
 |true =>
  have hv:LB ⟨k,x,y,c⟩=true:=by simp only[LB,b0,b1,b2,b3,b4];rfl
  rw[hv];clear hv;go_enter func127,ntmps127;go_wp2;go_ret;exact⟨rfl,HB.out⟩
 |false =>
  have hv:LB ⟨k,x,y,c⟩=false:=by simp only[LB,b0,b1,b2,b3,b4];rfl
  rw[hv];clear hv;go_enter func127,ntmps127;go_wp2;go_ret;exact⟨rfl,HB.out⟩
