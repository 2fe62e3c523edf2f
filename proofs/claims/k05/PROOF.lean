import PyProof.Rows.All
import Wide.All
import OpenK.AllK
import Wide.FinOn
import HandS.ForMost
import HandS.IsInst
import HandS.Zip
import HandS.Style
import HandS.Walk
import HandS.Flow
import HandS.Conv
import HandS.RaiseMore
import HandS.NoneIn
import HandS.WordsList
import HandS.Deep
import HandS.Exc
import HandS.ExcOwn
import HandS.WordsExc
import HandS.ExcInit
import HandS.ExcIs
import KE.KExcIs
import KE.KExcInit
import KE.KTryMore
import HandS.SortRule
import HandS.SortInts
import PySem.Challenge.RW_partnercall_k05_people_who_are_not_there
set_option Elab.async false
set_option linter.all false
set_option maxRecDepth 100000
set_option maxHeartbeats 4000000
namespace RZ
end RZ
namespace Pc
open PySem PySem.Spec PyProof.Rows L2 RZ
/-! ### heaps -/
/-- all that was tracked, but for b, is as it was -/
def Keep (b : Addr) (H H' : Hp) : Prop := ∀ a o, a ≠ b → H a = some o → H' a = some o
theorem Keep.refl (b : Addr) (H : Hp) : Keep b H H := fun _ _ _ h => h
theorem Keep.trans {b : Addr} {H H1 H2 : Hp} (p : Keep b H H1) (q : Keep b H1 H2) : Keep b H H2 := fun a o n h => q a o n (p a o n h)
theorem Keep.of_same {b : Addr} {H H' : Hp} (s : Same H H') : Keep b H H' := fun a o _ h => s a o h
theorem same_new {H : Hp} {p : Addr} {o : HO} (h : H p = none) : Same H (upd H p o) := fun b x e => by
  rw [upd_ne (ne_of_none e h)]; exact e
theorem keep_upd {H : Hp} {b : Addr} {o : HO} : Keep b H (upd H b o) := fun a x n e => by
  rw [upd_ne n]; exact e
/-- a list, a tuple under Keep -/
theorem Keep.tup {b : Addr} {H H' : Hp} (k : Keep b H H') {a : Addr} {xs ys : List V} (hb : H b = some (.lst ys)) (h : H a = some (.tup xs)) : H' a = some (.tup xs) :=
  k a _ (fun e => by rw [e, hb] at h; cases h) h
/-! ### small numbers -/
theorem one0 (c : Prop) [Decidable c] : (0 : Int) ≤ (if c then 1 else 0) ∧ (if c then (1 : Int) else 0) ≤ 1 := by
  split <;> decide
theorem in64 {i : Int} (h : 0 ≤ i ∧ i ≤ 1) : -(2 ^ 64) < i ∧ i < 2 ^ 64 := ⟨by omega, by omega⟩
/-! ### the source of draws -/
/-- at b a source that serves n more draws -/
def Box (n : Nat) (H : Hp) (b : Addr) : Prop := ∃ x y z : Int, H b = some (.lst [.int x, .int y, .int z]) ∧ 0 ≤ x ∧ 0 ≤ y ∧ y < 2 ^ 62 ∧ 0 ≤ z ∧ z + n ≤ 1000000000
theorem Box.lst {n : Nat} {H : Hp} {b : Addr} (h : Box n H b) : ∃ ys, H b = some (.lst ys) := let ⟨_, _, _, e, _⟩ := h; ⟨_, e⟩
theorem Box.mono {n m : Nat} {H : Hp} {b : Addr} (h : Box n H b) (l : m ≤ n) : Box m H b := by
  obtain ⟨x, y, z, e, h1, h2, h3, h4, h5⟩ := h
  exact ⟨x, y, z, e, h1, h2, h3, h4, by omega⟩
theorem Box.same {n : Nat} {H H' : Hp} {b : Addr} (h : Box n H b) (s : Same H H') : Box n H' b := by
  obtain ⟨x, y, z, e, r⟩ := h
  exact ⟨x, y, z, s _ _ e, r⟩
theorem Box.keep {n : Nat} {H H' : Hp} {b c : Addr} (h : Box n H b) (k : Keep c H H') (d : b ≠ c) : Box n H' b := by
  obtain ⟨x, y, z, e, r⟩ := h
  exact ⟨x, y, z, k _ _ d e, r⟩
theorem Box.ne_new {n : Nat} {H : Hp} {b p : Addr} (h : Box n H b) (np : H p = none) : b ≠ p := by
  obtain ⟨x, y, z, e, r⟩ := h
  exact ne_of_none e np
theorem Box.ne_tup {n : Nat} {H : Hp} {b p : Addr} {xs : List V} (h : Box n H b) (e2 : H p = some (.tup xs)) : p ≠ b := by
  obtain ⟨x, y, z, e, r⟩ := h
  intro q; rw [q, e] at e2; cases e2
end Pc
namespace Pc
open PySem PySem.Spec PyProof.Rows L2 RZ
/-! ### errors of the program: made -/
section
open PySem.W Builtin Builtin.ObjectAttr
variable {prog : Program} {w : World} {A : Around} {R : Result → Shared → Prop} {hp : Heap} {g : Array GenState} {d : Drawn} {t : Nat} {os : OsState} {B : String} {bmB : List Value}
/-- the first field of an error that has no dict yet -/
theorem osa_first {K : Frag} {f : Str} {tk : Tok} {v : Value} {x C : Addr} {fv : Array Value} {cd : ClassData} (SF : StoreFacts B bmB "object.__setattr__" "object") (X : K.In hp)
    (hx : hp.get? x = some { cls := .ref C, data := .fields fv }) (hcd : clsIn K C = some cd) (ho : excOver K C bmB = true) (hh : cd.hasDict = true) (hf : takerIn K C f = some none)
    (hq : ∀ h' tk' dx, (∀ b o, b ≠ x → hp.get? b = some o → h'.get? b = some o) → hp.objs.size ≤ dx → dx ≠ x →
      h'.get? x = some { cls := .ref C, dict := some dx, data := .fields fv } → h'.Ns1 dx (fun y => if y = f then some v else none) → R (.ok (.ret .none)) ⟨h', g, d, tk', os⟩) :
    codeAny (model prog w) A (.call (.builtin "object.__setattr__") ⟨[.ref x, .str f tk, v], []⟩) R ⟨hp, g, d, t, os⟩ := by
  have hne : x ≠ hp.objs.size := fun e => absurd (Heap.lt_size hx) (by rw [← e]; exact Nat.lt_irrefl x)
  have LC : Looks (model prog w) hp (classData C) cd := looks_clsIn X hcd
  refine osa_openX (s := ⟨hp, g, d, t, os⟩) (od := none) SF X ⟨hx, rfl, rfl, trivial⟩ ho hf fun b => ?_
  obtain ⟨c1, c2, c3, c4, c5, c6, c7, c8, c9, c10, c11⟩ := cd
  dsimp only at hh; subst hh
  dsimp only
  unfold storeInOwnDict ownDictForStores
  repeat (first | with_reducible refine HandSPX.store_in_new ?_ ?_ | with_reducible refine wpAny_loadPart_at hx ?_ | with_reducible refine LC.at ?_ | wp_step)
  · exact ⟨_, #[], _, (Heap.get?_update_ne _ _ _ _ hne.symm).trans (Heap.get?_push_at rfl rfl), rfl, fun e he => absurd he (by simp), fun _ => rfl⟩
  · intro h' tk' n1 n2
    refine hq h' tk' hp.objs.size (fun b o q r => ?_) (Nat.le_refl _) hne.symm ?_ n1
    · exact (n2.2 b (Nat.ne_of_lt (Heap.lt_size r))).trans ((Heap.get?_update_ne _ _ _ _ q).trans (Heap.get?_push_of_some _ r))
    · exact (n2.2 x hne).trans (Heap.get?_update_self _ (Heap.get?_push_of_some _ hx) rfl)
end
/-- what is known of a built-in error class -/
structure Bs (B newId initId : String) (bmB : List Value) : Prop where
  fb : ExcBaseFacts B newId initId bmB
  sf : StoreFacts B bmB "object.__setattr__" "object"
theorem bsV : Bs "ValueError" "ValueError.__new__" "ValueError.__init__" [.type "ValueError", .type "Exception", .type "BaseException", .type "object"] := ⟨F.excBase_ValueError, F.store_ValueError⟩
theorem bsL : Bs "LookupError" "LookupError.__new__" "LookupError.__init__" [.type "LookupError", .type "Exception", .type "BaseException", .type "object"] := ⟨F.excBase_LookupError, F.store_LookupError⟩
theorem bsR : Bs "RuntimeError" "RuntimeError.__new__" "RuntimeError.__init__" [.type "RuntimeError", .type "Exception", .type "BaseException", .type "object"] := ⟨F.excBase_RuntimeError, F.store_RuntimeError⟩
theorem bsO : Bs "OverflowError" "OverflowError.__new__" "OverflowError.__init__" [.type "OverflowError", .type "ArithmeticError", .type "Exception", .type "BaseException", .type "object"] := ⟨F.excBase_OverflowError, F.store_OverflowError⟩
/-- an error class of the program, straight over a built-in one -/
structure Own (K : PySem.W.Frag) (newId : String) (bmB : List Value) (C : Addr) : Prop where
  cls : ∃ nm q N bs sn sub ab col dd k0 k1 k2 k3 k5, K.lookup C = some (excClassObj nm q C N bs bmB true sn sub ab col dd k0 k1 k2 k3 k5 newId)
  over : PySem.W.excOver K C bmB = true
  sa : PySem.W.findIn K (.ref C) "__setattr__" = some (some (.builtin "object.__setattr__"))
  ga : PySem.W.findIn K (.ref C) "__getattribute__" = some (some (.builtin "BaseException.__getattribute__"))
  gg : PySem.W.findIn K (.ref C) "__getattr__" = some none
  exC : PySem.W.subIn K (.ref C) (.type "BaseException") = some true
  tyC : PySem.W.typeIn K (.ref C) = some (.type "type")
  kC : PySem.W.keepIn K (.ref C) = true
  hdC : PySem.W.hasDictIn K C = true
  clC : PySem.W.findIn K (.ref C) "__class__" = some (some (.builtin "object.__class__"))
  mrO : PySem.W.mroIn K C (.type "object") = some true
theorem Own.data {K : PySem.W.Frag} {newId : String} {bmB : List Value} {C : Addr} (T : Own K newId bmB C) : ∃ cd, PySem.W.clsIn K C = some cd ∧ cd.hasDict = true := by
  obtain ⟨nm, q, N, bs, sn, sub, ab, col, dd, k0, k1, k2, k3, k5, e⟩ := T.cls
  refine ⟨{ name := nm, bases := bs, mro := .ref C :: bmB, ns := N, qualname := q, hasDict := true, slotNames := sn, subclasses := sub, abstract := ab, collection := col, hasDel := false }, ?_, rfl⟩
  unfold PySem.W.clsIn
  rw [e] <;> rfl
theorem taker_of {K : PySem.W.Frag} {C : Addr} {f : Str} (h : PySem.W.findIn K (.ref C) f = some none) : PySem.W.takerIn K C f = some none := by
  unfold PySem.W.takerIn
  rw [h]; rfl
section
variable {X : Cx} {pins : List (Addr × Obj)} {σ : L2.St} {H H1 H2 : Hp} {s : Shared} {a C dx : Addr} {f : Str} {newId initId B : String} {bmB : List Value}
/-- an object that stands in the heap, untracked and not of the entry, is tracked from now on -/
theorem adopt {o : HO} (I : Inv X pins σ H s) (hn : H a = none) (n0 : X.s_0.heap.get? a = none) (nL : a ≠ X.env.locals) (nC : ∀ x c, X.env.cells.lookup x = some c → c ≠ a) (nP : ∀ p ∈ X.pn ++ pins, p.1 ≠ a)
    (new : ObjOk X.prog X.w (upd H a o) s.heap a o) : Inv X pins σ (upd H a o) s := by
  have up : ∀ {b : Addr} {u : HO}, H b = some u → upd H a o b = some u := fun {b u} e => by rw [upd_ne (ne_of_none e hn)]; exact e
  refine ⟨I.ok, I.os, I.bare, ⟨I.base.keep, I.base.slot, fun b q e n x => ?_, I.base.there, fun b xs e => up (I.base.tups b xs e), fun b q u e => up (I.base.frzs b q u e), fun b ps e => ?_⟩, I.loc, I.cell, ?_, fun x c e => ?_, fun p hp => ?_, fun b u e => ?_, I.len⟩
  · rw [upd_ne (fun z => by rw [z, n0] at e; cases e)]
    exact I.base.free b q e n x
  · obtain ⟨m, z⟩ := I.base.tbls b ps e
    exact ⟨m, up z⟩
  · rw [upd_ne (Ne.symm nL)]; exact I.free
  · rw [upd_ne (nC x c e)]; exact I.freeC x c e
  · obtain ⟨e, n, r⟩ := I.pin p hp
    exact ⟨e, by rw [upd_ne (nP p hp)]; exact n, r⟩
  · by_cases hb : b = a
    · subst hb
      rw [upd_same] at e; cases e
      exact new
    · rw [upd_ne hb] at e
      exact (I.hok b u e).stay (fun _ _ _ z => z) (fun c z => up z) (fun c xs z => up z)
theorem low_ne {n : Nat} {b a : Addr} (h : b < n) (h' : n ≤ a) : b ≠ a := Nat.ne_of_lt (Nat.lt_of_lt_of_le h h')
theorem get_lt_size {h : Heap} {b : Addr} {o : Obj} (e : h.get? b = some o) : b < h.objs.size := Heap.lt_size e
/-- self.f = y -/
theorem ost_one {y : V} {u : Value} {Q : Unit → Shared → Prop} {E : Value → Shared → Prop} {A : Around} (T : Own X.K newId bmB C) (SF : StoreFacts B bmB "object.__setattr__" "object") (I : Inv X pins σ H s) (e : H a = some (exo a C none)) (hno : PySem.W.findIn X.K (.ref C) f = some none) (ry : RelV y u)
    (h : ∀ dx s', H dx = none → dx ≠ a → Inv X pins σ (upd (upd H a (exo a C (some dx))) dx (exd dx [(f, y)])) s' → Q () s') : wpAny (model X.prog X.w) A (setAttr (.ref a) f u) Q E s := by
  obtain ⟨cd, hcd, hh⟩ := T.data
  obtain ⟨t1, ho⟩ := exo_at I.hok e
  obtain ⟨hp, g, d, t, os⟩ := s
  refine PySem.W.set_plain I.kIn (ox := { cls := .ref C, dict := none, data := .fields #[.ref t1, .none, .none, .none, .bool false, .none] }) (od := none) ⟨ho, rfl, rfl, trivial⟩ T.sa ?_
  refine osa_first SF I.kIn ho hcd T.over hh (taker_of hno) fun h' tk' dx k dn dne hx hns => ?_
  have hnd : H dx = none := I.hok.fresh dn
  have J := I.write (t' := tk') (x := a) (e := a) (o := exo a C (some dx)) (by rw [e]; exact True.intro) (.inl rfl) k ⟨_, hx⟩ (exo_ok hx)
  refine h dx _ hnd dne (adopt J (by rw [upd_ne dne]; exact hnd) ?_ ?_ ?_ ?_ (exd_ok hns (relO_put (fs := []) ry fun _ => True.intro)))
  · cases z : X.s_0.heap.get? dx with
    | none => rfl
    | some o => exact absurd rfl (low_ne (Nat.lt_of_lt_of_le (Heap.lt_size z) I.sz) dn)
  · exact Ne.symm (low_ne I.lt dn)
  · intro x c ec
    obtain ⟨v, ob, eo, _⟩ := I.cell x c ec
    exact low_ne (Heap.lt_size eo) dn
  · intro p hp'
    exact low_ne (Heap.lt_size (I.pin p hp').1) dn
/-- B.__init__(self, ..) -/
theorem oinit_any {us : List Value} {Q : Value → Shared → Prop} {E : Value → Shared → Prop} {A : Around} (T : Own X.K newId bmB C) (F : ExcBaseFacts B newId initId bmB) (I : Inv X pins σ H s) (e : H a = some (exo a C none)) (hl : us.length ≤ sizeLine) (h : ∀ s', Inv X pins σ H s' → Q .none s') :
    wpAny (model X.prog X.w) A (call (.builtin initId) (.ref a :: us)) Q E s := by
  obtain ⟨nm, q, N, bs, sn, sub, ab, col, dd, k0, k1, k2, k3, k5, hC⟩ := T.cls
  obtain ⟨t1, ho⟩ := exo_at I.hok e
  obtain ⟨hp, g, d, t, os⟩ := s
  refine wpAny_call (HandSPX.init_base F (fun _ => rfl) (I.kIn _ _ hC) ho hl fun h' t2 k hx => ?_)
  have J := I.write (t' := t) (x := a) (e := a) (o := exo a C none) (by rw [e]; exact True.intro) (.inl rfl) k ⟨_, hx⟩ (exo_ok hx)
  have eu : upd H a (exo a C none) = H := by
    funext b
    unfold upd
    split
    · rename_i z; rw [z, e]
    · rfl
  rw [eu] at J
  exact h _ J
def tBi (K : PySem.W.Frag) (newId : String) (bmB : List Value) (ta : TA) : TE := fun σ H Q => ta σ H fun vs H1 => ∃ (a C : Addr) (ws : List V), vs = .ref a :: ws ∧ ws.length ≤ 1000 ∧ Own K newId bmB C ∧ H1 a = some (exo a C none) ∧ Q .non H1
def tOs (K : PySem.W.Frag) (newId : String) (bmB : List Value) (f : Str) (to te : TE) : TS := fun D σ H => te σ H fun y H1 => to σ H1 fun x H2 => ∃ a C : Addr, x = .ref a ∧ Own K newId bmB C ∧ PySem.W.findIn K (.ref C) f = some none ∧ H2 a = some (exo a C none) ∧
  ∀ dx, H2 dx = none → dx ≠ a → D.nx σ (upd (upd H2 a (exo a C (some dx))) dx (exd dx [(f, y)]))
theorem pe_binit {n : Str} {o e : Expr} {es : List Expr} {ta : TA} {p1 p2 pos : Pos} {pl : Sem Bool} (F : ExcBaseFacts B newId initId bmB) (hg : Gl X n) (hm : X.mg n = none) (hv : bootBuiltins n = some (.type B)) (hn : n ≠ "__name__") (hdb : (n == ("__debug__" : Str)) = false)
    (hty : typeOf (.type B) = pure (.type "type")) (hst : Manifest.isStub B = false) (hha : PySem.W.handedIn (.builtin initId) = true) (vV : PySem.W.findCls X.K (.type B) (.type "type") "__init__" = some (.val (.builtin initId))) (ha : PA X (e :: es) ta)
    (hc : eval (.Call (.Attribute (.Name n p1) "__init__" p2) (e :: es) [] pos) X.env = (do
      let ov ← eval (.Name n p1) X.env
      standAt p2.atName
      let (f, first) ← holding [ov] (getMethod ov "__init__" pl)
      callWith pos f first (backTo pos (starEach (e :: es) X.env)) (backToKw pos (keywordEach [] X.env))) := by rfl)
    (he : starEach (e :: es) X.env = (false, eval e X.env) :: starEach es X.env := by rfl) (hpl : (backTo pos (starEach es X.env)).any (·.1) = false := by rfl) :
    PE X (.Call (.Attribute (.Name n p1) "__init__" p2) (e :: es) [] pos) (tBi X.K newId bmB ta) := by
  refine ⟨fun pins s σ H Q I h => PySem.W.methodCall_KW (ld_blt I hg hm hv ?_ hn hdb) hc⟩
  obtain ⟨m, fr⟩ := I.fr
  refine PySem.W.method_type fr I.ok.mod.kin hty hst vV hha ?_
  show wpAny _ _ (callWith pos (Value.builtin initId) [] (backTo pos (starEach (e :: es) X.env)) []) _ _ _
  refine PyProof.Rows.callWith_method1 (thn (ha.run pos pins _ σ H _ (I.tok _) h) fun us s1 ⟨vs, H1, I1, r1, a, C, ws, ev, hl, T, ea, q⟩ => ?_) he hpl
  subst ev
  cases r1 with
  | @cons _ u0 _ ur ra rr =>
    obtain rfl : u0 = Value.ref a := ra
    exact oinit_any T F I1 ea (by rw [← Paired.length rr, sizeLine_eq]; omega) fun s' J => ⟨.non, H1, J, rfl, q⟩
theorem ps_os {o e : Expr} {to te : TE} {p' pos : Pos} (SF : StoreFacts B bmB "object.__setattr__" "object") (ho : PE X o to) (he : PE X e te) (hs : swapsWith e (some (.Attribute o f p')) pos.line X.env = pure false := by rfl) : PS X (.Assign [.Attribute o f p'] e pos) (tOs X.K newId bmB f to te) := by
  refine ⟨fun pins s σ H D I h => plainObj_wpAny_Assign_Attribute (thn (he.run pins s σ H _ I h) fun v s1 ⟨y, H1, I1, r1, q1⟩ => thn (ho.run pins s1 σ H1 _ I1 q1) fun u s2 ⟨x, H2, I2, r2, a, C, ex, T, hno, ea, q⟩ => ?_) hs⟩
  subst ex
  obtain rfl : u = Value.ref a := r2
  exact ost_one T SF I2 ea hno r1 fun dx s' n ne J => ⟨σ, _, J, q dx n ne⟩
/-- the new error is let go: the heap without it -/
theorem mk_gone {hp hp2 h2 : Heap} {g1 g2 : Array GenState} {d1 d2 : Drawn} {t1 t2 : Nat} {os1 os2 : OsState} {dv : Option Addr} (I1 : Inv X pins σ H1 ⟨hp, g1, d1, t1, os1⟩)
    (ha : hp.objs.size ≤ a) (k : ∀ b o, hp.get? b = some o → hp2.get? b = some o) (un : Un (frs X.stack) [] (upd H1 a (exo a C none)) H2 hp2 h2) (hok : HOk X.prog X.w H2 h2) (ho : os2 = os1) (hb : AllBare g2) (ea : H2 a = some (exo a C dv)) :
    ∃ (t0 : Addr) (G : Heap), Inv X pins σ (del H2 a) ⟨G, g2, d2, t2, os2⟩ ∧ (∀ b o, G.get? b = some o → h2.get? b = some o) ∧ G.get? a = none ∧
      h2.get? a = some ({ cls := .ref C, dict := dv, data := .fields #[.ref t0, .none, .none, .none, .bool false, .none] } : Obj) := by
  obtain ⟨t0, hoe⟩ := exo_at hok ea
  have hn : H1 a = none := I1.hok.fresh ha
  obtain ⟨G, g1', g2'⟩ := restrict h2 fun b => decide (b ≠ a)
  have gk : ∀ b, b ≠ a → G.get? b = h2.get? b := fun b q => g1' b (decide_eq_true q)
  have ga : G.get? a = none := g2' a (decide_eq_false (fun z => z rfl))
  have na : ∀ {b : Addr} {o : Obj}, hp.get? b = some o → b ≠ a := fun q => low_ne (Heap.lt_size q) ha
  have up : ∀ {b : Addr}, b ≠ a → H1 b = none → upd H1 a (exo a C none) b = none := fun q n => by rw [upd_ne q]; exact n
  have tr : ∀ {b : Addr} {u : HO}, H1 b = some u → upd H1 a (exo a C none) b = some u ∧ b ≠ a := fun q => ⟨by rw [upd_ne (ne_of_none q hn)]; exact q, ne_of_none q hn⟩
  have U : Un (frs X.stack) [] H1 (del H2 a) hp G := {
    keep := fun b o z n hf hx => by rw [gk b (na z)]; exact un.keep b o (k b o z) (up (na z) n) hf hx
    slot := fun b o z n hf hx => by rw [gk b (na z)]; exact un.slot b o (k b o z) (up (na z) n) hf hx
    free := fun b o z n hx => by rw [del_ne (na z)]; exact un.free b o (k b o z) (up (na z) n) hx
    there := fun b o z hx => by rw [gk b (na z)]; exact un.there b o (k b o z) hx
    tups := fun b xs z => by rw [del_ne (tr z).2]; exact un.tups b xs (tr z).1
    frzs := fun b o v z => by rw [del_ne (tr z).2]; exact un.frzs b o v (tr z).1
    tbls := fun b ps z => by rw [del_ne (tr z).2]; exact un.tbls b ps (tr z).1 }
  have hok3 : HOk X.prog X.w (del H2 a) G := fun b o z => by
    have hba : b ≠ a := fun e => by rw [e, del_same] at z; cases z
    rw [del_ne hba] at z
    have noa : ∀ {c : Addr}, H2 c = some (.own b) → c ≠ a := fun hc => at_ne ea hc exo_own
    refine (hok b o z).stay (fun c v hc y => ?_) (fun c hc => by rw [del_ne (noa hc)]; exact hc) (fun c xs hc => by rw [del_ne (at_ne ea hc exo_tup)]; exact hc)
    have hca : c ≠ a := hc.elim (fun q => by rw [q]; exact hba) noa
    rw [gk c hca]; exact y
  have J : Inv X pins σ (del H2 a) ⟨G, g2, d2, t2, os2⟩ := I1.call' (ch := []) ho U hok3 hb (fun b z => absurd z (by simp))
  refine ⟨t0, G, J, fun b o z => ?_, ga, hoe⟩
  by_cases hba : b = a
  · rw [hba, ga] at z; cases z
  · exact (gk b hba).symm.trans z
/-- C(e, ..), C's own __init__ keeping sp -/
def tMkE (C : Addr) (sp : Sp) (ta : TA) : L2.St → Hp → XK → Prop := fun σ H Q => ta σ H fun vs H1 => vs.length ≤ 1000 ∧ ∀ a, H1 a = none → sp (.ref a :: vs) (upd H1 a (exo a C none))
  (fun v H2 => v = .non ∧ ((H2 a = some (exo a C none) ∧ Q (.ref C) none (del H2 a)) ∨ ∃ (d : Addr) (fs : List (Str × V)), H2 a = some (exo a C (some d)) ∧ H2 d = some (exd d fs) ∧ Q (.ref C) (some d) (upd (del H2 a) d (.xd fs)))) (fun _ _ _ => False)
/-- what such a call leaves -/
theorem made_run {vs : List V} {us : List Value} {fI : Addr} {k : Nat} {fd : FuncData} {ps : List Str} {sp : Sp} {Q : XK} {CX : CXT} (T : Own X.K newId bmB C) (F : ExcBaseFacts B newId initId bmB) (iC : PySem.W.findIn X.K (.ref C) "__init__" = some (some (.ref fI))) (tI : PySem.W.typeIn X.K (.ref fI) = some (.type "function"))
    (F1 : FnOk X.prog X.w X.K X.mg X.base CX k fI fd ps sp) (hr : Room (k + 1) X.A) (hb : Binds X.K fd ps []) (hx : Passes CX X (fun _ _ _ => False)) (I1 : Inv X pins σ H1 s) (r1 : Vals vs us) (hz : vs.length ≤ 1000)
    (q1 : ∀ a, H1 a = none → sp (.ref a :: vs) (upd H1 a (exo a C none)) (fun v H2 => v = .non ∧ ((H2 a = some (exo a C none) ∧ Q (.ref C) none (del H2 a)) ∨ ∃ (d : Addr) (fs : List (Str × V)), H2 a = some (exo a C (some d)) ∧ H2 d = some (exd d fs) ∧ Q (.ref C) (some d) (upd (del H2 a) d (.xd fs)))) (fun _ _ _ => False)) :
    wpAny (model X.prog X.w) X.A (call (.ref C) us) (MkP X pins σ Q) X.xe s := by
  obtain ⟨nm, q, N, bs, sn, sub, ab, col, dd, k0, k1, k2, k3, k5, hC⟩ := T.cls
  obtain ⟨hp, g, dr, tk, os⟩ := s
  have hsz : hp.objs.size ≤ hp.objs.size + 1 := Nat.le_succ _
  have hq := q1 (hp.objs.size + 1) (I1.hok.fresh hsz)
  obtain ⟨hp2, ehp⟩ : ∃ hp2, hp2 = (hp.push (PySem.W.kdv_tup us)).push (HandSPX.excO C hp.objs.size) := ⟨_, rfl⟩
  have kk : ∀ b o, hp.get? b = some o → hp2.get? b = some o := fun b o e => by rw [ehp]; exact Heap.get?_push_of_some _ (Heap.get?_push_of_some _ e)
  have hget : hp2.get? (hp.objs.size + 1) = some (HandSPX.excO C hp.objs.size) := by rw [ehp]; heap_get
  have I2 : Inv X pins σ (upd H1 (hp.objs.size + 1) (exo (hp.objs.size + 1) C none)) ⟨hp2, g, dr, tk, os⟩ := I1.laid (t' := tk) kk hsz (exo_ok hget)
  have r2 : Vals (V.ref (hp.objs.size + 1) :: vs) (Value.ref (hp.objs.size + 1) :: us) := .cons rfl r1
  have hl : (Value.ref (hp.objs.size + 1) :: us ++ []).length = ps.length := by
    rw [List.append_nil, ← r2.length]; exact F1.len _ _ _ _ hq
  have hus : us.length ≤ sizeLine := by rw [← Paired.length r1, sizeLine_eq]; omega
  refine wpAny_call (HandSPX.call_own F (fun _ => rfl) (I1.kIn _ _ hC) (PySem.W.looks_findIn I1.kIn iC) (fun self => PySem.W.bind_fn I1.kIn self tI) hus ?_)
  rw [← ehp]
  refine codeAny_mono (F1.run _ X.stack _ _ ⟨Value.ref (hp.objs.size + 1) :: us, []⟩ (Value.ref (hp.objs.size + 1) :: us) _ _ (fun _ _ _ => False) (hr.make C us []) (I2.env0.make C us []) ?_ r2 hq) fun r s' hq' => ?_
  · have z := hb ⟨hp2, g, dr, tk, os⟩ (Value.ref (hp.objs.size + 1) :: us) I2.kIn hl
    rw [List.append_nil] at z; exact z
  cases r with
  | error er => exact hx pins σ _ _ er s' I2 hq'
  | ok fl =>
    cases fl with
    | ret u =>
      obtain ⟨v, H2, os2, bare2, un2, hok2, rv, ev, alt⟩ := hq'
      subst ev
      obtain ⟨h2, g2, d2, t2, os'⟩ := s'
      refine ⟨rv, ?_⟩
      rcases alt with ⟨ea, q2⟩ | ⟨d, fs, ea, ed, q2⟩
      · obtain ⟨t0, G, J, kG, ge, hoe⟩ := mk_gone (d2 := d2) (t2 := t2) I1 hsz kk un2 hok2 os2 bare2 ea
        exact ⟨_, _, _, ⟨G, g2, d2, t2, os'⟩, _, .ref C, none, rfl, J, kG, ge, hoe, ⟨rfl, rfl⟩, rfl, rfl, del_same, rfl, bare2, raises_own T.exC T.tyC, q2⟩
      · obtain ⟨t0, G, J, kG, ge, hoe⟩ := mk_gone (d2 := d2) (t2 := t2) I1 hsz kk un2 hok2 os2 bare2 ea
        have hda : d ≠ hp.objs.size + 1 := fun z => by
          rw [z] at ed
          obtain ⟨mA, ⟨ob, es, ep, e1, e2, _⟩, _⟩ := exd_at hok2 ed
          rw [hoe] at e1
          have z2 := Option.some.inj e1
          subst z2
          cases e2
        have ed' : del H2 (hp.objs.size + 1) d = some (exd d fs) := by rw [del_ne hda]; exact ed
        obtain ⟨mA, ns, rel⟩ := exd_at J.hok ed'
        have J2 := J.write (t' := t2) (h' := G) (x := d) (e := d) (o := .xd fs) (by rw [ed']; exact True.intro) (.inl rfl) (fun _ _ _ z => z) (by obtain ⟨ob, _, _, e1, _⟩ := ns; exact ⟨ob, e1⟩) ⟨mA, ns, rel⟩
        exact ⟨_, _, _, ⟨G, g2, d2, t2, os'⟩, _, .ref C, some d, rfl, J2, kG, ge, hoe, ⟨rfl, rfl⟩, rfl, rfl, by rw [upd_ne (Ne.symm hda)]; exact del_same, rfl, bare2, raises_own T.exC T.tyC, q2⟩
    | next => exact False.elim hq'
    | brk => exact False.elim hq'
    | cont => exact False.elim hq'
theorem pmk_e {x : Str} {fI : Addr} {k : Nat} {fd : FuncData} {ps : List Str} {sp : Sp} {CX : CXT} {e : Expr} {es : List Expr} {ta : TA} {p pos : Pos} (T : Own X.K newId bmB C) (F : ExcBaseFacts B newId initId bmB) (iC : PySem.W.findIn X.K (.ref C) "__init__" = some (some (.ref fI))) (tI : PySem.W.typeIn X.K (.ref fI) = some (.type "function"))
    (F1 : FnOk X.prog X.w X.K X.mg X.base CX k fI fd ps sp) (hr : Room (k + 1) X.A) (hb : Binds X.K fd ps []) (hx : Passes CX X (fun _ _ _ => False)) (hg : Gl X x) (hm : X.mg x = some (.ref C)) (ha : PA X (e :: es) ta)
    (hdb : (x == ("__debug__" : Str)) = false := by decide) (he : starEach (e :: es) X.env = (false, eval e X.env) :: starEach es X.env := by rfl) (hpl : (backTo pos (starEach es X.env)).any (·.1) = false := by rfl) :
    PMk X (.Call (.Name x p) (e :: es) [] pos) (tMkE C sp ta) := by
  intro pins s σ H Q I h
  refine wpAny_Call_Name_kw (ld_glob I hg hm ?_ hdb)
  exact PySem.W.callWith_K (h₀ := X.base) I.ok.mod.kin T.kC (thn (ha.run pos pins s σ H _ I h) fun us s1 ⟨vs, H1, I1, r1, hz, q1⟩ => ⟨I1.kIn, made_run T F iC tI F1 hr hb hx I1 r1 hz q1⟩) he hpl
end
end Pc
namespace Pc
open PySem PySem.Spec PyProof.Rows L2 RZ
/-! ### errors of the program: caught, kept, looked at -/
section
open PySem.W
variable {M : Model} {K : Frag} {h : Heap}
theorem Looks.bind' {α β : Type} {x : Sem α} {f : α → Sem β} {a : α} {b : β} (hx : Looks M h x a) (hf : Looks M h (f a) b) : Looks M h (x >>= f) b := fun A Q E s k q =>
  wpAny_bind (hx A _ E s k (hf A Q E s k q))
theorem loop_all {α β : Type} {f : α → β → Sem (ForInStep β)} {b : β} : ∀ cs : List α, (∀ c ∈ cs, Looks M h (f c b) (.yield b)) → Looks M h (forIn cs b f) b
  | [], _ => by rw [List.forIn_nil]; exact .now
  | c :: cs, hc => by
    rw [List.forIn_cons]
    exact Looks.bind' (hc c List.mem_cons_self) (loop_all cs fun c' h' => hc c' (List.mem_cons_of_mem _ h'))
theorem loop_any {α β : Type} {f : α → β → Sem (ForInStep β)} {b b1 : β} : ∀ (bs : List Bool) (cs : List α), bs.length = cs.length → bs.any id = true → (∀ (i : Nat) (c : α) (y : Bool), cs[i]? = some c → bs[i]? = some y → Looks M h (f c b) (if y = true then .done b1 else .yield b)) → Looks M h (forIn cs b f) b1
  | [], [], _, e, _ => absurd e (by decide)
  | y :: bs, c :: cs, hl, e, hc => by
    rw [List.forIn_cons]
    have h0 := hc 0 c y rfl rfl
    cases y with
    | true => exact Looks.bind' h0 .now
    | false => exact Looks.bind' h0 (loop_any bs cs (Nat.succ.inj hl) e fun i c' y' h1 h2 => hc (i + 1) c' y' h1 h2)
/-- an except clause with several classes, of which one is the error's -/
theorem exm_some {cls : Value} {cs : List Value} {tp e : Addr} {o : Obj} {n : Nat} (X : K.In h) (LT : Looks M h (typeOf (.ref e)) cls) (hp : h.get? tp = some o) (hc : o.cls = .type "tuple") (hd : o.data = .seq cs.toArray n) (bs : List Bool) (hl : bs.length = cs.length) (hb : bs.any id = true)
    (hx : ∀ (i : Nat) (c : Value) (y : Bool), cs[i]? = some c → bs[i]? = some y → exmOne K cls c = some y) : Looks M h (excMatches (.ref e) (.ref tp)) true := by
  have at_ : ∀ c ∈ cs, ∃ y, exmOne K cls c = some y := fun c hm => by
    obtain ⟨i, hi, rfl⟩ := List.getElem_of_mem hm
    exact ⟨bs[i]'(by omega), hx i _ _ (List.getElem?_eq_getElem hi) (List.getElem?_eq_getElem _)⟩
  have L0 : Looks M h (isInstance (.ref tp) (.type "tuple")) true := fun A Q E s k q => by
    refine wpAny_bind (wpAny_typeOf_ref (k _ _ hp) ?_)
    rw [hc]
    exact (Looks.of_pure isSubtype_tuple_tuple) A Q E s k q
  unfold excMatches
  refine Looks.bind' L0 ?_
  dsimp only
  rw [if_pos rfl]
  refine Looks.bind' (a := some cs.toArray) (fun A Q E s k q => wpAny_seqItems (k _ _ hp) hd q) ?_
  refine Looks.bind' (a := cs) .now ?_
  refine Looks.bind' (a := PUnit.unit) (loop_all cs fun c hm => ?_) ?_
  · obtain ⟨y, hy⟩ := at_ c hm
    refine Looks.bind' (exm_cls X hy).1 ?_
    exact .now
  refine Looks.bind' LT ?_
  refine Looks.bind' (loop_any (b1 := (some true, ())) bs cs hl hb fun i c y h1 h2 => Looks.bind' (exm_cls X (hx i c y h1 h2)).2 ?_) ?_
  · cases y <;> exact .now
  · exact .now
end
end Pc
namespace Pc
open PySem PySem.Spec PyProof.Rows L2 RZ
/-- an error that was caught and is kept: its class, its dict -/
def exk (a : Addr) (cls : Value) (d : Option Addr) : HO := .ext fun h => ∃ (oe : Obj) (vs : Array Value), h.get? a = some oe ∧ Zc cls d oe ∧ oe.data = .fields vs
theorem exk_ok {P : Program} {w : World} {H : Hp} {h : Heap} {a : Addr} {cls : Value} {d : Option Addr} {oe : Obj} {vs : Array Value} (e : h.get? a = some oe) (z : Zc cls d oe) (q : oe.data = .fields vs) : ObjOk P w H h a (exk a cls d) :=
  ⟨⟨oe, vs, e, z, q⟩, ⟨oe, e⟩, fun _ _ ⟨o, v, r, r'⟩ k => ⟨o, v, k o r, r'⟩⟩
theorem exk_at {P : Program} {w : World} {H : Hp} {h : Heap} {a : Addr} {cls : Value} {d : Option Addr} (hok : HOk P w H h) (e : H a = some (exk a cls d)) : ∃ (oe : Obj) (vs : Array Value), h.get? a = some oe ∧ Zc cls d oe ∧ oe.data = .fields vs := by
  have x : ObjOk P w H h a (.ext fun h => ∃ (oe : Obj) (vs : Array Value), h.get? a = some oe ∧ Zc cls d oe ∧ oe.data = .fields vs) := hok a _ e
  exact x.1
theorem fly_keeps {B h h' : Heap} {l : List PySem.Env} {e : Addr} {Z : Obj → Prop} (R : HandSPX.FlyingZ B l e Z h) (k : ∀ b o, h.get? b = some o → h'.get? b = some o) : HandSPX.FlyingZ B l e Z h' := by
  obtain ⟨f1, f2, f3, oe, ws, T, oT, ts, r1, r2, r3, r4, r5, r6, r7, r8⟩ := R
  exact ⟨fun b o q => k b o (f1 b o q), f2, f3.of_keeps fun b o q _ => ⟨o, k b o q, rfl⟩, oe, ws, T, oT, ts, k _ _ r1, r2, r3, r4, r5, r6, k _ _ r7, r8⟩
/-- names of classes, one by one -/
def NamesAll (X : Cx) (es : List Expr) (cs : List Value) : Prop := Paired (fun (e : Expr) c => ∃ (x : Str) (p : Pos), e = .Name x p ∧ Names X x c) es cs
theorem names_run {X : Cx} {pins : List (Addr × Obj)} {σ : L2.St} {H : Hp} {s : Shared} {E : Value → Shared → Prop} {pos : Pos} (I : Inv X pins σ H s) :
    ∀ {es : List Expr} {cs : List Value} {Q : List Value → Shared → Prop}, NamesAll X es cs → Q cs s → wpAny (model X.prog X.w) X.A (spliced (backTo pos (starEach es X.env))) Q E s
  | _, _, _, .nil, q => wpAny_items_nil q
  | _, _, _, .cons ⟨x, p, rfl, hg, hdb, hm⟩ r, q => by
    refine wpAny_items_cons ?_
    rcases hm with hm | ⟨hm, hv, hn⟩
    · exact ld_glob I hg hm (names_run I r q) hdb
    · exact ld_blt I hg hm hv (names_run I r q) hn hdb
/-- of which classes the error is -/
def Hits (K : PySem.W.Frag) (cls : Value) (cs : List Value) : Prop := ∃ bs : List Bool, bs.length = cs.length ∧ bs.any id = true ∧ ∀ (i : Nat) (c : Value) (y : Bool), cs[i]? = some c → bs[i]? = some y → PySem.W.exmOne K cls c = some y
/-- what 'except (..) as n: suite' wishes of an error of the body (slot i is n's): the error is kept -/
def wKept (K : PySem.W.Frag) (cs : List Value) (i : Nat) (ts : Addr → TS) (D : Ends) : WX := fun cls d σ H => Hits K cls cs ∧ ∀ a, H a = none →
  ts a { nx := fun σ' H' => D.nx (σ'.set i none) (upd H' a (exk a cls d)), rt := fun _ _ => False } (σ.set i (some (.ref a))) H
section
variable {X : Cx} {n : Str} {i : Nat} {body suite : List Stmt} {b₀ : Stmt} {es : List Expr} {cs : List Value} {kk : Nat} {tpos pos pos' : Pos} {tb : WX → TS} {ts : Addr → TS}
theorem ps_try_kept (hex : X.ex = []) (hs : X.stack = X.env :: X.outer) (hf : X.env.frame = some X.env.locals) (hN : X.N.Nodup) (hi : X.N[i]? = some n) (hln : X.env.kindOf n = some .local) (hc : NamesAll X es cs) (hcl : cs.length ≤ 1000)
    (hb : ∀ (W : WX) (pn : List (Addr × Obj)) (xe : Value → Shared → Prop), Takes (X.tr pn xe) W → PassesOwn (model X.prog X.w) X.A X.env xe → PSs (X.tr pn xe) body (tb W))
    (hsu : ∀ (a : Addr) (oe : Obj) (pn : List (Addr × Obj)), PSs (X.suite a ((a, oe) :: pn)) (b₀ :: suite) (ts a)) :
    PS X (.Try body [.ExceptHandler (some (.Tuple es kk tpos)) (some n) (b₀ :: suite) pos'] [] [] pos) (fun D σ H => tb (wKept X.K cs i ts D) D σ H) := by
  refine ⟨fun pins s σ H D I h => ?_⟩
  have ok := I.ok
  have hfr : X.A.frames = some (X.env :: X.outer) := by rw [ok.frames, hs]
  refine wpAny_Try_except (wpAny_mono ((hb (wKept X.K cs i ts D) (X.pn ++ pins) (fun e s₁ => wpAny (model X.prog X.w) X.A (noteFrame e X.env) (fun _ s₂ => wpAny (model X.prog X.w) X.A (setFlight e none) (fun _ s₃ =>
    wpAny (model X.prog X.w) X.A (handleBy e X.env [.ExceptHandler (some (.Tuple es kk tpos)) (some n) (b₀ :: suite) pos']) (SP X pins D) X.xe s₃) X.xe s₂) X.xe s₁) (fun u s' xx => ?_) PassesOwn.looking).run [] s σ H D (I.toTry _) h) (fun f s1 hsp => ?_) (fun e s1 he => he))
  · obtain ⟨a, B, sI, pins', σ', H', cls, d, rfl, J', nb, up, sky, na, os, ag, ⟨bs, hbl, hba, hbx⟩, hyes⟩ := xx
    have J : Inv X pins σ' H' sI := J'.ofTry ok
    rw [hs] at sky
    show wpAny (model X.prog X.w) X.A (noteFrame (.ref a) X.env) _ _ _
    refine Sky.land Zc.steady hfr hf sky fun h3 fl3 up3 => ?_
    obtain ⟨oe3, vs3, he3, hz3, hd3⟩ := fl3.there
    have nfr : a ∉ frs (X.env :: X.outer) := fun hm => by
      obtain ⟨_, o', e', hnf⟩ := fl3.2.2.1.mem hm
      rw [he3] at e'; cases e'
      exact hnf _ hd3
    have nL : a ≠ X.env.locals := fun z => nfr (List.mem_filterMap.mpr ⟨X.env, List.mem_cons_self, by rw [hf, z]⟩)
    have nF : a ∉ X.fs := fun hm => by
      obtain ⟨e, he, q⟩ := List.mem_filterMap.mp hm
      exact nfr (List.mem_filterMap.mpr ⟨e, List.mem_cons_of_mem _ he, q⟩)
    have nI : sI.heap.get? a = none := by
      cases z : sI.heap.get? a with
      | none => rfl
      | some o =>
        have y := nb a o z (by rw [hs]; exact nfr)
        rw [fl3.2.1] at y; cases y
    have J3 : Inv X pins σ' H' { s' with heap := h3 } := J.landed nb fl3.1 (up.trans up3) os ag
    have S3 := J3.suite he3 hd3 na nL nF
    refine wpAny_handleBy_cons (codeAny_handlers_test (wpAny_Tuple_spliced (names_run (X := X.suite a ((a, oe3) :: (X.pn ++ pins))) (cs := cs) S3 (L2.Paired.mapP hc fun _ _ z => z) ⟨by rw [sizeLine_eq]; omega, ?_⟩))) (by intro q; cases q)
    dsimp only
    have kp : ∀ b o, h3.get? b = some o → (h3.push { cls := .type "tuple", data := .seq cs.toArray }).get? b = some o := fun _ _ z => Heap.get?_push_of_some _ z
    have LT : PySem.W.Looks (model X.prog X.w) (h3.push { cls := .type "tuple", data := .seq cs.toArray }) (typeOf (.ref a)) cls := fun A Q E s k q => wpAny_typeOf_ref (k _ _ (kp _ _ he3)) (by rw [hz3.1]; exact q)
    refine (exm_some (J3.kIn.keeps kp) LT (Heap.get?_push_size h3 rfl) rfl rfl bs hbl hba hbx).here ?_
    refine codeAny_handlers_suite_as (HandSPX.lands_againZ (fly_keeps fl3 kp) fun h4 fl4 up4 => ?_)
    have J4 : Inv X pins σ' H' { s' with heap := h4 } := J.landed nb fl4.1 (((up.trans up3).trans (Heap.UpToSlots.of_keeps kp)).trans up4) os ag
    obtain ⟨oe4, vs4, he4, hz4, hd4⟩ := fl4.there
    have S4 := J4.suite he4 hd4 na nL nF
    refine store_ok (X := X.suite a ((a, oe4) :: (X.pn ++ pins))) (v := .ref a) S4 hN hi (.inl hln) rfl (fun s5 S5 => ?_) (.inr hln)
    refine wpAny_mono ((hsu a oe4 (X.pn ++ pins)).run [] s5 _ H' _ S5 (hyes a na)) (fun f s6 hsp => ?_) (fun _ _ z => False.elim z)
    cases f with
    | next =>
      obtain ⟨σ6, H6, S6, q6⟩ := hsp
      refine gone_ok (X := X.suite a ((a, oe4) :: (X.pn ++ pins))) S6 hN hi hln fun s7 S7 => ⟨_, _, adopt (S7.unsuite ok) ?_ ?_ nL ?_ ?_ ?_, q6⟩
      · exact (S7.pin (a, oe4) (List.mem_append_left _ List.mem_cons_self)).2.1
      · cases z : X.s_0.heap.get? a with
        | none => rfl
        | some o =>
          obtain ⟨o', y⟩ := J.base.there a o z (by rw [hex]; exact fun q => nomatch q)
          rw [nI] at y; cases y
      · intro x c ec z
        obtain ⟨v, ob, eo, _⟩ := J.cell x c ec
        rw [z, nI] at eo; cases eo
      · intro p hp z
        have y := (J.pin p hp).1
        rw [z, nI] at y; cases y
      · exact exk_ok (S7.pin (a, oe4) (List.mem_append_left _ List.mem_cons_self)).1 hz4 hd4
    | brk => obtain ⟨σ6, H6, S6, q6⟩ := hsp; exact q6.elim
    | cont => obtain ⟨σ6, H6, S6, q6⟩ := hsp; exact q6.elim
    | ret u => obtain ⟨v6, σ6, H6, S6, r6, q6⟩ := hsp; exact q6.elim
  · cases f with
    | next => obtain ⟨σ', H', J', q⟩ := hsp; exact wpAny_execs_nil ⟨σ', H', J'.ofTry ok, q⟩
    | brk => obtain ⟨σ', H', J', q⟩ := hsp; exact ⟨σ', H', J'.ofTry ok, q⟩
    | cont => obtain ⟨σ', H', J', q⟩ := hsp; exact ⟨σ', H', J'.ofTry ok, q⟩
    | ret u => obtain ⟨v, σ', H', J', r, q⟩ := hsp; exact ⟨v, σ', H', J'.ofTry ok, r, q⟩
end
end Pc
namespace Pc
open PySem PySem.Spec PyProof.Rows L2 RZ
/-- what isinstance asks of the class of a kept error -/
structure KeptC (K : PySem.W.Frag) (C : Addr) : Prop where
  ga : PySem.W.findIn K (.ref C) "__getattribute__" = some (some (.builtin "BaseException.__getattribute__"))
  gg : PySem.W.findIn K (.ref C) "__getattr__" = some none
  exC : PySem.W.subIn K (.ref C) (.type "BaseException") = some true
  hdC : PySem.W.hasDictIn K C = true
  clC : PySem.W.findIn K (.ref C) "__class__" = some (some (.builtin "object.__class__"))
  mrO : PySem.W.mroIn K C (.type "object") = some true
  sp : PySem.W.specialIn K (.builtin "object.__class__") "__get__" = some (some (.builtin "getset_descriptor.__get__"))
  tk : PySem.W.takesIn K (.builtin "object.__class__") = some true
/-- a kept error with its dict -/
def Kept (H : Hp) (a C : Addr) (d : Option Addr) : Prop := H a = some (exk a (.ref C) d) ∧ (d = none ∨ ∃ dd fs, d = some dd ∧ H dd = some (.xd fs))
section
variable {X : Cx} {pins : List (Addr × Obj)} {σ : L2.St} {H : Hp} {s : Shared} {a C : Addr} {d : Option Addr}
theorem kept_inst (I : Inv X pins σ H s) (h : Kept H a C d) : ∃ (oe : Obj) (od : Option Obj), PySem.W.InstAt s.heap a oe C od := by
  obtain ⟨e, hd⟩ := h
  obtain ⟨oe, vs, ho, hz, hv⟩ := exk_at I.hok e
  have nc : PySem.W.notCls oe = true := by unfold PySem.W.notCls; rw [hv] <;> rfl
  rcases hd with rfl | ⟨dd, fs, rfl, ed⟩
  · exact ⟨oe, none, ho, hz.1, nc, by rw [hz.2]; trivial⟩
  · obtain ⟨mA, ⟨od, es, ep, q, _⟩, _⟩ := (show ObjOk X.prog X.w H s.heap dd (.xd fs) from I.hok dd _ ed)
    exact ⟨oe, some od, ho, hz.1, nc, by rw [hz.2]; exact q⟩
theorem kept_kit (T : KeptC X.K C) {oe : Obj} {od : Option Obj} : PySem.W.KitX X.K (.ref a) (.ref C) (fun h => PySem.W.InstAt h a oe C od) :=
  PySem.W.kitx_exc (by obtain ⟨cd, hc, _⟩ := PySem.W.any_some T.hdC; rw [hc]; rfl) T.ga T.gg T.exC T.clC T.sp T.tk T.mrO
/-- isinstance(e, c), e a kept error -/
def rIsk (K : PySem.W.Frag) : List V → Hp → VK → Prop := fun xs H Q => ∃ (a C : Addr) (d : Option Addr) (c : V) (u : Value) (b : Bool), xs = [.ref a, c] ∧ Kept H a C d ∧ KeptC K C ∧ ClsV c u ∧ PySem.W.kitOne K (.ref C) u = some b ∧ Q (.bl b) H
theorem call_isk : CallR X (.builtin "isinstance") (rIsk X.K) := by
  intro pins s σ H xs us Q I r h
  obtain ⟨a, C, d, c, u, b, rfl, hk, T, k, e, q⟩ := h
  obtain ⟨u1, u2, rfl, r1, r2⟩ := vals2 r
  cases (show u1 = Value.ref a from r1)
  have e2 := k.eq r2
  subst e2
  obtain ⟨oe, od, J⟩ := kept_inst I hk
  exact PySem.W.kia_one (kept_kit T) I.kIn J e (fun z => nomatch z) fun tk => ⟨.bl b, H, I.tok tk, rfl, q⟩
/-- isinstance(e, (c, ..)) -/
def rIskT (K : PySem.W.Frag) : List V → Hp → VK → Prop := fun xs H Q => ∃ (a C : Addr) (d : Option Addr) (tp : Addr) (cs : List V) (us : List Value) (b : Bool), xs = [.ref a, .ref tp] ∧ Kept H a C d ∧ KeptC K C ∧ H tp = some (.tup cs) ∧ Paired ClsV cs us ∧ PySem.W.kitAny K (.ref C) us = some b ∧ Q (.bl b) H
theorem call_iskT : CallR X (.builtin "isinstance") (rIskT X.K) := by
  intro pins s σ H xs us Q I r h
  obtain ⟨a, C, d, tp, cs, ws, b, rfl, hk, T, hT, k, e, q⟩ := h
  obtain ⟨u1, u2, rfl, r1, r2⟩ := vals2 r
  cases (show u1 = Value.ref a from r1)
  cases (show u2 = Value.ref tp from r2)
  obtain ⟨oe, od, J⟩ := kept_inst I hk
  obtain ⟨_, its, rv, o, h1, h2, n, h3⟩ := (show ObjOk X.prog X.w H s.heap tp (.tup cs) from I.hok tp _ hT)
  have e3 := ClsV.all k rv
  subst e3
  obtain ⟨oc, od', dt, sl⟩ := o
  simp only at h2 h3
  subst h2 h3
  exact PySem.W.kia_tup (kept_kit T) I.kIn J h1 e (fun z => nomatch z) fun tk => ⟨.bl b, H, I.tok tk, rfl, q⟩
/-- e.f, e a kept error -/
def tKf (K : PySem.W.Frag) (f : Str) (te : TE) : TE := fun σ H Q => te σ H fun x H1 => ∃ (a C dd : Addr) (fs : List (Str × V)) (v : V), x = .ref a ∧ H1 a = some (exk a (.ref C) (some dd)) ∧ KeptC K C ∧ PySem.W.findIn K (.ref C) f = some none ∧ H1 dd = some (.xd fs) ∧ fs.lookup f = some v ∧ Q v H1
theorem pe_kf {e : Expr} {te : TE} {f : Str} {pos : Pos} (he : PE X e te) (hb : attributeBase e f X.env (eval e X.env) = eval e X.env := by rfl) : PE X (.Attribute e f pos) (tKf X.K f te) := by
  refine ⟨fun pins s σ H Q I h => attr_of hb (thn (he.run pins s σ H _ I h) fun u s1 hh => ?_)⟩
  obtain ⟨x, H1, I1, rx, a, C, dd, fs, v, ex, ea, T, hno, ed, l, q⟩ := hh
  subst ex
  obtain rfl : u = Value.ref a := rx
  obtain ⟨oe, vs, ho, hz, hv⟩ := exk_at I1.hok ea
  obtain ⟨mA, hns, hr⟩ := (show ObjOk X.prog X.w H1 s1.heap dd (.xd fs) from I1.hok dd _ ed)
  obtain ⟨od, hod, hl⟩ := lookIn_ns hns
  obtain ⟨w', hw, rw'⟩ := RelO.some_of (v := v) (o := mA f) (by rw [← l]; exact hr f)
  have J : PySem.W.InstAt s1.heap a oe C (some od) := ⟨ho, hz.1, by unfold PySem.W.notCls; rw [hv] <;> rfl, by rw [hz.2]; exact hod⟩
  exact HandSPX.exc_get I1.kIn J T.ga T.gg T.exC (PySem.W.findObj_own T.hdC hno rfl (by rw [hl, hw])) (handed_of rw') ⟨v, H1, I1.tok _, rw', q⟩
end
end Pc
namespace Pc
open PySem PySem.Spec PyProof.Rows L2 RZ
/-! ### errors with one field: made, flying -/
/-- an error of the class at C with the field f flies, from the heap H on -/
def Flies (C : Addr) (f : Str) (v : V) (H : Hp) (E : XK) : Prop := ∀ d H', Same H H' → H d = none → H' d = some (.xd [(f, v)]) → E (.ref C) (some d) H'
theorem Flies.same {C : Addr} {f : Str} {v : V} {H H1 : Hp} {E : XK} (h : Flies C f v H E) (s : Same H H1) : Flies C f v H1 E := fun d H' s' n e => h d H' (s.trans s') (s.free n) e
def spInit1 (C : Addr) (f : Str) : Sp := fun vs H Q _ => ∃ (a : Addr) (v : V), vs = [.ref a, v] ∧ H a = some (exo a C none) ∧ ∀ dx, H dx = none → dx ≠ a → Q .non (upd (upd H a (exo a C (some dx))) dx (exd dx [(f, v)]))
theorem raised1 {C : Addr} {f : Str} {v : V} {H1 : Hp} {Q : XK} (h : Flies C f v H1 Q) : [v].length ≤ 1000 ∧ ∀ a, H1 a = none → spInit1 C f (.ref a :: [v]) (upd H1 a (exo a C none))
    (fun v' H2 => v' = .non ∧ ((H2 a = some (exo a C none) ∧ Q (.ref C) none (del H2 a)) ∨ ∃ (d : Addr) (fs : List (Str × V)), H2 a = some (exo a C (some d)) ∧ H2 d = some (exd d fs) ∧ Q (.ref C) (some d) (upd (del H2 a) d (.xd fs)))) (fun _ _ _ => False) := by
  refine ⟨(by show 1 ≤ 1000; decide), fun a na => ⟨a, v, rfl, upd_same, fun dx nd ne => ⟨rfl, .inr ⟨dx, [(f, v)], ?_, upd_same, h dx _ ?_ ?_ upd_same⟩⟩⟩⟩
  · rw [upd_ne (Ne.symm ne), upd_same]
  · intro b o hb
    have nd' : H1 dx = none := by rw [upd_ne ne] at nd; exact nd
    have hbd := ne_of_none hb nd'
    have hba := ne_of_none hb na
    rw [upd_ne hbd, del_ne hba, upd_ne hbd, upd_ne hba, upd_ne hba]
    exact hb
  · rw [upd_ne ne] at nd; exact nd
/-- the try's wish of such an error -/
theorem kept1 {K : PySem.W.Frag} {C : Addr} {f : Str} {v : V} {cs : List Value} {i : Nat} {ts : Addr → TS} {D : Ends} {σ : L2.St} {H : Hp} (hh : Hits K (.ref C) cs)
    (h : ∀ d H' a, Same H H' → H d = none → H' d = some (.xd [(f, v)]) → H' a = none → a ≠ d → ts a { nx := fun σ' H'' => D.nx (σ'.set i none) (upd H'' a (exk a (.ref C) (some d))), rt := fun _ _ => False } (σ.set i (some (.ref a))) H') :
    Flies C f v H (fun cls d H' => wKept K cs i ts D cls d σ H') := fun d H' s n e => ⟨hh, fun a na => h d H' a s n e na (fun z => by rw [z, e] at na; cases na)⟩
theorem Kept.mk1 {H' : Hp} {a d C : Addr} {fs : List (Str × V)} (e : H' d = some (.xd fs)) (n : H' a = none) : Kept (upd H' a (exk a (.ref C) (some d))) a C (some d) :=
  ⟨upd_same, .inr ⟨d, fs, rfl, by rw [upd_ne (ne_of_none e n)]; exact e⟩⟩
theorem Kept.same {H H' : Hp} {a C : Addr} {d : Option Addr} (h : Kept H a C d) (s : Same H H') : Kept H' a C d :=
  ⟨s _ _ h.1, h.2.imp id fun ⟨dd, fs, e, z⟩ => ⟨dd, fs, e, s _ _ z⟩⟩
theorem over_of {K : PySem.W.Frag} {C : Addr} {bmB : List Value} {newId : String} {nm q : Str} {N : Addr} {bs : List Value} {sn : List Str} {sub : List Value} {ab : Bool} {col : Option Bool} {dd : Option Addr} {k0 k1 k2 k3 k5 : Option Value}
    (h : K.lookup C = some (excClassObj nm q C N bs bmB true sn sub ab col dd k0 k1 k2 k3 k5 newId)) (ht : PySem.W.excTail bmB bmB = true) : PySem.W.excOver K C bmB = true := by
  have e : PySem.W.clsIn K C = some { name := nm, bases := bs, mro := .ref C :: bmB, ns := N, qualname := q, hasDict := true, slotNames := sn, subclasses := sub, abstract := ab, collection := col, hasDel := false } := by
    unfold PySem.W.clsIn
    rw [h] <;> rfl
  unfold PySem.W.excOver
  rw [e]
  show ((C == C) && PySem.W.excTail bmB bmB) = true
  rw [ht, beq_self_eq_true]; rfl
theorem kcls_of {K : PySem.W.Frag} {t : Value} {D : Addr} {b : Bool} (h2 : PySem.W.isClsIn K D = true) (h3 : PySem.W.typeIn K (.ref D) = some (.type "type")) (h4 : PySem.W.subIn K t (.ref D) = some b) : PySem.W.kitCls K t (.ref D) = some b := by
  have e2 : ((PySem.W.clsIn K D).isSome && PySem.W.typeIn K (.ref D) == some (.type "type")) = true := by
    have h2' : (PySem.W.clsIn K D).isSome = true := h2
    rw [h2', h3] <;> rfl
  show (if ((PySem.W.clsIn K D).isSome && PySem.W.typeIn K (.ref D) == some (.type "type")) = true then PySem.W.subIn K t (.ref D) else none) = some b
  rw [if_pos e2]
  exact h4
theorem exm_of' {K : PySem.W.Frag} {t : Value} {D : Addr} {b : Bool} (h1 : PySem.W.subIn K (.ref D) (.type "BaseException") = some true) (h2 : PySem.W.isClsIn K D = true) (h3 : PySem.W.typeIn K (.ref D) = some (.type "type")) (h4 : PySem.W.subIn K t (.ref D) = some b) : PySem.W.exmOne K t (.ref D) = some b := by
  have e1 : (PySem.W.subIn K (.ref D) (.type "BaseException") == some true) = true := by rw [h1] <;> rfl
  show (if (PySem.W.subIn K (.ref D) (.type "BaseException") == some true) = true then PySem.W.kitCls K t (.ref D) else none) = some b
  rw [if_pos e1]
  exact kcls_of h2 h3 h4
theorem kit_own {K : PySem.W.Frag} {C D : Addr} {b : Bool} (h0 : PySem.W.subIn K (.ref C) (.ref C) = some true) (h2 : PySem.W.isClsIn K D = true) (h3 : PySem.W.typeIn K (.ref D) = some (.type "type")) (h4 : PySem.W.subIn K (.ref C) (.ref D) = some b) : PySem.W.kitOne K (.ref C) (.ref D) = some b := by
  by_cases e : C = D
  · subst e
    rw [h0] at h4
    rw [← h4]
    show (if ((Value.ref C) == (Value.ref C)) = true then some true else _) = some true
    rw [if_pos (beq_self_eq_true _)]
  · have n : ((Value.ref C) == (Value.ref D)) = false := beq_false_of_ne (fun z => e (Value.ref.inj z))
    show (if ((Value.ref C) == (Value.ref D)) = true then some true else PySem.W.kitCls K (.ref C) (.ref D)) = some b
    rw [if_neg (by rw [n]; exact Bool.false_ne_true)]
    exact kcls_of h2 h3 h4
theorem kit_blt {K : PySem.W.Frag} {C : Addr} {T : String} {b : Bool} (hm : PySem.W.kitMeta T = true) (h4 : PySem.W.subIn K (.ref C) (.type T) = some b) : PySem.W.kitOne K (.ref C) (.type T) = some b := by
  have n : ((Value.ref C) == (Value.type T)) = false := beq_false_of_ne (fun z => nomatch z)
  show (if ((Value.ref C) == (Value.type T)) = true then some true else (if PySem.W.kitMeta T = true then PySem.W.subIn K (.ref C) (.type T) else none)) = some b
  rw [if_neg (by rw [n]; exact Bool.false_ne_true), if_pos hm]
  exact h4
theorem kit_all {K : PySem.W.Frag} {t : Value} : ∀ {us : List Value}, (∀ u ∈ us, PySem.W.kitOne K t u = some false) → PySem.W.kitAny K t us = some false
  | [], _ => rfl
  | u :: us, h => by
    show (match PySem.W.kitOne K t u with | some true => some true | some false => PySem.W.kitAny K t us | none => none) = some false
    rw [h u List.mem_cons_self]
    exact kit_all fun x hx => h x (List.mem_cons_of_mem _ hx)
end Pc
namespace Pc
open PySem PySem.Spec PyProof.Rows L2 RZ
theorem kit_nil {K : PySem.W.Frag} {t : Value} : PySem.W.kitAny K t [] = some false := rfl
theorem kit_cons {K : PySem.W.Frag} {t u : Value} {us : List Value} (h : PySem.W.kitOne K t u = some false) (r : PySem.W.kitAny K t us = some false) : PySem.W.kitAny K t (u :: us) = some false := by
  show (match PySem.W.kitOne K t u with | some true => some true | some false => PySem.W.kitAny K t us | none => none) = some false
  rw [h]
  exact r
theorem hits_of {K : PySem.W.Frag} {cls : Value} {cs : List Value} (bs : List Bool) (hb : bs.any id = true) (h : Paired (fun c b => PySem.W.exmOne K cls c = some b) cs bs) : Hits K cls cs :=
  ⟨bs, h.length.symm, hb, fun i c y hc hy => by
    obtain ⟨y', e, z⟩ := paired_get h hc
    rw [hy] at e; cases e
    exact z⟩
end Pc
namespace Pc
open PySem PySem.Spec PyProof.Rows L2 RZ
/-- two promises of one def -/
theorem FnOk.or {P : Program} {w : World} {K : PySem.W.Frag} {mg : Str → Option Value} {base : Heap} {CX : CXT} {k : Nat} {f : Addr} {fd : FuncData} {ps : List Str} {sp sp' : Sp} (F : FnOk P w K mg base CX k f fd ps sp) (G : FnOk P w K mg base CX k f fd ps sp') :
    FnOk P w K mg base CX k f fd ps (fun vs H Q E => sp vs H Q E ∨ sp' vs H Q E) where
  len vs H Q E h := h.elim (F.len vs H Q E) (G.len vs H Q E)
  run A outer s H args us vs Q E hr e0 hb r h := h.elim (F.run A outer s H args us vs Q E hr e0 hb r) (G.run A outer s H args us vs Q E hr e0 hb r)
end Pc
namespace Pc
open PySem PySem.Spec PyProof.Rows L2 RZ
def topS (i : Nat) : Stmt := PySem.Challenge.pw_partnercall_k05_people_who_are_not_there.main.body.getD i (.Pass ⟨0, 0, 0, 0⟩)
abbrev s_p_check_person : Stmt := topS 6
abbrev N_p_check_person : List Str := ["size", "person"]
theorem sc_p_check_person : FnScope ["size", "person"] ["size", "person"] (defScope s_p_check_person) := ⟨rfl, rfl, rfl, by decide +kernel, rfl, by decide +kernel, by decide +kernel⟩
abbrev s_p_check_call : Stmt := topS 7
abbrev N_p_check_call : List Str := ["size", "call", "person"]
theorem sc_p_check_call : FnScope ["size", "call", "person"] ["size", "call"] (defScope s_p_check_call) := ⟨rfl, rfl, rfl, by decide +kernel, rfl, by decide +kernel, by decide +kernel⟩
abbrev s_p_check_word : Stmt := topS 8
abbrev N_p_check_word : List Str := ["size", "word", "call"]
theorem sc_p_check_word : FnScope ["size", "word", "call"] ["size", "word"] (defScope s_p_check_word) := ⟨rfl, rfl, rfl, by decide +kernel, rfl, by decide +kernel, by decide +kernel⟩
abbrev s_p_join_two : Stmt := topS 9
abbrev N_p_join_two : List Str := ["joined", "a", "b", "left", "right"]
theorem sc_p_join_two : FnScope ["joined", "a", "b", "left", "right"] ["joined", "a", "b"] (defScope s_p_join_two) := ⟨rfl, rfl, rfl, by decide +kernel, rfl, by decide +kernel, by decide +kernel⟩
abbrev s_p_called : Stmt := topS 10
abbrev N_p_called : List Str := ["pairing", "call"]
theorem sc_p_called : FnScope ["pairing", "call"] ["pairing", "call"] (defScope s_p_called) := ⟨rfl, rfl, rfl, by decide +kernel, rfl, by decide +kernel, by decide +kernel⟩
abbrev s_p_called_all : Stmt := topS 11
abbrev N_p_called_all : List Str := ["pairing", "word", "partners", "a", "b"]
theorem sc_p_called_all : FnScope ["pairing", "word", "partners", "a", "b"] ["pairing", "word"] (defScope s_p_called_all) := ⟨rfl, rfl, rfl, by decide +kernel, rfl, by decide +kernel, by decide +kernel⟩
abbrev s_p_pairings_along : Stmt := topS 12
abbrev N_p_pairings_along : List Str := ["pairing", "word", "partners", "along", "a", "b"]
theorem sc_p_pairings_along : FnScope ["pairing", "word", "partners", "along", "a", "b"] ["pairing", "word"] (defScope s_p_pairings_along) := ⟨rfl, rfl, rfl, by decide +kernel, rfl, by decide +kernel, by decide +kernel⟩
abbrev s_p_idle_calls : Stmt := topS 13
abbrev N_p_idle_calls : List Str := ["pairing", "word", "partners", "idle", "at", "a", "b"]
theorem sc_p_idle_calls : FnScope ["pairing", "word", "partners", "idle", "at", "a", "b"] ["pairing", "word"] (defScope s_p_idle_calls) := ⟨rfl, rfl, rfl, by decide +kernel, rfl, by decide +kernel, by decide +kernel⟩
abbrev s_p_people_of : Stmt := topS 15
abbrev N_p_people_of : List Str := ["sheet"]
theorem sc_p_people_of : FnScope ["sheet"] ["sheet"] (defScope s_p_people_of) := ⟨rfl, rfl, rfl, by decide +kernel, rfl, by decide +kernel, by decide +kernel⟩
abbrev s_p_empty_sheet : Stmt := topS 16
abbrev N_p_empty_sheet : List Str := ["size"]
theorem sc_p_empty_sheet : FnScope ["size"] ["size"] (defScope s_p_empty_sheet) := ⟨rfl, rfl, rfl, by decide +kernel, rfl, by decide +kernel, by decide +kernel⟩
abbrev s_p_with_word : Stmt := topS 17
abbrev N_p_with_word : List Str := ["sheet", "word", "size", "ends", "a", "b"]
theorem sc_p_with_word : FnScope ["sheet", "word", "size", "ends", "a", "b"] ["sheet", "word"] (defScope s_p_with_word) := ⟨rfl, rfl, rfl, by decide +kernel, rfl, by decide +kernel, by decide +kernel⟩
abbrev s_p_sheet_of : Stmt := topS 18
abbrev N_p_sheet_of : List Str := ["size", "word"]
theorem sc_p_sheet_of : FnScope ["size", "word"] ["size", "word"] (defScope s_p_sheet_of) := ⟨rfl, rfl, rfl, by decide +kernel, rfl, by decide +kernel, by decide +kernel⟩
abbrev s_p_with_call : Stmt := topS 19
abbrev N_p_with_call : List Str := ["sheet", "call"]
theorem sc_p_with_call : FnScope ["sheet", "call"] ["sheet", "call"] (defScope s_p_with_call) := ⟨rfl, rfl, rfl, by decide +kernel, rfl, by decide +kernel, by decide +kernel⟩
abbrev s_box : Stmt := topS 21
abbrev N_box : List Str := ["_law_script", "_law_k", "_law_cell"]
theorem sc_box : FnScope ["_law_script", "_law_k", "_law_cell"] ["_law_script", "_law_k"] (defScope s_box) := ⟨rfl, rfl, rfl, by decide +kernel, rfl, by decide +kernel, by decide +kernel⟩
abbrev s_take : Stmt := topS 22
abbrev N_take : List Str := ["_law_box_here", "_law_span", "_law_found", "_law_once"]
theorem sc_take : FnScope ["_law_box_here", "_law_span", "_law_found", "_law_once"] ["_law_box_here", "_law_span"] (defScope s_take) := ⟨rfl, rfl, rfl, by decide +kernel, rfl, by decide +kernel, by decide +kernel⟩
abbrev s_cells : Stmt := topS 23
abbrev N_cells : List Str := ["_law_script", "_law_most", "_law_cells_here", "_law_k", "_law_cell"]
theorem sc_cells : FnScope ["_law_script", "_law_most", "_law_cells_here", "_law_k", "_law_cell"] ["_law_script", "_law_most"] (defScope s_cells) := ⟨rfl, rfl, rfl, by decide +kernel, rfl, by decide +kernel, by decide +kernel⟩
abbrev s_of : Stmt := topS 24
abbrev N_of : List Str := ["_law_box_here", "_law_some"]
theorem sc_of : FnScope ["_law_box_here", "_law_some"] ["_law_box_here", "_law_some"] (defScope s_of) := ⟨rfl, rfl, rfl, by decide +kernel, rfl, by decide +kernel, by decide +kernel⟩
abbrev s_strewn : Stmt := topS 25
abbrev N_strewn : List Str := ["_law_box_here", "_law_some", "_law_left", "_law_found"]
theorem sc_strewn : FnScope ["_law_box_here", "_law_some", "_law_left", "_law_found"] ["_law_box_here", "_law_some"] (defScope s_strewn) := ⟨rfl, rfl, rfl, by decide +kernel, rfl, by decide +kernel, by decide +kernel⟩
abbrev s_same : Stmt := topS 26
abbrev N_same : List Str := ["_law_found", "_law_due", "_law_mine", "_law_its"]
theorem sc_same : FnScope ["_law_found", "_law_due", "_law_mine", "_law_its"] ["_law_found", "_law_due"] (defScope s_same) := ⟨rfl, rfl, rfl, by decide +kernel, rfl, by decide +kernel, by decide +kernel⟩
abbrev s_paired : Stmt := topS 27
abbrev N_paired : List Str := ["_law_order", "_law_found", "_law_k"]
theorem sc_paired : FnScope ["_law_order", "_law_found", "_law_k"] ["_law_order"] (defScope s_paired) := ⟨rfl, rfl, rfl, by decide +kernel, rfl, by decide +kernel, by decide +kernel⟩
abbrev s_random : Stmt := topS 28
abbrev N_random : List Str := ["_law_box_here", "_law_count"]
theorem sc_random : FnScope ["_law_box_here", "_law_count"] ["_law_box_here", "_law_count"] (defScope s_random) := ⟨rfl, rfl, rfl, by decide +kernel, rfl, by decide +kernel, by decide +kernel⟩
abbrev s_any_call : Stmt := topS 29
abbrev N_any_call : List Str := ["_law_box_here", "_law_count", "_law_low"]
theorem sc_any_call : FnScope ["_law_box_here", "_law_count", "_law_low"] ["_law_box_here", "_law_count"] (defScope s_any_call) := ⟨rfl, rfl, rfl, by decide +kernel, rfl, by decide +kernel, by decide +kernel⟩
abbrev s_some_calls : Stmt := topS 30
abbrev N_some_calls : List Str := ["_law_box_here", "_law_count", "_law_most", "_law_wide", "_law_turn"]
theorem sc_some_calls : FnScope ["_law_box_here", "_law_count", "_law_most", "_law_wide", "_law_turn"] ["_law_box_here", "_law_count", "_law_most"] (defScope s_some_calls) := ⟨rfl, rfl, rfl, by decide +kernel, rfl, by decide +kernel, by decide +kernel⟩
abbrev s_sheet_of : Stmt := topS 31
abbrev N_sheet_of : List Str := ["_law_count", "_law_cries", "_law_found", "_law_a", "_law_b", "_law_u", "_law_v", "_law_end"]
theorem sc_sheet_of : FnScope ["_law_count", "_law_cries", "_law_found", "_law_a", "_law_b", "_law_u", "_law_v", "_law_end"] ["_law_count", "_law_cries"] (defScope s_sheet_of) := ⟨rfl, rfl, rfl, by decide +kernel, rfl, by decide +kernel, by decide +kernel⟩
abbrev s_asked : Stmt := topS 32
abbrev N_asked : List Str := ["_law_sort", "_law_crowd", "_law_cries"]
theorem sc_asked : FnScope ["_law_sort", "_law_crowd", "_law_cries"] ["_law_sort", "_law_crowd", "_law_cries"] (defScope s_asked) := ⟨rfl, rfl, rfl, by decide +kernel, rfl, by decide +kernel, by decide +kernel⟩
abbrev s_refused : Stmt := topS 33
abbrev N_refused : List Str := ["_law_sort", "_law_crowd", "_law_cries", "_law_caught", "error", "_law_fine"]
theorem sc_refused : FnScope ["_law_sort", "_law_crowd", "_law_cries", "_law_caught", "error", "_law_fine"] ["_law_sort", "_law_crowd", "_law_cries"] (defScope s_refused) := ⟨rfl, rfl, rfl, by decide +kernel, rfl, by decide +kernel, by decide +kernel⟩
abbrev s_wrong_call : Stmt := topS 34
abbrev N_wrong_call : List Str := ["_law_box_here", "_law_count", "_law_low", "_law_high", "_law_far", "_law_near", "_law_sort"]
theorem sc_wrong_call : FnScope ["_law_box_here", "_law_count", "_law_low", "_law_high", "_law_far", "_law_near", "_law_sort"] ["_law_box_here", "_law_count"] (defScope s_wrong_call) := ⟨rfl, rfl, rfl, by decide +kernel, rfl, by decide +kernel, by decide +kernel⟩
abbrev s_right : Stmt := topS 35
abbrev N_right : List Str := ["_law_box_here", "_law_count", "_law_crowd", "_law_turn", "_law_wrong", "_law_due", "_law_later", "_law_fine", "_law_told", "_law_sort"]
theorem sc_right : FnScope ["_law_box_here", "_law_count", "_law_crowd", "_law_turn", "_law_wrong", "_law_due", "_law_later", "_law_fine", "_law_told", "_law_sort"] ["_law_box_here"] (defScope s_right) := ⟨rfl, rfl, rfl, by decide +kernel, rfl, by decide +kernel, by decide +kernel⟩
abbrev s_law : Stmt := topS 36
abbrev N_law : List Str := ["_law_script", "_law_cells_here", "_law_k", "_law_box_here", "_law_turn"]
theorem sc_law : FnScope ["_law_script", "_law_cells_here", "_law_k", "_law_box_here", "_law_turn"] ["_law_script"] (defScope s_law) := ⟨rfl, rfl, rfl, by decide +kernel, rfl, by decide +kernel, by decide +kernel⟩
abbrev s_i_NoPerson : Stmt := inClass (topS 1) 0
abbrev N_i_NoPerson : List Str := ["self", "person"]
theorem sc_i_NoPerson : FnScope ["self", "person"] ["self", "person"] (defScope s_i_NoPerson) := ⟨rfl, rfl, rfl, by decide +kernel, rfl, by decide +kernel, by decide +kernel⟩
/-- what the top has left: the built-ins' names are free, each def stands at its name -/
structure Env (K : PySem.W.Frag) (mg : Str → Option Value) where
  n_len : mg "len" = none
  n_list : mg "list" = none
  n_tuple : mg "tuple" = none
  n_enumerate : mg "enumerate" = none
  n_range : mg "range" = none
  n_abs : mg "abs" = none
  n_int : mg "int" = none
  n_isinstance : mg "isinstance" = none
  n_all : mg "all" = none
  n_zip : mg "zip" = none
  n_str : mg "str" = none
  n_bool : mg "bool" = none
  n_max : mg "max" = none
  n_LookupError : mg "LookupError" = none
  n_IndexError : mg "IndexError" = none
  n_KeyError : mg "KeyError" = none
  n_ValueError : mg "ValueError" = none
  f_p_check_person : Addr
  d_p_check_person : FuncData
  F_p_check_person : Fun K "check_person" "check_person" s_p_check_person f_p_check_person d_p_check_person
  g_p_check_person : mg "check_person" = some (.ref f_p_check_person)
  f_p_check_call : Addr
  d_p_check_call : FuncData
  F_p_check_call : Fun K "check_call" "check_call" s_p_check_call f_p_check_call d_p_check_call
  g_p_check_call : mg "check_call" = some (.ref f_p_check_call)
  f_p_check_word : Addr
  d_p_check_word : FuncData
  F_p_check_word : Fun K "check_word" "check_word" s_p_check_word f_p_check_word d_p_check_word
  g_p_check_word : mg "check_word" = some (.ref f_p_check_word)
  f_p_join_two : Addr
  d_p_join_two : FuncData
  F_p_join_two : Fun K "join_two" "join_two" s_p_join_two f_p_join_two d_p_join_two
  g_p_join_two : mg "join_two" = some (.ref f_p_join_two)
  f_p_called : Addr
  d_p_called : FuncData
  F_p_called : Fun K "called" "called" s_p_called f_p_called d_p_called
  g_p_called : mg "called" = some (.ref f_p_called)
  f_p_called_all : Addr
  d_p_called_all : FuncData
  F_p_called_all : Fun K "called_all" "called_all" s_p_called_all f_p_called_all d_p_called_all
  g_p_called_all : mg "called_all" = some (.ref f_p_called_all)
  f_p_pairings_along : Addr
  d_p_pairings_along : FuncData
  F_p_pairings_along : Fun K "pairings_along" "pairings_along" s_p_pairings_along f_p_pairings_along d_p_pairings_along
  g_p_pairings_along : mg "pairings_along" = some (.ref f_p_pairings_along)
  f_p_idle_calls : Addr
  d_p_idle_calls : FuncData
  F_p_idle_calls : Fun K "idle_calls" "idle_calls" s_p_idle_calls f_p_idle_calls d_p_idle_calls
  g_p_idle_calls : mg "idle_calls" = some (.ref f_p_idle_calls)
  f_p_people_of : Addr
  d_p_people_of : FuncData
  F_p_people_of : Fun K "people_of" "people_of" s_p_people_of f_p_people_of d_p_people_of
  g_p_people_of : mg "people_of" = some (.ref f_p_people_of)
  f_p_empty_sheet : Addr
  d_p_empty_sheet : FuncData
  F_p_empty_sheet : Fun K "empty_sheet" "empty_sheet" s_p_empty_sheet f_p_empty_sheet d_p_empty_sheet
  g_p_empty_sheet : mg "empty_sheet" = some (.ref f_p_empty_sheet)
  f_p_with_word : Addr
  d_p_with_word : FuncData
  F_p_with_word : Fun K "with_word" "with_word" s_p_with_word f_p_with_word d_p_with_word
  g_p_with_word : mg "with_word" = some (.ref f_p_with_word)
  f_p_sheet_of : Addr
  d_p_sheet_of : FuncData
  F_p_sheet_of : Fun K "sheet_of" "sheet_of" s_p_sheet_of f_p_sheet_of d_p_sheet_of
  g_p_sheet_of : mg "sheet_of" = some (.ref f_p_sheet_of)
  f_p_with_call : Addr
  d_p_with_call : FuncData
  F_p_with_call : Fun K "with_call" "with_call" s_p_with_call f_p_with_call d_p_with_call
  g_p_with_call : mg "with_call" = some (.ref f_p_with_call)
  f_box : Addr
  d_box : FuncData
  F_box : Fun K "_law_box" "_law_box" s_box f_box d_box
  g_box : mg "_law_box" = some (.ref f_box)
  f_take : Addr
  d_take : FuncData
  F_take : Fun K "_law_take" "_law_take" s_take f_take d_take
  g_take : mg "_law_take" = some (.ref f_take)
  f_cells : Addr
  d_cells : FuncData
  F_cells : Fun K "_law_cells" "_law_cells" s_cells f_cells d_cells
  g_cells : mg "_law_cells" = some (.ref f_cells)
  f_of : Addr
  d_of : FuncData
  F_of : Fun K "_law_of" "_law_of" s_of f_of d_of
  g_of : mg "_law_of" = some (.ref f_of)
  f_strewn : Addr
  d_strewn : FuncData
  F_strewn : Fun K "_law_strewn" "_law_strewn" s_strewn f_strewn d_strewn
  g_strewn : mg "_law_strewn" = some (.ref f_strewn)
  f_same : Addr
  d_same : FuncData
  F_same : Fun K "_law_same" "_law_same" s_same f_same d_same
  g_same : mg "_law_same" = some (.ref f_same)
  f_paired : Addr
  d_paired : FuncData
  F_paired : Fun K "_law_paired" "_law_paired" s_paired f_paired d_paired
  g_paired : mg "_law_paired" = some (.ref f_paired)
  f_random : Addr
  d_random : FuncData
  F_random : Fun K "_law_random" "_law_random" s_random f_random d_random
  g_random : mg "_law_random" = some (.ref f_random)
  f_any_call : Addr
  d_any_call : FuncData
  F_any_call : Fun K "_law_any_call" "_law_any_call" s_any_call f_any_call d_any_call
  g_any_call : mg "_law_any_call" = some (.ref f_any_call)
  f_some_calls : Addr
  d_some_calls : FuncData
  F_some_calls : Fun K "_law_some_calls" "_law_some_calls" s_some_calls f_some_calls d_some_calls
  g_some_calls : mg "_law_some_calls" = some (.ref f_some_calls)
  f_sheet_of : Addr
  d_sheet_of : FuncData
  F_sheet_of : Fun K "_law_sheet_of" "_law_sheet_of" s_sheet_of f_sheet_of d_sheet_of
  g_sheet_of : mg "_law_sheet_of" = some (.ref f_sheet_of)
  f_asked : Addr
  d_asked : FuncData
  F_asked : Fun K "_law_asked" "_law_asked" s_asked f_asked d_asked
  g_asked : mg "_law_asked" = some (.ref f_asked)
  f_refused : Addr
  d_refused : FuncData
  F_refused : Fun K "_law_refused" "_law_refused" s_refused f_refused d_refused
  g_refused : mg "_law_refused" = some (.ref f_refused)
  f_wrong_call : Addr
  d_wrong_call : FuncData
  F_wrong_call : Fun K "_law_wrong_call" "_law_wrong_call" s_wrong_call f_wrong_call d_wrong_call
  g_wrong_call : mg "_law_wrong_call" = some (.ref f_wrong_call)
  f_right : Addr
  d_right : FuncData
  F_right : Fun K "_law_right" "_law_right" s_right f_right d_right
  g_right : mg "_law_right" = some (.ref f_right)
  C_NoPerson : Addr
  gC_NoPerson : mg "NoPerson" = some (.ref C_NoPerson)
  C_NoNumber : Addr
  gC_NoNumber : mg "NoNumber" = some (.ref C_NoNumber)
  C_NotShortest : Addr
  gC_NotShortest : mg "NotShortest" = some (.ref C_NotShortest)
  C_OtherSize : Addr
  gC_OtherSize : mg "OtherSize" = some (.ref C_OtherSize)
  own_NoPerson : Own K "LookupError.__new__" [.type "LookupError", .type "Exception", .type "BaseException", .type "object"] C_NoPerson
  kpt_NoPerson : KeptC K C_NoPerson
  no_NoPerson : PySem.W.findIn K (.ref C_NoPerson) "person" = some none
  f_i_NoPerson : Addr
  d_i_NoPerson : FuncData
  F_i_NoPerson : Fun K "__init__" "NoPerson.__init__" s_i_NoPerson f_i_NoPerson d_i_NoPerson
  iC_NoPerson : PySem.W.findIn K (.ref C_NoPerson) "__init__" = some (some (.ref f_i_NoPerson))
  tI_NoPerson : PySem.W.typeIn K (.ref f_i_NoPerson) = some (.type "function")
  ee_NoPerson : PySem.W.exmOne K (.ref C_NoPerson) (.ref C_NoPerson) = some true
  kk_NoPerson : PySem.W.kitOne K (.ref C_NoPerson) (.ref C_NoPerson) = some true
  ex_NoPerson_NoNumber : PySem.W.exmOne K (.ref C_NoPerson) (.ref C_NoNumber) = some false
  ki_NoPerson_NoNumber : PySem.W.kitOne K (.ref C_NoPerson) (.ref C_NoNumber) = some false
  ex_NoPerson_NotShortest : PySem.W.exmOne K (.ref C_NoPerson) (.ref C_NotShortest) = some false
  ki_NoPerson_NotShortest : PySem.W.kitOne K (.ref C_NoPerson) (.ref C_NotShortest) = some false
  ex_NoPerson_OtherSize : PySem.W.exmOne K (.ref C_NoPerson) (.ref C_OtherSize) = some false
  ki_NoPerson_OtherSize : PySem.W.kitOne K (.ref C_NoPerson) (.ref C_OtherSize) = some false
  kb_NoPerson_LookupError : PySem.W.kitOne K (.ref C_NoPerson) (.type "LookupError") = some true
  kb_NoPerson_IndexError : PySem.W.kitOne K (.ref C_NoPerson) (.type "IndexError") = some false
  kb_NoPerson_KeyError : PySem.W.kitOne K (.ref C_NoPerson) (.type "KeyError") = some false
  kb_NoPerson_ValueError : PySem.W.kitOne K (.ref C_NoPerson) (.type "ValueError") = some false
  vV_LookupError : PySem.W.findCls K (.type "LookupError") (.type "type") "__init__" = some (.val (.builtin "LookupError.__init__"))
theorem Env.b_i_NoPerson {K : PySem.W.Frag} {mg : Str → Option Value} (T : Env K mg) : Binds K T.d_i_NoPerson ["self", "person"] [] := T.F_i_NoPerson.binds fun _ _ _ _ _ _ us hl => match us, hl with | [_, _], _ => rfl
theorem Env.b_p_check_person {K : PySem.W.Frag} {mg : Str → Option Value} (T : Env K mg) : Binds K T.d_p_check_person ["size", "person"] [] := T.F_p_check_person.binds fun _ _ _ _ _ _ us hl => match us, hl with | [_, _], _ => rfl
theorem Env.b_p_check_call {K : PySem.W.Frag} {mg : Str → Option Value} (T : Env K mg) : Binds K T.d_p_check_call ["size", "call"] [] := T.F_p_check_call.binds fun _ _ _ _ _ _ us hl => match us, hl with | [_, _], _ => rfl
theorem Env.b_p_check_word {K : PySem.W.Frag} {mg : Str → Option Value} (T : Env K mg) : Binds K T.d_p_check_word ["size", "word"] [] := T.F_p_check_word.binds fun _ _ _ _ _ _ us hl => match us, hl with | [_, _], _ => rfl
theorem Env.b_p_join_two {K : PySem.W.Frag} {mg : Str → Option Value} (T : Env K mg) : Binds K T.d_p_join_two ["joined", "a", "b"] [] := T.F_p_join_two.binds fun _ _ _ _ _ _ us hl => match us, hl with | [_, _, _], _ => rfl
theorem Env.b_p_called {K : PySem.W.Frag} {mg : Str → Option Value} (T : Env K mg) : Binds K T.d_p_called ["pairing", "call"] [] := T.F_p_called.binds fun _ _ _ _ _ _ us hl => match us, hl with | [_, _], _ => rfl
theorem Env.b_p_called_all {K : PySem.W.Frag} {mg : Str → Option Value} (T : Env K mg) : Binds K T.d_p_called_all ["pairing", "word"] [] := T.F_p_called_all.binds fun _ _ _ _ _ _ us hl => match us, hl with | [_, _], _ => rfl
theorem Env.b_p_pairings_along {K : PySem.W.Frag} {mg : Str → Option Value} (T : Env K mg) : Binds K T.d_p_pairings_along ["pairing", "word"] [] := T.F_p_pairings_along.binds fun _ _ _ _ _ _ us hl => match us, hl with | [_, _], _ => rfl
theorem Env.b_p_idle_calls {K : PySem.W.Frag} {mg : Str → Option Value} (T : Env K mg) : Binds K T.d_p_idle_calls ["pairing", "word"] [] := T.F_p_idle_calls.binds fun _ _ _ _ _ _ us hl => match us, hl with | [_, _], _ => rfl
theorem Env.b_p_people_of {K : PySem.W.Frag} {mg : Str → Option Value} (T : Env K mg) : Binds K T.d_p_people_of ["sheet"] [] := T.F_p_people_of.binds fun _ _ _ _ _ _ us hl => match us, hl with | [_], _ => rfl
theorem Env.b_p_empty_sheet {K : PySem.W.Frag} {mg : Str → Option Value} (T : Env K mg) : Binds K T.d_p_empty_sheet ["size"] [] := T.F_p_empty_sheet.binds fun _ _ _ _ _ _ us hl => match us, hl with | [_], _ => rfl
theorem Env.b_p_with_word {K : PySem.W.Frag} {mg : Str → Option Value} (T : Env K mg) : Binds K T.d_p_with_word ["sheet", "word"] [] := T.F_p_with_word.binds fun _ _ _ _ _ _ us hl => match us, hl with | [_, _], _ => rfl
theorem Env.b_p_sheet_of {K : PySem.W.Frag} {mg : Str → Option Value} (T : Env K mg) : Binds K T.d_p_sheet_of ["size", "word"] [] := T.F_p_sheet_of.binds fun _ _ _ _ _ _ us hl => match us, hl with | [_, _], _ => rfl
theorem Env.b_p_with_call {K : PySem.W.Frag} {mg : Str → Option Value} (T : Env K mg) : Binds K T.d_p_with_call ["sheet", "call"] [] := T.F_p_with_call.binds fun _ _ _ _ _ _ us hl => match us, hl with | [_, _], _ => rfl
theorem Env.b_box {K : PySem.W.Frag} {mg : Str → Option Value} (T : Env K mg) : Binds K T.d_box ["_law_script", "_law_k"] [] := T.F_box.binds fun _ _ _ _ _ _ us hl => match us, hl with | [_, _], _ => rfl
theorem Env.b_take {K : PySem.W.Frag} {mg : Str → Option Value} (T : Env K mg) : Binds K T.d_take ["_law_box_here", "_law_span"] [] := T.F_take.binds fun _ _ _ _ _ _ us hl => match us, hl with | [_, _], _ => rfl
theorem Env.b_cells {K : PySem.W.Frag} {mg : Str → Option Value} (T : Env K mg) : Binds K T.d_cells ["_law_script", "_law_most"] [] := T.F_cells.binds fun _ _ _ _ _ _ us hl => match us, hl with | [_, _], _ => rfl
theorem Env.b_of {K : PySem.W.Frag} {mg : Str → Option Value} (T : Env K mg) : Binds K T.d_of ["_law_box_here", "_law_some"] [] := T.F_of.binds fun _ _ _ _ _ _ us hl => match us, hl with | [_, _], _ => rfl
theorem Env.b_strewn {K : PySem.W.Frag} {mg : Str → Option Value} (T : Env K mg) : Binds K T.d_strewn ["_law_box_here", "_law_some"] [] := T.F_strewn.binds fun _ _ _ _ _ _ us hl => match us, hl with | [_, _], _ => rfl
theorem Env.b_same {K : PySem.W.Frag} {mg : Str → Option Value} (T : Env K mg) : Binds K T.d_same ["_law_found", "_law_due"] [] := T.F_same.binds fun _ _ _ _ _ _ us hl => match us, hl with | [_, _], _ => rfl
theorem Env.b_paired {K : PySem.W.Frag} {mg : Str → Option Value} (T : Env K mg) : Binds K T.d_paired ["_law_order"] [] := T.F_paired.binds fun _ _ _ _ _ _ us hl => match us, hl with | [_], _ => rfl
theorem Env.b_random {K : PySem.W.Frag} {mg : Str → Option Value} (T : Env K mg) : Binds K T.d_random ["_law_box_here", "_law_count"] [] := T.F_random.binds fun _ _ _ _ _ _ us hl => match us, hl with | [_, _], _ => rfl
theorem Env.b_any_call {K : PySem.W.Frag} {mg : Str → Option Value} (T : Env K mg) : Binds K T.d_any_call ["_law_box_here", "_law_count"] [] := T.F_any_call.binds fun _ _ _ _ _ _ us hl => match us, hl with | [_, _], _ => rfl
theorem Env.b_some_calls {K : PySem.W.Frag} {mg : Str → Option Value} (T : Env K mg) : Binds K T.d_some_calls ["_law_box_here", "_law_count", "_law_most"] [] := T.F_some_calls.binds fun _ _ _ _ _ _ us hl => match us, hl with | [_, _, _], _ => rfl
theorem Env.b_sheet_of {K : PySem.W.Frag} {mg : Str → Option Value} (T : Env K mg) : Binds K T.d_sheet_of ["_law_count", "_law_cries"] [] := T.F_sheet_of.binds fun _ _ _ _ _ _ us hl => match us, hl with | [_, _], _ => rfl
theorem Env.b_asked {K : PySem.W.Frag} {mg : Str → Option Value} (T : Env K mg) : Binds K T.d_asked ["_law_sort", "_law_crowd", "_law_cries"] [] := T.F_asked.binds fun _ _ _ _ _ _ us hl => match us, hl with | [_, _, _], _ => rfl
theorem Env.b_refused {K : PySem.W.Frag} {mg : Str → Option Value} (T : Env K mg) : Binds K T.d_refused ["_law_sort", "_law_crowd", "_law_cries"] [] := T.F_refused.binds fun _ _ _ _ _ _ us hl => match us, hl with | [_, _, _], _ => rfl
theorem Env.b_wrong_call {K : PySem.W.Frag} {mg : Str → Option Value} (T : Env K mg) : Binds K T.d_wrong_call ["_law_box_here", "_law_count"] [] := T.F_wrong_call.binds fun _ _ _ _ _ _ us hl => match us, hl with | [_, _], _ => rfl
theorem Env.b_right {K : PySem.W.Frag} {mg : Str → Option Value} (T : Env K mg) : Binds K T.d_right ["_law_box_here"] [] := T.F_right.binds fun _ _ _ _ _ _ us hl => match us, hl with | [_], _ => rfl
end Pc
namespace Pc
open PySem PySem.Spec PyProof.Rows L2 RZ
section
variable {P : Program} {w : World} {K : PySem.W.Frag} {mg : Str → Option Value} {base : Heap}
theorem ok_i_NoPerson (T : Env K mg) : FnOk P w K mg base CX0 1 T.f_i_NoPerson T.d_i_NoPerson ["self", "person"] (spInit1 T.C_NoPerson "person") := by
  refine T.F_i_NoPerson.ok sc_i_NoPerson (fun vs H Q E h => ?_) (fun cdv A outer s H vs Q E hr h => ?_)
  · obtain ⟨a, v, rfl, _⟩ := h
    rfl
  · obtain ⟨a, v, rfl, ha, q⟩ := h
    refine ⟨_, pss_cons (ps_expr (pe_binit (o := .Constant .none 0 ⟨0, 0, 0, 0⟩) bsL.fb (by rfl) T.n_LookupError (by decide +kernel) (by decide) (by decide) (by kernel_rfl) (by decide +kernel) (by decide +kernel) T.vV_LookupError (pa_cons (pv 0) (pa_cons pe_str pa_nil)))) (pss_one (ps_os (newId := "LookupError.__new__") bsL.sf (pv 0) (pv 1))), ?_⟩
    exact ⟨.ref a, rfl, a, _, [.str _], rfl, (by show 1 ≤ 1000; decide), T.own_NoPerson, ha, v, rfl, .ref a, rfl, a, _, rfl, T.own_NoPerson, T.no_NoPerson, ha, fun dx n ne => q dx n ne⟩
end
end Pc
namespace Pc
open PySem PySem.Spec PyProof.Rows L2 RZ
section
variable {P : Program} {w : World} {K : PySem.W.Frag} {mg : Str → Option Value} {base : Heap}
/-! ### a source -/
def spBox (K : PySem.W.Frag) : Sp := fun vs H Q _ => ∃ (a : Addr) (ns : List Int) (k : Nat), vs = [.ref a, .int k] ∧ SqL K H a (ns.map V.int) ∧ k ≤ 100 ∧
  ∀ H' b, Same H H' → H b = none → Box 1000000000 H' b → Q (.ref b) H'
theorem ok_box (T : Env K mg) : FnOk P w K mg base CX0 1 T.f_box T.d_box ["_law_script", "_law_k"] (spBox K) := by
  refine T.F_box.ok sc_box (fun vs H Q E h => ?_) (fun cdv A outer s H vs Q E hr h => ?_)
  · obtain ⟨a, ns, k, rfl, _⟩ := h
    rfl
  · obtain ⟨a, ns, k, rfl, hS, hk, q⟩ := h
    refine ⟨_, pss_cons (ps_set (i := 2) sc_box.nd rfl (.inl rfl)
        (pe_ifExp (pt_cmpR op_lt (pv 1) (pe_callB call_len_seq (by rfl) T.n_len PySem.boot_len (pa_cons (pv 0) pa_nil)) (nomark _)) (pe_ix ix_list (pv 0) (pv 1) (fun _ _ => rfl)) pe_int))
      (pss_one (ps_ret (pe_lst (pa_cons
          (pe_op op_mul (pe_callB call_abs (by rfl) T.n_abs (by decide +kernel) (pa_cons (pv 2) pa_nil))
            (pe_callTy call_int1 (by rfl) T.n_int (by decide +kernel) (pa_cons (pe_cmpR op_ge (pe_callB call_abs (by rfl) T.n_abs (by decide +kernel) (pa_cons (pv 2) pa_nil)) (pe_op op_pow pe_int pe_int) (nomark _)) pa_nil)))
        (pa_cons (pe_op op_add (pe_op op_add (pe_op op_mod (pv 2) pe_int) (pe_op op_mul pe_int (pv 1))) pe_int)
        (pa_cons pe_int pa_nil)))))), ?_⟩
    refine ⟨.int k, rfl, .ref a, rfl, a, ns.map V.int, rfl, .inl hS, _, _, rfl, rfl, _, rfl, ite2 (fun e => ?_) (fun e => ?_)⟩
    · have e1 : k < ns.length := by
        have := of_decide_eq_true e
        rw [List.length_map] at this
        omega
      refine ⟨.ref a, rfl, .int k, rfl, a, _, _, _, rfl, rfl, hS, atI_nat (v := .int ns[k]) (by rw [List.getElem?_map, List.getElem?_eq_getElem e1]; rfl), ?_⟩
      revert e; generalize ns[k] = c; intro _
      refine ⟨_, rfl, _, rfl, _, rfl, _, rfl, 10, 18, rfl, rfl, ⟨by decide, by decide, by decide⟩, _, _, rfl, rfl, .inr ⟨_, rfl, _, _, rfl, rfl, .inr (in64 (one0 _)), _, rfl, _, _, rfl, rfl, (show (0 : Int) < 2305843009213693951 by decide), _, rfl, _, _, rfl, rfl, .inl ⟨by decide, by decide⟩, _, _, rfl, rfl, _, _, rfl, rfl, ?_⟩⟩
      refine ⟨by show 3 ≤ sizeLine; decide, fun b nb => q _ b (same_new nb) nb ⟨_, _, 0, upd_same, Int.mul_nonneg ?_ (one0 _).1, ?_, ?_, by decide, by decide⟩⟩
      · split <;> omega
      · omega
      · omega
    · refine ⟨_, rfl, _, rfl, _, rfl, _, rfl, 10, 18, rfl, rfl, ⟨by decide, by decide, by decide⟩, _, _, rfl, rfl, .inr ⟨_, rfl, _, _, rfl, rfl, .inr (in64 (one0 _)), _, rfl, _, _, rfl, rfl, (show (0 : Int) < 2305843009213693951 by decide), _, rfl, _, _, rfl, rfl, .inl ⟨by decide, by decide⟩, _, _, rfl, rfl, _, _, rfl, rfl, ?_⟩⟩
      refine ⟨by show 3 ≤ sizeLine; decide, fun b nb => q _ b (same_new nb) nb ⟨_, _, 0, upd_same, Int.mul_nonneg ?_ (one0 _).1, ?_, ?_, by decide, by decide⟩⟩
      · split <;> omega
      · omega
      · omega
end
end Pc
namespace Pc
open PySem PySem.Spec PyProof.Rows L2 RZ
section
variable {P : Program} {w : World} {K : PySem.W.Frag} {mg : Str → Option Value} {base : Heap}
/-! ### a draw below a span of at most ten million -/
def spTake : Sp := fun vs H Q _ => ∃ (b : Addr) (n : Nat) (s : Int), vs = [.ref b, .int s] ∧ Box (n + 1) H b ∧ 0 < s ∧ s ≤ 10000000 ∧
  ∀ (r : Int) (H' : Hp), 0 ≤ r → r < s → Box n H' b → Keep b H H' → Q (.int r) H'
theorem ok_take (T : Env K mg) : FnOk P w K mg base CX0 1 T.f_take T.d_take ["_law_box_here", "_law_span"] spTake := by
  refine T.F_take.ok sc_take (fun vs H Q E h => ?_) (fun cdv A outer s H vs Q E hr h => ?_)
  · obtain ⟨b, n, s, rfl, _⟩ := h
    rfl
  · obtain ⟨b, n, s, rfl, ⟨x, y, z, hb, hx, hy, hy2, hz, hz2⟩, hs, hs2, q⟩ := h
    refine ⟨_, pss_cons (ps_if (pt_cmpR op_gt (pe_ix ix_list (pv 0) pe_int (fun _ _ => rfl)) pe_int (nomark _))
        (pss_cons (ps_set (i := 2) sc_take.nd rfl (.inl rfl) (pe_op op_mod (pe_ix ix_list (pv 0) pe_int (fun _ _ => rfl)) (pv 1)))
        (pss_cons (ps_asg (pe_op op_fdiv (pe_ix ix_list (pv 0) pe_int (fun _ _ => rfl)) (pv 1)) (pg_sub (pv 0) pe_int set_list))
        (pss_one (ps_ret (pv 2))))) pss_nil)
      (pss_cons (ps_if (pt_cmpR op_gt (pv 1) (pe_op op_pow pe_int pe_int) (nomark _)) pss_never pss_nil)
      (pss_cons (ps_asg (pe_op op_add (pe_ix ix_list (pv 0) pe_int (fun _ _ => rfl)) pe_int) (pg_sub (pv 0) pe_int set_list))
      (pss_cons (ps_set (i := 3) sc_take.nd rfl (.inl rfl) (pe_op op_mod (pe_op op_pow (pe_op op_add (pe_ix ix_list (pv 0) pe_int (fun _ _ => rfl)) (pe_op op_mul pe_int (pe_ix ix_list (pv 0) pe_int (fun _ _ => rfl)))) pe_int) pe_int))
      (pss_one (ps_ret (pe_op op_mod (pe_op op_fdiv (pe_op op_mod (pe_op op_add (pe_op op_mul (pv 3) (pe_op op_add (pe_op op_mod (pv 3) pe_int) pe_int)) (pe_op op_mul (pe_ix ix_list (pv 0) pe_int (fun _ _ => rfl)) pe_int)) pe_int) pe_int) (pv 1))))))), ?_⟩
    have hS : SqL K H b [.int x, .int y, .int z] := .inl (.inl hb)
    refine ⟨.ref b, rfl, b, _, 0, .int x, rfl, rfl, hS, atI_nat (j := 0) rfl, x, 0, rfl, rfl, _, rfl, ite2 (fun e => ?_) (fun e => ?_)⟩
    · -- the number itself serves
      refine ⟨.ref b, rfl, b, _, 0, .int x, rfl, rfl, hS, atI_nat (j := 0) rfl, .int s, rfl, x, s, rfl, rfl, hs, ?_⟩
      refine ⟨.ref b, rfl, b, _, 0, .int x, rfl, rfl, hS, atI_nat (j := 0) rfl, .int s, rfl, x, s, rfl, rfl, ⟨hs, by omega⟩, .ref b, rfl, b, _, 0, 0, rfl, rfl, hb, rfl, ?_⟩
      refine ⟨_, rfl, q _ _ (Int.emod_nonneg _ (by omega)) (Int.emod_lt_of_pos _ hs) ⟨_, y, z, upd_same, ?_, hy, hy2, hz, by omega⟩ keep_upd⟩
      exact Int.ediv_nonneg hx (by omega)
    · refine ⟨.int s, rfl, 10, 7, rfl, rfl, ⟨by decide, by decide, by decide⟩, s, _, rfl, rfl, _, rfl, ite2 (fun e2 => ?_) (fun _ => ?_)⟩
      · have e3 := of_decide_eq_true e2
        have e4 : (10 : Int) ^ Int.toNat 7 = 10000000 := by decide
        rw [e4] at e3
        omega
      refine ⟨.ref b, rfl, b, _, 2, .int z, rfl, rfl, hS, atI_nat (j := 2) rfl, z, 1, rfl, rfl, .ref b, rfl, b, _, 2, 2, rfl, rfl, hb, rfl, ?_⟩
      have h2 : upd H b (.lst ([V.int x, V.int y, V.int z].set 2 (.int (z + 1)))) b = some (.lst [.int x, .int y, .int (z + 1)]) := upd_same
      have hS2 : SqL K (upd H b (.lst ([V.int x, V.int y, V.int z].set 2 (.int (z + 1))))) b [.int x, .int y, .int (z + 1)] := .inl (.inl h2)
      refine ⟨.ref b, rfl, b, _, 1, .int y, rfl, rfl, hS2, atI_nat (j := 1) rfl, .ref b, rfl, b, _, 2, .int (z + 1), rfl, rfl, hS2, atI_nat (j := 2) rfl, 39373, z + 1, rfl, rfl, .inl ⟨by decide, by decide⟩, y, _, rfl, rfl, _, 5, rfl, rfl, ⟨by decide, by decide, by omega⟩, _, 2147483647, rfl, rfl, (show (0 : Int) < 2147483647 by decide), ?_⟩
      have o1 : 0 ≤ (y + 39373 * (z + 1)) ^ Int.toNat 5 % 2147483647 := Int.emod_nonneg _ (by decide)
      have o2 : (y + 39373 * (z + 1)) ^ Int.toNat 5 % 2147483647 < 2147483647 := Int.emod_lt_of_pos _ (by decide)
      refine ⟨_, rfl, _, rfl, _, 40009, rfl, rfl, (show (0 : Int) < 40009 by decide), _, 7, rfl, rfl, _, _, rfl, rfl, .inl ⟨Int.lt_of_lt_of_le (by decide) o1, Int.lt_trans o2 (by decide)⟩, .ref b, rfl, b, _, 2, .int (z + 1), rfl, rfl, hS2, atI_nat (j := 2) rfl, z + 1, 7919, rfl, rfl, .inr ⟨by decide, by decide⟩, _, _, rfl, rfl, _, 2147483629, rfl, rfl, (show (0 : Int) < 2147483629 by decide), _, 64, rfl, rfl, ⟨by decide, by decide⟩, .int s, rfl, _, s, rfl, rfl, hs, ?_⟩
      exact q _ _ (Int.emod_nonneg _ (by omega)) (Int.emod_lt_of_pos _ hs) ⟨x, y, z + 1, h2, hx, hy, hy2, by omega, by omega⟩ keep_upd
end
end Pc
namespace Pc
open PySem PySem.Spec PyProof.Rows L2 RZ
/-! ### data -/
theorem dp_ints {K : PySem.W.Frag} {H : Hp} : ∀ ns : List Int, DpAll K H (ns.map V.int) (ns.map PyData.int)
  | [] => .nil
  | n :: r => .cons (.int n) (dp_ints r)
theorem lay_ints : ∀ ns : List Int, PyData.canLayAll0 (ns.map PyData.int) = true
  | [] => rfl
  | n :: r => by
    show (PyData.canLay0 (.int n) && PyData.canLayAll0 (r.map PyData.int)) = true
    rw [lay_ints r]; rfl
theorem depth_ints : ∀ ns : List Int, PyData.depthAll (ns.map PyData.int) = 0
  | [] => rfl
  | n :: r => by
    show max (PyData.depth (.int n)) (PyData.depthAll (r.map PyData.int)) = 0
    rw [depth_ints r]; rfl
theorem shaped_list {ds : List PyData} (h : PyData.canLayAll0 ds = true) (d : PyData.depthAll ds ≤ 63) : SeqAt.shaped (.list ds) = true := by
  unfold SeqAt.shaped
  rw [Bool.and_eq_true]
  exact ⟨h, decide_eq_true (show PyData.depthAll ds + 1 ≤ 64 by omega)⟩
theorem shaped_tuple {ds : List PyData} (h : PyData.canLayAll0 ds = true) (d : PyData.depthAll ds ≤ 63) : SeqAt.shaped (.tuple ds) = true := by
  unfold SeqAt.shaped
  rw [Bool.and_eq_true]
  exact ⟨h, decide_eq_true (show PyData.depthAll ds + 1 ≤ 64 by omega)⟩
theorem shaped_ints (ns : List Int) : SeqAt.shaped (.list (ns.map PyData.int)) = true := shaped_list (lay_ints ns) (by rw [depth_ints]; decide)
theorem shaped_intsT (ns : List Int) : SeqAt.shaped (.tuple (ns.map PyData.int)) = true := shaped_tuple (lay_ints ns) (by rw [depth_ints]; decide)
/-- what a slice of a list of ints is -/
theorem cut_ints (ns : List Int) (lo hi : Option Int) : ∃ ms : List Int, cutV (ns.map V.int) lo hi = ms.map V.int ∧ ms = (ns.drop (HT.sIx ns.length 0 lo)).take (HT.sIx ns.length ns.length hi - HT.sIx ns.length 0 lo) := by
  refine ⟨_, ?_, rfl⟩
  unfold cutV
  rw [List.length_map, List.map_take, List.map_drop]
theorem map_set_int (cs : List Int) (j : Nat) (v : Int) : (cs.map V.int).set j (.int v) = (cs.set j v).map V.int := by
  rw [List.map_set]
theorem small63 {n : Nat} (h : n ≤ 63) : n ≤ sizeLine := Nat.le_trans h (by decide)
end Pc
namespace Pc
open PySem PySem.Spec PyProof.Rows L2 RZ
section
variable {P : Program} {w : World} {K : PySem.W.Frag} {mg : Str → Option Value} {base : Heap}
/-! ### the numbers of the script, the later ones added to the first -/
def spCells (K : PySem.W.Frag) : Sp := fun vs H Q _ => ∃ (a : Addr) (ns : List Int) (m : Nat), vs = [.ref a, .int m] ∧ SqL K H a (ns.map V.int) ∧ ns.length ≤ 63 ∧ 0 < m ∧ m ≤ 60 ∧
  ∀ H' p (cs : List Int), Same H H' → H p = none → H' p = some (.lst (cs.map V.int)) → 1 ≤ cs.length → cs.length ≤ m → Q (.ref p) H'
theorem ok_cells (T : Env K mg) : FnOk P w K mg base CX0 1 T.f_cells T.d_cells ["_law_script", "_law_most"] (spCells K) := by
  refine T.F_cells.ok sc_cells (fun vs H Q E h => ?_) (fun cdv A outer s H vs Q E hr h => ?_)
  · obtain ⟨a, ns, m, rfl, _⟩ := h
    rfl
  · obtain ⟨a, ns, m, rfl, hS, hn, hm, hm2, q⟩ := h
    refine ⟨_, pss_cons (ps_set (i := 2) sc_cells.nd rfl (.inl rfl) (pe_callTy call_list_of (by rfl) T.n_list (by decide +kernel) (pa_cons (pe_slice sl_list (pv 0) po_none (po_some (pv 1))) pa_nil)))
      (pss_cons (ps_for PassesOwn.never rfl (pi_enum (by rfl) T.n_enumerate (pa_cons (pe_slice sl_list (pv 0) (po_some (pv 1)) (po_some pe_int)) pa_nil))
          (pg_tup rfl (pgs_cons (pg_name (i := 3) sc_cells.nd rfl (.inl rfl)) (pgs_cons (pg_name (i := 4) sc_cells.nd rfl (.inl rfl)) pgs_nil)))
        (pss_one (ps_asg (pe_op op_add (pe_ix ix_list (pv 2) (pe_op op_mod (pv 3) (pv 1)) (fun _ _ => rfl)) (pe_op op_mul (pv 4) (pe_op op_add (pv 3) pe_int)))
          (pg_sub (pv 2) (pe_op op_mod (pv 3) (pv 1)) set_list))))
      (pss_one (ps_ret (pe_ifExp (pt_cmpR (op_neD hr.units) (pv 2) (pe_lst pa_nil) (nomark _)) (pv 2) (pe_lst (pa_cons pe_int pa_nil)))))), ?_⟩
    obtain ⟨ms, e1, e2⟩ := cut_ints ns none (some (m : Int))
    obtain ⟨ls, e3, e4⟩ := cut_ints ns (some (m : Int)) (some 63)
    have f2 : ms.length = min m ns.length := by
      rw [e2, HT.sIx_none, HT.sIx_nat, List.length_take, List.drop_zero]
      omega
    have f4 : ls.length = ns.length - m := by
      rw [e4, HT.sIx_nat, show (63 : Int) = ((63 : Nat) : Int) from rfl, HT.sIx_nat, List.length_take, List.length_drop]
      omega
    -- the copy of the first ones
    refine ⟨.ref a, rfl, .int m, rfl, m, rfl, a, ns.map V.int, rfl, hS, fun c nc => ⟨c, _, rfl, .inl (.inl (.inl upd_same)), fun l nl => ?_⟩⟩
    rw [e1] at nl ⊢
    have s1 : Same H (upd (upd H c (.lst (ms.map V.int))) l (.lst (ms.map V.int))) := (same_new nc).trans (same_new nl)
    have nl0 : H l = none := (same_new nc).free nl
    -- the later ones
    refine ⟨.ref a, rfl, .int m, rfl, m, rfl, _, rfl, a, ns.map V.int, rfl, s1.seq hS, fun d nd => ?_⟩
    rw [e3]
    refine ⟨d, ls.map V.int, rfl, .inl (.inl upd_same), ?_⟩
    have s2 : Same H _ := s1.trans (same_new (o := .lst (ls.map V.int)) nd)
    have ldd : l ≠ d := ne_of_none upd_same nd
    refine for_it walk_enum (fun i σ H' => Same H H' ∧ H' d = some (.lst (ls.map V.int)) ∧ ∃ (y3 y4 : Option V) (cs : List Int), σ = [some (.ref a), some (.int m), some (.ref l), y3, y4] ∧ H' l = some (.lst (cs.map V.int)) ∧ cs.length = ms.length)
      ⟨s2, upd_same, none, none, ms, rfl, by rw [upd_ne ldd, upd_same], rfl⟩ (fun i σ H' _ h => .inl (.inl h.2.1)) (fun i x σ H1 H2 hi h y => ?_) (fun σ H' h => ?_)
    · obtain ⟨sm, ed, y3, y4, cs, rfl, el, ecl⟩ := h
      obtain ⟨t, v1, v2, rfl, nt, rfl, g1, g2⟩ := y
      rw [List.length_map] at hi
      have ev1 : v1 = .int (i : Nat) := (Option.some.inj g1).symm
      have ev2 : v2 = .int ls[i] := by
        have g3 : (ls.map V.int)[i]? = some v2 := g2
        rw [List.getElem?_map, List.getElem?_eq_getElem hi] at g3
        exact (Option.some.inj g3).symm
      subst ev1 ev2
      have hml : cs.length = m := by omega
      have hlt : l ≠ t := ne_of_none el nt
      have hdt : d ≠ t := ne_of_none ed nt
      have elt : (upd H1 t (.tup [.int (i : Nat), .int ls[i]])) l = some (.lst (cs.map V.int)) := by rw [upd_ne hlt]; exact el
      have him : ((i : Int) % (m : Int)) = ((i % m : Nat) : Int) := by omega
      have hjm : i % m < cs.length := by rw [hml]; exact Nat.mod_lt _ hm
      have hix : ixN (cs.map V.int).length ((i : Int) % (m : Int)) = some (i % m) := by
        rw [him]
        unfold ixN
        rw [List.length_map, if_pos (by omega), if_pos (by omega)]; rfl
      refine ⟨t, _, rfl, .inl (.inl upd_same), rfl, _, _, rfl, _, _, rfl, rfl, ?_⟩
      refine ⟨.ref l, rfl, .int (i : Nat), rfl, .int m, rfl, (i : Nat), m, rfl, rfl, (show (0 : Int) < m by omega), l, _, _, .int cs[i % m], rfl, rfl, .inl (.inl elt), ?_, ?_⟩
      · unfold atI
        show (ixN (cs.map V.int).length ((i : Int) % (m : Int))).bind _ = _
        rw [hix]
        show (cs.map V.int)[i % m]? = _
        rw [List.getElem?_map, List.getElem?_eq_getElem hjm]; rfl
      refine ⟨.int ls[i], rfl, .int (i : Nat), rfl, (i : Nat), 2, rfl, rfl, ls[i], _, rfl, rfl, .inr ⟨by omega, by omega⟩, cs[i % m], _, rfl, rfl, .ref l, rfl, .int (i : Nat), rfl, .int m, rfl, (i : Nat), m, rfl, rfl, (show (0 : Int) < m by omega), l, _, _, i % m, rfl, rfl, elt, hix, ?_⟩
      refine ⟨?_, ?_, _, _, cs.set (i % m) (cs[i % m] + ls[i] * ((i : Nat) + 2)), rfl, ?_, ?_⟩
      · intro b o hb
        have nb : b ≠ l := ne_of_none hb nl0
        rw [upd_ne nb]
        exact same_new nt _ _ (sm b o hb)
      · rw [upd_ne ldd.symm, upd_ne hdt]; exact ed
      · rw [upd_same, ← map_set_int]
      · rw [List.length_set]; exact ecl
    · obtain ⟨sm, ed, y3, y4, cs, rfl, el, ecl⟩ := h
      refine ⟨.ref l, rfl, Nat.zero_le _, fun e ne => ?_⟩
      have hle : l ≠ e := ne_of_none el ne
      have elx : (upd H' e (.lst [])) l = some (.lst (cs.map V.int)) := by rw [upd_ne hle]; exact el
      refine ⟨.list (cs.map PyData.int), .list [], .lst (.inl (.inl elx)) (dp_ints cs), .lst (.inl (.inl upd_same)) .nil, shaped_ints cs, by decide, _, rfl, ite2 (fun b => ?_) (fun b => ?_)⟩
      · have hne : cs ≠ [] := fun z => by
          subst z
          exact absurd b (by decide)
        have : 0 < cs.length := List.length_pos_iff.mpr hne
        exact ⟨.ref l, rfl, q _ l cs (sm.trans (same_new ne)) nl0 elx (by omega) (by omega)⟩
      · refine ⟨by show 1 ≤ sizeLine; decide, fun p np => ?_⟩
        have s3 := sm.trans (same_new (o := .lst []) ne)
        exact q _ p [0] (s3.trans (same_new np)) (s3.free np) upd_same (by decide) (by show 1 ≤ m; omega)
end
end Pc
namespace Pc
open PySem PySem.Spec PyProof.Rows L2 RZ
/-! ### xs != [] for any items -/
def rNeNil (K : PySem.W.Frag) : R2 := fun x y H Q => ∃ a b xs, x = .ref a ∧ y = .ref b ∧ SqL K H a xs ∧ SqL K H b [] ∧ Q (.bl (!xs.isEmpty)) H
theorem op_neNil {X : Cx} (hu : X.A.units + 64 < cLine) : OpR X (compareOp .NotEq) (rNeNil X.K) := by
  intro pins s σ H x y v u Q I rx ry h
  obtain ⟨a, b, xs, rfl, rfl, h1, h2, q⟩ := h
  cases rx; cases ry
  obtain ⟨its, rv, p1, _⟩ := I.list h1
  obtain ⟨its2, rv2, p2, _⟩ := I.list h2
  have l1 := rv.length
  have l2 := rv2.length
  have hu0 : X.A.units < cLine := by omega
  cases xs with
  | nil =>
    have z1 : its.length = 0 := l1.symm
    have z2 : its2.length = 0 := l2.symm
    refine SeqAt.RcNeAt.lists (e := fun _ => true) p1.isList p2.isList (by simp [z1, z2]) hu0 (fun j j1 _ => ?_) X.prog X.w X.xe _ ?_
    · rw [List.size_toArray] at j1; omega
    · rw [List.size_toArray, z1]
      exact ⟨.bl false, H, I, rfl, q⟩
  | cons z r =>
    have z1 : its.length ≠ 0 := by rw [← l1]; simp
    have z2 : its2.length = 0 := l2.symm
    refine SeqAt.RcNeAt.lists_lengths p1.isList p2.isList (by simp [z2, z1]) hu0 X.prog X.w X.xe _ ?_
    exact ⟨.bl true, H, I, rfl, q⟩
theorem perm_erase {α : Type} : ∀ {l : List α} {i : Nat} (h : i < l.length), (l[i] :: l.eraseIdx i).Perm l
  | a :: r, 0, _ => List.Perm.refl _
  | a :: r, i + 1, h => (List.Perm.swap a (r[i]'(Nat.lt_of_succ_lt_succ h)) (r.eraseIdx i)).trans ((perm_erase (l := r) (i := i) (Nat.lt_of_succ_lt_succ h)).cons a)
/-- the place of an index that is not negative -/
theorem seq_ix {i : Int} {n : Nat} (h0 : 0 ≤ i) (h : i < n) : seqIndex? i n = some i.toNat := seqIndex_of h0 h
end Pc
namespace Pc
open PySem PySem.Spec PyProof.Rows L2 RZ
section
variable {P : Program} {w : World} {K : PySem.W.Frag} {mg : Str → Option Value} {base : Heap}
/-! ### some things in drawn order -/
def spStrewn (K : PySem.W.Frag) : Sp := fun vs H Q _ => ∃ (b a : Addr) (n : Nat) (xs : List V), vs = [.ref b, .ref a] ∧ Box (n + xs.length) H b ∧ SqL K H a xs ∧ xs.length ≤ 1000 ∧
  ∀ (H' : Hp) (p : Addr) (ys : List V), ys.Perm xs → Keep b H H' → Box n H' b → H p = none → H' p = some (.lst ys) → Q (.ref p) H'
theorem ok_strewn (T : Env K mg) : FnOk P w K mg base CX0 2 T.f_strewn T.d_strewn ["_law_box_here", "_law_some"] (spStrewn K) := by
  have GT : FnOk P w K mg base CX0 1 T.f_take T.d_take ["_law_box_here", "_law_span"] spTake := ok_take T
  refine T.F_strewn.ok sc_strewn (fun vs H Q E h => ?_) (fun cdv A outer s H vs Q E hr h => ?_)
  · obtain ⟨b, a, n, xs, rfl, _⟩ := h
    rfl
  · obtain ⟨b, a, n, xs, rfl, hB, hS, hlen, q⟩ := h
    refine ⟨_, pss_cons (ps_par (by rfl) sc_strewn.nd (i := 2) (j := 3) rfl rfl (by decide) rfl rfl (pa_cons (pe_callTy call_list_of (by rfl) T.n_list (by decide +kernel) (pa_cons (pv 1) pa_nil)) (pa_cons (pe_lst pa_nil) pa_nil)) (by rfl))
      (pss_cons (ps_while PassesOwn.never (pt_cmpR (op_neNil hr.units) (pv 2) (pe_lst pa_nil) (nomark _))
        (pss_one (ps_expr (pe_bm PySem.F.plainAttrs_list PySem.F.slot_list_append PySem.F.type_list_append mt_append (pv 3) (pa_cons
          (pe_bm PySem.F.plainAttrs_list PySem.F.slot_list_pop PySem.F.type_list_pop mt_popAt (pv 2) (pa_cons
            (pe_call GT hr (by rfl) T.g_take T.F_take.kp T.b_take .nil pass0 (pa_cons (pv 0) (pa_cons (pe_callB call_len_seq (by rfl) T.n_len PySem.boot_len (pa_cons (pv 2) pa_nil)) pa_nil))) pa_nil)) pa_nil)))))
      (pss_one (ps_ret (pv 3)))), ?_⟩
    refine ⟨.ref a, rfl, a, xs, rfl, .inl hS, fun l nl => ⟨Nat.zero_le _, fun f nf => ⟨_, _, rfl, ?_⟩⟩⟩
    have s1 : Same H (upd (upd H l (.lst xs)) f (.lst [])) := (same_new nl).trans (same_new nf)
    have nf0 : H f = none := (same_new nl).free nf
    have hlf : l ≠ f := ne_of_none upd_same nf
    have hbl : b ≠ l := hB.ne_new nl
    have hbf : b ≠ f := hB.ne_new nf0
    refine ⟨fun m σ H' => ∃ left found : List V, σ = [some (.ref b), some (.ref a), some (.ref l), some (.ref f)] ∧ H' l = some (.lst left) ∧ H' f = some (.lst found) ∧ (left ++ found).Perm xs ∧ Box (n + left.length) H' b ∧ Keep b H H' ∧ left.length = m,
      ⟨xs.length, xs, [], rfl, by rw [upd_ne hlf, upd_same], upd_same, by rw [List.append_nil], hB.same s1, Keep.of_same s1, rfl⟩, fun m σ H' hW => ?_⟩
    obtain ⟨left, found, rfl, el, ef, hp, hb', hk, hm⟩ := hW
    refine ⟨.ref l, rfl, Nat.zero_le _, fun e ne => ⟨l, e, left, rfl, rfl, .inl (.inl ?_), .inl (.inl upd_same), _, rfl, ite2 (fun c => ?_) (fun c => ?_)⟩⟩
    · rw [upd_ne (ne_of_none el ne)]; exact el
    · -- one more is drawn
      have hl0 : 0 < left.length := by
        cases left with
        | nil => exact absurd c (by decide)
        | cons x r => exact Nat.succ_pos _
      have hll : left.length ≤ 1000 := by
        have := hp.length_eq
        rw [List.length_append] at this
        omega
      have el2 : (upd H' e (.lst [])) l = some (.lst left) := by rw [upd_ne (ne_of_none el ne)]; exact el
      have ef2 : (upd H' e (.lst [])) f = some (.lst found) := by rw [upd_ne (ne_of_none ef ne)]; exact ef
      refine ⟨fun σ' H2 => ∃ left' found' : List V, σ' = [some (.ref b), some (.ref a), some (.ref l), some (.ref f)] ∧ H2 l = some (.lst left') ∧ H2 f = some (.lst found') ∧ (left' ++ found').Perm xs ∧ Box (n + left'.length) H2 b ∧ Keep b H H2 ∧ left'.length + 1 = m,
        fun σ' H2 h2 => ?_, ?_⟩
      · obtain ⟨left', found', g1, g2, g3, g4, g5, g6, g7⟩ := h2
        exact ⟨left'.length, by omega, left', found', g1, g2, g3, g4, g5, g6, rfl⟩
      · refine ⟨.ref f, rfl, .inl ⟨rfl, _, .inl (.inl ef2)⟩, .ref l, rfl, .inl ⟨rfl, _, .inl (.inl el2)⟩, .ref b, rfl, .ref l, rfl, l, left, rfl, .inl (.inl (.inl el2)), ?_⟩
        refine ⟨b, n + (left.length - 1), left.length, rfl, (hb'.same (same_new ne)).mono (by omega), by omega, by omega, fun r H2 r0 r1 hb2 k2 => ?_⟩
        have el3 : H2 l = some (.lst left) := k2 l _ hbl.symm el2
        have ef3 : H2 f = some (.lst found) := k2 f _ hbf.symm ef2
        have hj : r.toNat < left.length := by omega
        refine ⟨l, left, r, r.toNat, left[r.toNat], rfl, rfl, el3, by omega, by omega, seq_ix r0 r1, List.getElem?_eq_getElem hj, ?_⟩
        have ef4 : (upd H2 l (.lst (left.eraseIdx r.toNat))) f = some (.lst found) := by rw [upd_ne hlf.symm]; exact ef3
        have hfl : found.length ≤ 1000 := by
          have := hp.length_eq
          rw [List.length_append] at this
          omega
        refine ⟨f, found, _, rfl, rfl, ef4, small1000 hfl, left.eraseIdx r.toNat, found ++ [left[r.toNat]], rfl, ?_, upd_same, ?_, ?_, ?_, ?_⟩
        · rw [upd_ne hlf, upd_same]
        · refine List.Perm.trans ?_ hp
          have p1 : (left[r.toNat] :: left.eraseIdx r.toNat).Perm left := perm_erase hj
          have p2 : (left.eraseIdx r.toNat ++ (found ++ [left[r.toNat]])).Perm (left[r.toNat] :: left.eraseIdx r.toNat ++ found) := by
            rw [← List.append_assoc]
            exact List.perm_append_comm.trans (by rw [List.singleton_append, List.cons_append])
          exact p2.trans (p1.append_right found)
        · have : (left.eraseIdx r.toNat).length = left.length - 1 := List.length_eraseIdx_of_lt hj
          rw [this]
          refine (hb2.keep (c := l) keep_upd hbl).keep (c := f) keep_upd hbf
        · intro x o nx hx
          have nxl : x ≠ l := ne_of_none hx nl
          have nxf : x ≠ f := ne_of_none hx nf0
          rw [upd_ne nxf, upd_ne nxl]
          exact k2 x o nx (same_new ne _ _ (hk x o nx hx))
        · rw [List.length_eraseIdx_of_lt hj]; omega
    · have hl0 : left = [] := by
        cases left with
        | nil => rfl
        | cons x r => exact absurd rfl c
      subst hl0
      have ef2 : (upd H' e (.lst [])) f = some (.lst found) := by rw [upd_ne (ne_of_none ef ne)]; exact ef
      exact ⟨.ref f, rfl, q _ f found hp (hk.trans (Keep.of_same (same_new ne))) (hb'.same (same_new ne)) nf0 ef2⟩
end
end Pc
namespace Pc
open PySem PySem.Spec PyProof.Rows L2 RZ
/-! ### pairings as lists of natural numbers -/
/-- the numbers as values -/
def nv (l : List Nat) : List V := l.map fun (i : Nat) => V.int (i : Int)
theorem nv_length (l : List Nat) : (nv l).length = l.length := List.length_map _
theorem nv_get {l : List Nat} {i x : Nat} (h : l[i]? = some x) : (nv l)[i]? = some (.int x) := by
  unfold nv; rw [List.getElem?_map, h]; rfl
theorem nv_at {l : List Nat} {i x : Nat} (h : l[i]? = some x) : atI (nv l) (i : Int) = some (.int x) := atI_nat (nv_get h)
theorem nv_set (l : List Nat) (i x : Nat) : (nv l).set i (.int (x : Int)) = nv (l.set i x) := by
  unfold nv; rw [List.map_set]
theorem nv_get' {l : List Nat} {i : Nat} {v : V} (h : (nv l)[i]? = some v) : ∃ x, l[i]? = some x ∧ v = .int (x : Int) := by
  unfold nv at h
  rw [List.getElem?_map] at h
  cases e : l[i]? with
  | none => rw [e] at h; cases h
  | some x => rw [e] at h; exact ⟨x, rfl, (Option.some.inj h).symm⟩
theorem ixN_nat {n i : Nat} (h : i < n) : ixN n (i : Int) = some i := by
  unfold ixN
  rw [if_pos (by omega), if_pos (by omega)]; rfl
theorem get_some {α : Type} {l : List α} {i : Nat} (h : i < l.length) : ∃ x, l[i]? = some x := ⟨_, List.getElem?_eq_getElem h⟩
theorem get_lt {α : Type} {l : List α} {i : Nat} {x : α} (h : l[i]? = some x) : i < l.length := (List.getElem?_eq_some_iff.mp h).1
/-- a pairing of n people -/
structure IsPair (n : Nat) (ps : List Nat) : Prop where
  len : ps.length = n
  par : ∀ x, x < n → ∃ y, ps[x]? = some y ∧ y < n ∧ y ≠ x ∧ ps[y]? = some x
/-- after t turns: the first t pairs are joined -/
def PInv (os fs : List Nat) (t : Nat) : Prop := fs.length = os.length ∧ ∀ j, j < t → ∀ x y, os[2 * j]? = some x → os[2 * j + 1]? = some y → fs[x]? = some y ∧ fs[y]? = some x
theorem PInv.step {os fs : List Nat} {t x y : Nat} (hnd : os.Nodup) (hlt : ∀ z ∈ os, z < os.length) (h : PInv os fs t) (hx : os[2 * t]? = some x) (hy : os[2 * t + 1]? = some y) :
    PInv os ((fs.set x y).set y x) (t + 1) := by
  obtain ⟨hl, hp⟩ := h
  have xl : x < fs.length := by rw [hl]; exact hlt x (List.mem_of_getElem? hx)
  have yl : y < fs.length := by rw [hl]; exact hlt y (List.mem_of_getElem? hy)
  have xy : x ≠ y := fun e => by
    subst e
    have := nd_ix hnd hx hy
    omega
  refine ⟨by rw [List.length_set, List.length_set, hl], fun j hj u v hu hv => ?_⟩
  by_cases e : j = t
  · subst e
    have e1 : u = x := Option.some.inj (hu.symm.trans hx)
    have e2 : v = y := Option.some.inj (hv.symm.trans hy)
    subst e1 e2
    refine ⟨?_, ?_⟩
    · rw [List.getElem?_set_ne (Ne.symm xy), List.getElem?_set_self xl]
    · rw [List.getElem?_set_self (by rw [List.length_set]; exact yl)]
  · obtain ⟨h1, h2⟩ := hp j (by omega) u v hu hv
    have a1 : x ≠ u := fun z => by subst z; have := nd_ix hnd hx hu; omega
    have a2 : y ≠ u := fun z => by subst z; have := nd_ix hnd hy hu; omega
    have a3 : x ≠ v := fun z => by subst z; have := nd_ix hnd hx hv; omega
    have a4 : y ≠ v := fun z => by subst z; have := nd_ix hnd hy hv; omega
    refine ⟨?_, ?_⟩
    · rw [List.getElem?_set_ne a2, List.getElem?_set_ne a1]; exact h1
    · rw [List.getElem?_set_ne a4, List.getElem?_set_ne a3]; exact h2
theorem PInv.done {os fs : List Nat} {n : Nat} (hp : os.Perm (List.range n)) (he : n % 2 = 0) (h : PInv os fs (n / 2)) : IsPair n fs := by
  have hl : os.length = n := by rw [hp.length_eq, List.length_range]
  have hnd : os.Nodup := hp.nodup_iff.mpr List.nodup_range
  refine ⟨by rw [h.1, hl], fun x hx => ?_⟩
  have hm : x ∈ os := hp.mem_iff.mpr (List.mem_range.mpr hx)
  obtain ⟨i, hi, ei⟩ := List.mem_iff_getElem.mp hm
  have gi : os[i]? = some x := by rw [List.getElem?_eq_getElem hi, ei]
  have lt_n : ∀ {k z : Nat}, os[k]? = some z → z < n := fun {k z} hz => List.mem_range.mp (hp.mem_iff.mp (List.mem_of_getElem? hz))
  by_cases hq : i % 2 = 0
  · have i1 : i + 1 < os.length := by omega
    obtain ⟨y, gy⟩ := get_some i1
    have g1 : os[2 * (i / 2)]? = some x := by rw [show 2 * (i / 2) = i by omega]; exact gi
    have g2 : os[2 * (i / 2) + 1]? = some y := by rw [show 2 * (i / 2) + 1 = i + 1 by omega]; exact gy
    obtain ⟨r1, r2⟩ := h.2 (i / 2) (by omega) x y g1 g2
    exact ⟨y, r1, lt_n gy, fun e => by subst e; have := nd_ix hnd gi gy; omega, r2⟩
  · have i1 : i - 1 < os.length := by omega
    obtain ⟨y, gy⟩ := get_some i1
    have g1 : os[2 * (i / 2)]? = some y := by rw [show 2 * (i / 2) = i - 1 by omega]; exact gy
    have g2 : os[2 * (i / 2) + 1]? = some x := by rw [show 2 * (i / 2) + 1 = i by omega]; exact gi
    obtain ⟨r1, r2⟩ := h.2 (i / 2) (by omega) y x g1 g2
    exact ⟨y, r2, lt_n gy, fun e => by subst e; have := nd_ix hnd gi gy; omega, r1⟩
/-- range(0, n, 2) -/
theorem fits_long {i : Int} (h1 : -(2 ^ 62) ≤ i) (h2 : i < 2 ^ 62) : Builtin.Range.rangeFitsLong i = true := by
  unfold Builtin.Range.rangeFitsLong
  rw [Bool.and_eq_true]
  exact ⟨decide_eq_true (by omega), decide_eq_true (by omega)⟩
theorem rgc_two {n : Nat} (h : n ≤ 1000000) : RgC 0 (n : Int) 2 ((n + 1) / 2) := by
  have e : Builtin.Range.rangeSize 0 (n : Int) 2 = (((n + 1) / 2 : Nat) : Int) := by
    unfold Builtin.Range.rangeSize
    rw [if_pos (by decide)]
    split <;> omega
  refine ⟨by decide, by decide, ?_, e⟩
  unfold Builtin.Range.small
  rw [e, fits_long (i := 0) (by decide) (by decide), fits_long (i := (n : Int)) (by omega) (by omega), fits_long (i := 2) (by decide) (by decide), fits_long (i := (((n + 1) / 2 : Nat) : Int)) (by omega) (by omega), if_pos (by decide), fits_long (i := (n : Int) + (2 - 1)) (by omega) (by omega), Bool.or_true]
  rfl
theorem rep_flat {α : Type} (n : Nat) (x : α) : (List.replicate n [x]).flatten = List.replicate n x := by
  induction n with
  | zero => rfl
  | succ n ih => rw [List.replicate_succ, List.flatten_cons, ih, List.replicate_succ]; rfl
end Pc
namespace Pc
open PySem PySem.Spec PyProof.Rows L2 RZ
section
variable {P : Program} {w : World} {K : PySem.W.Frag} {mg : Str → Option Value} {base : Heap}
/-! ### a pairing out of an order -/
def spPaired (K : PySem.W.Frag) : Sp := fun vs H Q _ => ∃ (a : Addr) (os : List Nat) (n : Nat), vs = [.ref a] ∧ SqL K H a (nv os) ∧ os.Perm (List.range n) ∧ n % 2 = 0 ∧ n ≤ 1000 ∧
  ∀ (H' : Hp) (p : Addr) (ps : List Nat), IsPair n ps → Same H H' → H p = none → H' p = some (.tup (nv ps)) → Q (.ref p) H'
theorem ok_paired (T : Env K mg) : FnOk P w K mg base CX0 1 T.f_paired T.d_paired ["_law_order"] (spPaired K) := by
  refine T.F_paired.ok sc_paired (fun vs H Q E h => ?_) (fun cdv A outer s H vs Q E hr h => ?_)
  · obtain ⟨a, os, n, rfl, _⟩ := h
    rfl
  · obtain ⟨a, os, n, rfl, hS, hp, he, hn, q⟩ := h
    refine ⟨_, pss_cons (ps_set (i := 1) sc_paired.nd rfl (.inl rfl) (pe_op op_rep (pe_lst (pa_cons pe_int pa_nil)) (pe_callB call_len_seq (by rfl) T.n_len PySem.boot_len (pa_cons (pv 0) pa_nil))))
      (pss_cons (ps_for PassesOwn.never rfl (pi_range3 rfl T.n_range (pa_cons pe_int (pa_cons (pe_callB call_len_seq (by rfl) T.n_len PySem.boot_len (pa_cons (pv 0) pa_nil)) (pa_cons pe_int pa_nil))))
          (pg_name (i := 2) sc_paired.nd rfl (.inl rfl))
        (pss_one (ps_asg (pe_tup (pa_cons (pe_ix ix_list (pv 0) (pe_op op_add (pv 2) pe_int) (fun _ _ => rfl)) (pa_cons (pe_ix ix_list (pv 0) (pv 2) (fun _ _ => rfl)) pa_nil)))
          (pg_tup rfl (pgs_cons (pg_sub (pv 1) (pe_ix ix_list (pv 0) (pv 2) (fun _ _ => rfl)) set_list) (pgs_cons (pg_sub (pv 1) (pe_ix ix_list (pv 0) (pe_op op_add (pv 2) pe_int) (fun _ _ => rfl)) set_list) pgs_nil))))))
      (pss_one (ps_ret (pe_callTy call_tuple_of (by rfl) T.n_tuple (by decide +kernel) (pa_cons (pv 1) pa_nil))))), ?_⟩
    have hl : os.length = n := by rw [hp.length_eq, List.length_range]
    have hl2 : (nv os).length = n := by rw [nv_length, hl]
    have hnd : os.Nodup := hp.nodup_iff.mpr List.nodup_range
    have hlt : ∀ z ∈ os, z < os.length := fun z hz => by rw [hl]; exact List.mem_range.mp (hp.mem_iff.mp hz)
    refine ⟨by show 1 ≤ sizeLine; decide, fun e ne => ?_⟩
    have s0 : Same H (upd H e (.lst [.int 0])) := same_new ne
    refine ⟨.ref a, rfl, a, nv os, rfl, .inl (s0.seq hS), e, _, [.int 0], rfl, rfl, upd_same, ?_, ?_, ?_, fun f nf => ?_⟩
    · rw [hl2]; omega
    · rw [hl2]; omega
    · rw [hl2]
      show 1 * Int.toNat (n : Int) ≤ sizeLine
      exact Nat.le_of_lt (small1000 (by omega))
    have s1 : Same H _ := s0.trans (same_new (o := .lst (List.replicate ((nv os).length : Int).toNat [V.int 0]).flatten) nf)
    have nf0 : H f = none := s0.free nf
    have e0 : (List.replicate ((nv os).length : Int).toNat [V.int 0]).flatten = nv (List.replicate n 0) := by
      rw [rep_flat, hl2, Int.toNat_natCast]
      unfold nv
      rw [List.map_replicate]; rfl
    refine ⟨.ref a, rfl, a, nv os, rfl, .inl (s1.seq hS), 0, _, 2, n / 2, rfl, ?_, ?_⟩
    · rw [hl2]
      have := rgc_two (n := n) (by omega)
      rw [show (n + 1) / 2 = n / 2 by omega] at this
      exact this
    refine for_rangeC (fun t σ H' => Same H H' ∧ ∃ (y : Option V) (fs : List Nat), σ = [some (.ref a), some (.ref f), y] ∧ H' f = some (.lst (nv fs)) ∧ PInv os fs t)
      ⟨s1, none, List.replicate n 0, rfl, by rw [upd_same, e0], by rw [List.length_replicate, hl], fun j hj => absurd hj (Nat.not_lt_zero _)⟩ (fun t σ H' ht h => ?_) (fun σ H' h => ?_)
    · obtain ⟨sm, y, fs, rfl, ef, pi⟩ := h
      obtain ⟨x1, g1⟩ := get_some (l := os) (i := 2 * t) (by omega)
      obtain ⟨x2, g2⟩ := get_some (l := os) (i := 2 * t + 1) (by omega)
      have hS' : SqL K H' a (nv os) := sm.seq hS
      have ea : atI (nv os) ((0 : Int) + (t : Nat) * 2) = some (.int x1) := by
        rw [show (0 : Int) + (t : Nat) * 2 = ((2 * t : Nat) : Int) by omega]; exact nv_at g1
      have eb : atI (nv os) ((0 : Int) + (t : Nat) * 2 + 1) = some (.int x2) := by
        rw [show (0 : Int) + (t : Nat) * 2 + 1 = ((2 * t + 1 : Nat) : Int) by omega]; exact nv_at g2
      have l1 : x1 < fs.length := by rw [pi.1]; exact hlt _ (List.mem_of_getElem? g1)
      have l2 : x2 < fs.length := by rw [pi.1]; exact hlt _ (List.mem_of_getElem? g2)
      refine ⟨.ref a, rfl, _, rfl, _, 1, rfl, rfl, a, _, _, _, rfl, rfl, hS', eb, .ref a, rfl, _, rfl, a, _, _, _, rfl, rfl, hS', ea, by show 2 ≤ sizeLine; decide, fun tp nt => ?_⟩
      have st : Same H' (upd H' tp (.tup [.int x2, .int x1])) := same_new nt
      have eft : (upd H' tp (.tup [.int x2, .int x1])) f = some (.lst (nv fs)) := st _ _ ef
      have nft : f ≠ tp := ne_of_none ef nt
      refine ⟨tp, _, rfl, .inl (.inl upd_same), rfl, _, _, rfl, .ref f, rfl, .ref a, rfl, _, rfl, a, _, _, _, rfl, rfl, st.seq hS', ea, f, _, _, x1, rfl, rfl, eft, ixN_nat (by rw [nv_length]; exact l1), ?_⟩
      have sq : SqL K (upd (upd H' tp (.tup [.int x2, .int x1])) f (.lst ((nv fs).set x1 (.int x2)))) a (nv os) := by
        have : ∀ b o, H b = some o → (upd (upd H' tp (.tup [.int x2, .int x1])) f (.lst ((nv fs).set x1 (.int x2)))) b = some o := fun b o hb => by
          rw [upd_ne (ne_of_none hb nf0)]; exact st _ _ (sm _ _ hb)
        exact Same.seq this hS
      refine ⟨_, _, rfl, .ref f, rfl, .ref a, rfl, _, rfl, _, 1, rfl, rfl, a, _, _, _, rfl, rfl, sq, eb, f, _, _, x2, rfl, rfl, upd_same, ?_, ?_⟩
      · rw [List.length_set]; exact ixN_nat (by rw [nv_length]; exact l2)
      · refine ⟨rfl, fun b o hb => ?_, _, (fs.set x1 x2).set x2 x1, rfl, ?_, pi.step hnd hlt g1 g2⟩
        · rw [upd_ne (ne_of_none hb nf0), upd_ne (ne_of_none hb nf0)]; exact st _ _ (sm _ _ hb)
        · rw [upd_same, nv_set, nv_set]
    · obtain ⟨sm, y, fs, rfl, ef, pi⟩ := h
      refine ⟨.ref f, rfl, f, _, rfl, .inl ⟨.inl (.inl ef), fun p np => ?_⟩⟩
      exact q _ p fs (pi.done hp he) (sm.trans (same_new np)) (sm.free np) upd_same
end
end Pc
namespace Pc
open PySem PySem.Spec PyProof.Rows L2 RZ
theorem perm_map_inv {α β : Type} (f : α → β) {zs ys : List β} (h : zs.Perm ys) : ∀ l : List α, zs = l.map f → ∃ l' : List α, ys = l'.map f ∧ l'.Perm l := by
  induction h with
  | nil => exact fun l e => ⟨l, e, List.Perm.refl _⟩
  | cons x _ ih =>
    intro l e
    cases l with
    | nil => cases e
    | cons a r =>
      injection e with e1 e2
      obtain ⟨l', h1, h2⟩ := ih r e2
      exact ⟨a :: l', by rw [h1, e1]; rfl, h2.cons a⟩
  | swap x y t =>
    intro l e
    cases l with
    | nil => cases e
    | cons a r =>
      cases r with
      | nil => injection e with _ e2; cases e2
      | cons b r =>
        injection e with e1 e2
        injection e2 with e2 e3
        exact ⟨b :: a :: r, by rw [e1, e2, e3]; rfl, List.Perm.swap _ _ _⟩
  | trans _ _ ih1 ih2 =>
    intro l e
    obtain ⟨l1, h1, h2⟩ := ih1 l e
    obtain ⟨l2, h3, h4⟩ := ih2 l1 h1
    exact ⟨l2, h3, h4.trans h2⟩
theorem rg_nv (n : Nat) : rgV 0 (n : Int) = nv (List.range n) := by
  unfold rgV nv
  rw [Int.sub_zero, Int.toNat_natCast]
  refine List.map_congr_left fun i _ => ?_
  rw [Int.zero_add]
end Pc
namespace Pc
open PySem PySem.Spec PyProof.Rows L2 RZ
section
variable {P : Program} {w : World} {K : PySem.W.Frag} {mg : Str → Option Value} {base : Heap}
/-! ### a drawn pairing -/
def spRandom : Sp := fun vs H Q _ => ∃ (b : Addr) (n k : Nat), vs = [.ref b, .int k] ∧ Box (n + k) H b ∧ k % 2 = 0 ∧ k ≤ 1000 ∧
  ∀ (H' : Hp) (p : Addr) (ps : List Nat), IsPair k ps → Keep b H H' → Box n H' b → H p = none → H' p = some (.tup (nv ps)) → Q (.ref p) H'
theorem ok_random (T : Env K mg) : FnOk P w K mg base CX0 3 T.f_random T.d_random ["_law_box_here", "_law_count"] spRandom := by
  have GS : FnOk P w K mg base CX0 2 T.f_strewn T.d_strewn ["_law_box_here", "_law_some"] (spStrewn K) := ok_strewn T
  have GP : FnOk P w K mg base CX0 1 T.f_paired T.d_paired ["_law_order"] (spPaired K) := ok_paired T
  refine T.F_random.ok sc_random (fun vs H Q E h => ?_) (fun cdv A outer s H vs Q E hr h => ?_)
  · obtain ⟨b, n, k, rfl, _⟩ := h
    rfl
  · obtain ⟨b, n, k, rfl, hB, he, hk, q⟩ := h
    refine ⟨_, pss_one (ps_ret (pe_call GP (hr.mono (by decide)) (by rfl) T.g_paired T.F_paired.kp T.b_paired .nil pass0 (pa_cons
      (pe_call GS hr (by rfl) T.g_strewn T.F_strewn.kp T.b_strewn .nil pass0 (pa_cons (pv 0) (pa_cons (pe_listRg rfl (by rfl) T.n_list (prg_1 (by rfl) T.n_range (pv 1))) pa_nil))) pa_nil))), ?_⟩
    refine ⟨.ref b, rfl, .int k, rfl, k, rfl, RgOk.of_le (by decide) (by omega) (by decide) (by omega), fun a na => ?_⟩
    have s1 : Same H _ := same_new (o := .lst (rgV 0 (k : Int))) na
    have hl : (rgV 0 (k : Int)).length = k := by rw [rgV_length]; omega
    refine ⟨b, a, n, _, rfl, (hB.same s1).mono (by rw [hl]; exact Nat.le_refl _), .inl (.inl upd_same), by rw [hl]; exact hk, fun H2 p2 ys hp hk2 hb2 np2 ep2 => ?_⟩
    obtain ⟨os, e1, e2⟩ := perm_map_inv (fun (i : Nat) => V.int (i : Int)) hp.symm (List.range k) (rg_nv k)
    have ep3 : H2 p2 = some (.lst (nv os)) := by rw [ep2, e1]; rfl
    refine ⟨p2, os, k, rfl, .inl (.inl ep3), e2, he, hk, fun H3 p ps hps s3 np ep => ?_⟩
    have k3 : Keep b H H3 := (Keep.of_same s1).trans (hk2.trans (Keep.of_same s3))
    refine q H3 p ps hps k3 (hb2.same s3) ?_ ep
    cases hh : H p with
    | none => rfl
    | some o =>
      have hpb : p ≠ b := fun z => by
        subst z
        obtain ⟨x, y, z, ex, _⟩ := hb2
        rw [ex] at np; cases np
      have := hk2 p o hpb (s1 p o hh)
      rw [this] at np; cases np
end
end Pc
namespace Pc
open PySem PySem.Spec PyProof.Rows L2 RZ
/-! ### data where more is tracked -/
theorem same_tup {K : PySem.W.Frag} {H H' : Hp} {a : Addr} {xs : List V} (e : Same H H') (h : SqT K H a xs) : SqT K H' a xs := by
  rcases h with (h | ⟨o, h⟩) | h
  · exact .inl (.inl (e _ _ h))
  · exact .inl (.inr ⟨o, e _ _ h⟩)
  · exact .inr h
mutual
theorem dp_same {K : PySem.W.Frag} {H H' : Hp} (e : Same H H') : ∀ {v : V} {d : PyData}, Dp K H v d → Dp K H' v d
  | _, _, .non => .non
  | _, _, .bl b => .bl b
  | _, _, .int i => .int i
  | _, _, .str x => .str x
  | _, _, .lst h a => .lst (e.seq h) (dpa_same e a)
  | _, _, .tup h a => .tup (same_tup e h) (dpa_same e a)
theorem dpa_same {K : PySem.W.Frag} {H H' : Hp} (e : Same H H') : ∀ {vs : List V} {ds : List PyData}, DpAll K H vs ds → DpAll K H' vs ds
  | _, _, .nil => .nil
  | _, _, .cons h a => .cons (dp_same e h) (dpa_same e a)
end
theorem dpa_len {K : PySem.W.Frag} {H : Hp} : ∀ {vs : List V} {ds : List PyData}, DpAll K H vs ds → vs.length = ds.length
  | _, _, .nil => rfl
  | _, _, .cons _ a => by rw [List.length_cons, List.length_cons, dpa_len a]
theorem dpa_get {K : PySem.W.Frag} {H : Hp} : ∀ {vs : List V} {ds : List PyData} {i : Nat} {v : V}, DpAll K H vs ds → vs[i]? = some v → ∃ d, ds[i]? = some d ∧ Dp K H v d
  | _, _, _, _, .nil, h => by simp at h
  | _, _, 0, _, .cons (d := d) h _, e => by
    cases Option.some.inj e
    exact ⟨d, rfl, h⟩
  | _, _, i + 1, v, .cons _ a, e => dpa_get (i := i) a e
theorem depth_get : ∀ {ds : List PyData} {i : Nat} {d : PyData}, ds[i]? = some d → d.depth ≤ PyData.depthAll ds
  | [], _, _, h => by simp at h
  | d :: r, 0, _, h => by
    cases Option.some.inj h
    exact Nat.le_max_left _ _
  | d :: r, i + 1, x, h => Nat.le_trans (depth_get (i := i) (ds := r) h) (Nat.le_max_right _ _)
mutual
/-- no list in it is longer than a hundred thousand -/
def narrow : PyData → Prop
  | .list xs => xs.length ≤ 100000 ∧ narrowAll xs
  | .tuple xs => xs.length ≤ 100000 ∧ narrowAll xs
  | _ => True
def narrowAll : List PyData → Prop
  | [] => True
  | x :: xs => narrow x ∧ narrowAll xs
end
theorem narrow_get : ∀ {ds : List PyData} {i : Nat} {d : PyData}, narrowAll ds → ds[i]? = some d → narrow d
  | [], _, _, _, h => by simp at h
  | d :: r, 0, _, n, h => by
    cases Option.some.inj h
    exact n.1
  | d :: r, i + 1, x, n, h => narrow_get (i := i) (ds := r) n.2 h
theorem narrow_of : ∀ {ds : List PyData}, (∀ d ∈ ds, narrow d) → narrowAll ds
  | [], _ => trivial
  | d :: r, h => ⟨h d List.mem_cons_self, narrow_of fun x hx => h x (List.mem_cons_of_mem _ hx)⟩
theorem narrow_ints (ns : List Int) : narrowAll (ns.map PyData.int) := narrow_of fun d hd => by
  obtain ⟨i, _, rfl⟩ := List.mem_map.mp hd
  exact trivial
theorem line_big {n : Nat} (h : n ≤ 100000) : n < sizeLine := Nat.lt_of_le_of_lt h (by decide)
theorem ty_lst {K : PySem.W.Frag} {H : Hp} {a : Addr} {xs : List V} (h : SqL K H a xs) : TyX K H (.ref a) (.type "list") := by
  rcases h with (h | ⟨o, h⟩) | ⟨o, its, n, h, c, _⟩
  · exact .base (.lst h)
  · exact .base (.frz h)
  · exact .kList h c
theorem ty_tup {K : PySem.W.Frag} {H : Hp} {a : Addr} {xs : List V} (h : SqT K H a xs) : TyX K H (.ref a) (.type "tuple") := by
  rcases h with (h | ⟨o, h⟩) | ⟨o, its, n, h, c, _⟩
  · exact .base (.tup h)
  · exact .fTuple h
  · exact .kTuple h c
theorem kit2 {K : PySem.W.Frag} {t a b : String} {p q : Bool} (h1 : kitB t a = some p) (h2 : kitB t b = some q) : PySem.W.kitAny K (.type t) [.type a, .type b] = some (p || q) := by
  refine kitAny_cons (kit_ty h1) (fun e => kitAny_cons (kit_ty h2) (fun e2 => ?_) (fun e2 => ?_)) (fun e => ?_)
  · subst e e2; rfl
  · subst e e2; rfl
  · subst e; rfl
section
variable {K : PySem.W.Frag}
theorem any_lt_int : PySem.W.kitAny K (.type "int") [.type "list", .type "tuple"] = some false := kit2 (p := false) (q := false) (by decide +kernel) (by decide +kernel)
theorem any_sb_int : PySem.W.kitAny K (.type "int") [.type "str", .type "bool"] = some false := kit2 (p := false) (q := false) (by decide +kernel) (by decide +kernel)
theorem any_bs_int : PySem.W.kitAny K (.type "int") [.type "bool", .type "str"] = some false := kit2 (p := false) (q := false) (by decide +kernel) (by decide +kernel)
theorem one_int_int : PySem.W.kitOne K (.type "int") (.type "int") = some true := kit_ty (by decide +kernel)
theorem one_int_bool : PySem.W.kitOne K (.type "int") (.type "bool") = some false := kit_ty (by decide +kernel)
theorem one_int_list : PySem.W.kitOne K (.type "int") (.type "list") = some false := kit_ty (by decide +kernel)
theorem one_int_tuple : PySem.W.kitOne K (.type "int") (.type "tuple") = some false := kit_ty (by decide +kernel)
theorem any_lt_none : PySem.W.kitAny K (.type "NoneType") [.type "list", .type "tuple"] = some false := kit2 (p := false) (q := false) (by decide +kernel) (by decide +kernel)
theorem any_sb_none : PySem.W.kitAny K (.type "NoneType") [.type "str", .type "bool"] = some false := kit2 (p := false) (q := false) (by decide +kernel) (by decide +kernel)
theorem any_bs_none : PySem.W.kitAny K (.type "NoneType") [.type "bool", .type "str"] = some false := kit2 (p := false) (q := false) (by decide +kernel) (by decide +kernel)
theorem one_none_int : PySem.W.kitOne K (.type "NoneType") (.type "int") = some false := kit_ty (by decide +kernel)
theorem one_none_bool : PySem.W.kitOne K (.type "NoneType") (.type "bool") = some false := kit_ty (by decide +kernel)
theorem one_none_list : PySem.W.kitOne K (.type "NoneType") (.type "list") = some false := kit_ty (by decide +kernel)
theorem one_none_tuple : PySem.W.kitOne K (.type "NoneType") (.type "tuple") = some false := kit_ty (by decide +kernel)
theorem any_lt_bool : PySem.W.kitAny K (.type "bool") [.type "list", .type "tuple"] = some false := kit2 (p := false) (q := false) (by decide +kernel) (by decide +kernel)
theorem any_sb_bool : PySem.W.kitAny K (.type "bool") [.type "str", .type "bool"] = some true := kit2 (p := false) (q := true) (by decide +kernel) (by decide +kernel)
theorem any_bs_bool : PySem.W.kitAny K (.type "bool") [.type "bool", .type "str"] = some true := kit2 (p := true) (q := false) (by decide +kernel) (by decide +kernel)
theorem one_bool_int : PySem.W.kitOne K (.type "bool") (.type "int") = some true := kit_ty (by decide +kernel)
theorem one_bool_bool : PySem.W.kitOne K (.type "bool") (.type "bool") = some true := kit_ty (by decide +kernel)
theorem one_bool_list : PySem.W.kitOne K (.type "bool") (.type "list") = some false := kit_ty (by decide +kernel)
theorem one_bool_tuple : PySem.W.kitOne K (.type "bool") (.type "tuple") = some false := kit_ty (by decide +kernel)
theorem any_lt_str : PySem.W.kitAny K (.type "str") [.type "list", .type "tuple"] = some false := kit2 (p := false) (q := false) (by decide +kernel) (by decide +kernel)
theorem any_sb_str : PySem.W.kitAny K (.type "str") [.type "str", .type "bool"] = some true := kit2 (p := true) (q := false) (by decide +kernel) (by decide +kernel)
theorem any_bs_str : PySem.W.kitAny K (.type "str") [.type "bool", .type "str"] = some true := kit2 (p := false) (q := true) (by decide +kernel) (by decide +kernel)
theorem one_str_int : PySem.W.kitOne K (.type "str") (.type "int") = some false := kit_ty (by decide +kernel)
theorem one_str_bool : PySem.W.kitOne K (.type "str") (.type "bool") = some false := kit_ty (by decide +kernel)
theorem one_str_list : PySem.W.kitOne K (.type "str") (.type "list") = some false := kit_ty (by decide +kernel)
theorem one_str_tuple : PySem.W.kitOne K (.type "str") (.type "tuple") = some false := kit_ty (by decide +kernel)
theorem any_lt_list : PySem.W.kitAny K (.type "list") [.type "list", .type "tuple"] = some true := kit2 (p := true) (q := false) (by decide +kernel) (by decide +kernel)
theorem any_sb_list : PySem.W.kitAny K (.type "list") [.type "str", .type "bool"] = some false := kit2 (p := false) (q := false) (by decide +kernel) (by decide +kernel)
theorem any_bs_list : PySem.W.kitAny K (.type "list") [.type "bool", .type "str"] = some false := kit2 (p := false) (q := false) (by decide +kernel) (by decide +kernel)
theorem one_list_int : PySem.W.kitOne K (.type "list") (.type "int") = some false := kit_ty (by decide +kernel)
theorem one_list_bool : PySem.W.kitOne K (.type "list") (.type "bool") = some false := kit_ty (by decide +kernel)
theorem one_list_list : PySem.W.kitOne K (.type "list") (.type "list") = some true := kit_ty (by decide +kernel)
theorem one_list_tuple : PySem.W.kitOne K (.type "list") (.type "tuple") = some false := kit_ty (by decide +kernel)
theorem any_lt_tuple : PySem.W.kitAny K (.type "tuple") [.type "list", .type "tuple"] = some true := kit2 (p := false) (q := true) (by decide +kernel) (by decide +kernel)
theorem any_sb_tuple : PySem.W.kitAny K (.type "tuple") [.type "str", .type "bool"] = some false := kit2 (p := false) (q := false) (by decide +kernel) (by decide +kernel)
theorem any_bs_tuple : PySem.W.kitAny K (.type "tuple") [.type "bool", .type "str"] = some false := kit2 (p := false) (q := false) (by decide +kernel) (by decide +kernel)
theorem one_tuple_int : PySem.W.kitOne K (.type "tuple") (.type "int") = some false := kit_ty (by decide +kernel)
theorem one_tuple_bool : PySem.W.kitOne K (.type "tuple") (.type "bool") = some false := kit_ty (by decide +kernel)
theorem one_tuple_list : PySem.W.kitOne K (.type "tuple") (.type "list") = some false := kit_ty (by decide +kernel)
theorem one_tuple_tuple : PySem.W.kitOne K (.type "tuple") (.type "tuple") = some true := kit_ty (by decide +kernel)
end
theorem cls2 (a b : String) : Paired ClsV [.ty a, .ty b] [.type a, .type b] := .cons (.ty a) (.cons (.ty b) .nil)
/-- zip of two tuples -/
theorem walk_zipT {K : PySem.W.Frag} {a b : Addr} {xs ys : List V} {n : Nat} (hn : n = min xs.length ys.length) : Walk (ItzT K a b) n (fun H => SqT K H a xs ∧ SqT K H b ys) (YPair (fun i => xs[i]?) (fun i => ys[i]?)) := by
  subst hn
  refine ⟨fun i _ hi q => ?_, fun _ q => ⟨xs, ys, q.1, q.2, by omega⟩, fun i H v H' _ q y => ?_⟩
  · obtain ⟨x, hx⟩ := get_some (l := xs) (i := i) (by omega)
    obtain ⟨z, hz⟩ := get_some (l := ys) (i := i) (by omega)
    exact ⟨xs, ys, x, z, q.1, q.2, hx, hz⟩
  · obtain ⟨T, x, z, h1, h2, h3, h4, h5⟩ := y
    exact ⟨T, x, z, h1, h2, h3, h4 xs q.1, h5 ys q.2⟩
theorem fn_never {P : Program} {w : World} {K : PySem.W.Frag} {mg : Str → Option Value} {base : Heap} {CX : CXT} {k : Nat} {f : Addr} {fd : FuncData} {ps : List Str} {sp : Sp} (h : ∀ vs H Q E, ¬ sp vs H Q E) : FnOk P w K mg base CX k f fd ps sp :=
  ⟨fun vs H Q E q => absurd q (h vs H Q E), fun _ _ _ H _ _ vs Q E _ _ _ _ q => absurd q (h vs H Q E)⟩
/-- a comprehension without a test -/
theorem yes_if {σ : L2.St} {H : Hp} {A B : Hp → Prop} (h : A H) : tYes σ H (fun b H3 => if b = true then A H3 else B H3) := by
  show if true = true then A H else B H
  exact iteT h
theorem all_rep : ∀ n : Nat, (List.replicate n true).all id = true
  | 0 => rfl
  | n + 1 => by rw [List.replicate_succ, List.all_cons, all_rep n]; rfl
end Pc
namespace Pc
open PySem PySem.Spec PyProof.Rows L2 RZ
section
variable {P : Program} {w : World} {K : PySem.W.Frag} {mg : Str → Option Value} {base : Heap}
/-! ### the same data twice -/
def spSame (K : PySem.W.Frag) (n : Nat) : Sp := fun vs H Q _ => ∃ (x y : V) (d : PyData), vs = [x, y] ∧ Dp K H x d ∧ Dp K H y d ∧ d.depth < n ∧ narrow d ∧ ∀ H', Same H H' → Q (.bl true) H'
theorem same_step (T : Env K mg) (n : Nat) (G : FnOk P w K mg base CX0 n T.f_same T.d_same ["_law_found", "_law_due"] (spSame K n)) : FnOk P w K mg base CX0 (n + 1) T.f_same T.d_same ["_law_found", "_law_due"] (spSame K (n + 1)) := by
  refine T.F_same.ok sc_same (fun vs H Q E h => ?_) (fun cdv A outer s H vs Q E hr h => ?_)
  · obtain ⟨x, y, d, rfl, _⟩ := h
    rfl
  · obtain ⟨x, y, d, rfl, hx, hy, hd, hw, q⟩ := h
    refine ⟨_, pss_cons (ps_if (pt_val (pe_callB call_isiT (by rfl) T.n_isinstance (by decide +kernel) (pa_cons (pv 1) (pa_cons (pe_tup (pa_cons (pe_bltn (v := .ty "list") (by rfl) T.n_list (by decide +kernel) rfl) (pa_cons (pe_bltn (v := .ty "tuple") (by rfl) T.n_tuple (by decide +kernel) rfl) pa_nil))) pa_nil))))
        (pss_cons (ps_if (PW.pt (pw_or (pt_cmpR op_ne (pe_callB call_isi (by rfl) T.n_isinstance (by decide +kernel) (pa_cons (pv 0) (pa_cons (pe_bltn (v := .ty "list") (by rfl) T.n_list (by decide +kernel) rfl) pa_nil))) (pe_callB call_isi (by rfl) T.n_isinstance (by decide +kernel) (pa_cons (pv 1) (pa_cons (pe_bltn (v := .ty "list") (by rfl) T.n_list (by decide +kernel) rfl) pa_nil))) (nomark _))
            (pw_or1 (pt_cmpR op_ne (pe_callB call_isi (by rfl) T.n_isinstance (by decide +kernel) (pa_cons (pv 0) (pa_cons (pe_bltn (v := .ty "tuple") (by rfl) T.n_tuple (by decide +kernel) rfl) pa_nil))) (pe_callB call_isi (by rfl) T.n_isinstance (by decide +kernel) (pa_cons (pv 1) (pa_cons (pe_bltn (v := .ty "tuple") (by rfl) T.n_tuple (by decide +kernel) rfl) pa_nil))) (nomark _)))))
          (pss_one (ps_ret pe_bl)) pss_nil)
        (pss_one (ps_ret (pe_and (pe_cmpR op_eq (pe_callB call_len_seq (by rfl) T.n_len PySem.boot_len (pa_cons (pv 0) pa_nil)) (pe_callB call_len_seq (by rfl) T.n_len PySem.boot_len (pa_cons (pv 1) pa_nil)) (nomark _))
          (pe_one (pe_callB (cr_all rfl) (by rfl) T.n_all (by decide +kernel) (pa_cons
            (pe_lc (own := [("_law_mine", 2), ("_law_its", 3)]) (g := gTup K 2 (gCons (gName 2) (gCons (gName 3) gNil))) (tt := tYes) (by rfl) sc_same.nd (pi_zipA (by rfl) T.n_zip (pa_cons (pv 0) (pa_cons (pv 1) pa_nil)))
              (blkOk_by (N := N_same) (sc := defScope s_same) (by decide +kernel))
              (fun _ _ _ _ _ => pg_tup (by rfl) (pgs_cons (pg_name (i := 2) sc_same.nd rfl (.inl rfl)) (pgs_cons (pg_name (i := 3) sc_same.nd rfl (.inl rfl)) pgs_nil)))
              (fun _ _ _ _ _ => pts_nil)
              (fun _ _ _ _ _ => pe_call G hr (by rfl) T.g_same T.F_same.kp T.b_same .nil pass0 (pa_cons (pv 2) (pa_cons (pv 3) pa_nil)))) pa_nil))))))) pss_nil)
      (pss_cons (ps_if (PW.pt (pw_or (pt_cmpR op_isN (pv 1) pe_non (nomark _)) (pw_or1 (pt_val (pe_callB call_isiT (by rfl) T.n_isinstance (by decide +kernel) (pa_cons (pv 1) (pa_cons (pe_tup (pa_cons (pe_bltn (v := .ty "str") (by rfl) T.n_str (by decide +kernel) rfl) (pa_cons (pe_bltn (v := .ty "bool") (by rfl) T.n_bool (by decide +kernel) rfl) pa_nil))) pa_nil)))))))
        (pss_one (ps_ret (pe_and (pe_cmpR op_eq (pv 0) (pv 1) (nomark _))
          (pe_and (pe_cmpR op_eq (pe_callB call_isi (by rfl) T.n_isinstance (by decide +kernel) (pa_cons (pv 0) (pa_cons (pe_bltn (v := .ty "bool") (by rfl) T.n_bool (by decide +kernel) rfl) pa_nil))) (pe_callB call_isi (by rfl) T.n_isinstance (by decide +kernel) (pa_cons (pv 1) (pa_cons (pe_bltn (v := .ty "bool") (by rfl) T.n_bool (by decide +kernel) rfl) pa_nil))) (nomark _))
          (pe_one (pe_cmpR op_eq (pe_cmpR op_isN (pv 0) pe_non (nomark _)) (pe_cmpR op_isN (pv 1) pe_non (nomark _)) (nomark _))))))) pss_nil)
      (pss_one (ps_ret (pe_and (pe_callB call_isi (by rfl) T.n_isinstance (by decide +kernel) (pa_cons (pv 0) (pa_cons (pe_bltn (v := .ty "int") (by rfl) T.n_int (by decide +kernel) rfl) pa_nil)))
        (pe_and (pe_not (pe_callB call_isi (by rfl) T.n_isinstance (by decide +kernel) (pa_cons (pv 0) (pa_cons (pe_bltn (v := .ty "bool") (by rfl) T.n_bool (by decide +kernel) rfl) pa_nil)))) (pe_one (pe_cmpR op_eq (pv 0) (pv 1) (nomark _)))))))), ?_⟩
    cases d with
    | dict _ => cases hx
    | int i =>
      cases hx; cases hy
      refine ⟨_, rfl, by show 2 ≤ sizeLine; decide, fun t nt => ⟨_, t, _, _, _, _, rfl, upd_same, cls2 _ _, .base (.int i), any_lt_int, _, rfl, iteF ?_⟩⟩
      refine ⟨_, rfl, rfl, _, rfl, iteF ⟨_, rfl, by show 2 ≤ sizeLine; decide, fun u nu => ⟨_, u, _, _, _, _, rfl, upd_same, cls2 _ _, .base (.int i), any_sb_int, _, rfl, iteF ?_⟩⟩⟩
      refine ⟨_, rfl, _, _, _, _, _, rfl, .ty _, .base (.int i), one_int_int, _, rfl, iteT ⟨_, rfl, _, _, _, _, _, rfl, .ty _, .base (.int i), one_int_bool, _, rfl, _, rfl, iteT ⟨_, rfl, _, rfl, rfl, ?_⟩⟩⟩
      rw [decide_eq_true rfl]
      exact q _ ((same_new nt).trans (same_new nu))
    | none =>
      cases hx; cases hy
      refine ⟨_, rfl, by show 2 ≤ sizeLine; decide, fun t nt => ⟨_, t, _, _, _, _, rfl, upd_same, cls2 _ _, .base .non, any_lt_none, _, rfl, iteF ?_⟩⟩
      refine ⟨_, rfl, rfl, _, rfl, iteT ?_⟩
      refine ⟨_, rfl, _, rfl, rfl, _, rfl, iteT ⟨_, rfl, _, _, _, _, _, rfl, .ty _, .base .non, one_none_bool, _, rfl, _, _, _, _, _, rfl, .ty _, .base .non, one_none_bool, rfl, _, rfl, iteT ⟨_, rfl, rfl, _, rfl, rfl, rfl, ?_⟩⟩⟩
      exact q _ (same_new nt)
    | bool b =>
      cases hx; cases hy
      refine ⟨_, rfl, by show 2 ≤ sizeLine; decide, fun t nt => ⟨_, t, _, _, _, _, rfl, upd_same, cls2 _ _, .base (.bl b), any_lt_bool, _, rfl, iteF ?_⟩⟩
      refine ⟨_, rfl, rfl, _, rfl, iteF ⟨_, rfl, by show 2 ≤ sizeLine; decide, fun u nu => ⟨_, u, _, _, _, _, rfl, upd_same, cls2 _ _, .base (.bl b), any_sb_bool, _, rfl, iteT ?_⟩⟩⟩
      refine ⟨_, rfl, _, rfl, rfl, _, rfl, ?_⟩
      rw [decide_eq_true rfl]
      refine iteT ⟨_, rfl, _, _, _, _, _, rfl, .ty _, .base (.bl b), one_bool_bool, _, rfl, _, _, _, _, _, rfl, .ty _, .base (.bl b), one_bool_bool, rfl, _, rfl, iteT ⟨_, rfl, rfl, _, rfl, rfl, rfl, ?_⟩⟩
      rw [decide_eq_true rfl]
      exact q _ ((same_new nt).trans (same_new nu))
    | str z =>
      cases hx; cases hy
      refine ⟨_, rfl, by show 2 ≤ sizeLine; decide, fun t nt => ⟨_, t, _, _, _, _, rfl, upd_same, cls2 _ _, .base (.str z), any_lt_str, _, rfl, iteF ?_⟩⟩
      refine ⟨_, rfl, rfl, _, rfl, iteF ⟨_, rfl, by show 2 ≤ sizeLine; decide, fun u nu => ⟨_, u, _, _, _, _, rfl, upd_same, cls2 _ _, .base (.str z), any_sb_str, _, rfl, iteT ?_⟩⟩⟩
      refine ⟨_, rfl, _, rfl, rfl, _, rfl, ?_⟩
      rw [decide_eq_true rfl]
      refine iteT ⟨_, rfl, _, _, _, _, _, rfl, .ty _, .base (.str z), one_str_bool, _, rfl, _, _, _, _, _, rfl, .ty _, .base (.str z), one_str_bool, rfl, _, rfl, iteT ⟨_, rfl, rfl, _, rfl, rfl, rfl, ?_⟩⟩
      rw [decide_eq_true rfl]
      exact q _ ((same_new nt).trans (same_new nu))
    | list ds =>
      cases hx with
      | lst hsx hax =>
      cases hy with
      | lst hsy hay =>
      rename_i a xs b ys
      have hlx := dpa_len hax
      have hly := dpa_len hay
      obtain ⟨hw1, hw2⟩ := hw
      refine ⟨_, rfl, by show 2 ≤ sizeLine; decide, fun t nt => ?_⟩
      have s1 : Same H (upd H t (.tup [.ty "list", .ty "tuple"])) := same_new nt
      have hsx1 := Same.seq s1 hsx
      have hsy1 := Same.seq s1 hsy
      refine ⟨_, t, _, _, _, _, rfl, upd_same, cls2 _ _, ty_lst hsy1, any_lt_list, _, rfl, iteT ?_⟩
      refine ⟨_, rfl, _, _, _, _, _, rfl, .ty _, ty_lst hsx1, one_list_list, _, rfl, _, _, _, _, _, rfl, .ty _, ty_lst hsy1, one_list_list, rfl, _, rfl, iteNS rfl ?_⟩
      refine ⟨_, rfl, _, _, _, _, _, rfl, .ty _, ty_lst hsx1, one_list_tuple, _, rfl, _, _, _, _, _, rfl, .ty _, ty_lst hsy1, one_list_tuple, rfl, _, rfl, iteNS rfl ?_⟩
      refine ⟨_, rfl, a, xs, rfl, .inl hsx1, _, rfl, b, ys, rfl, .inl hsy1, rfl, _, rfl, ?_⟩
      rw [decide_eq_true (show V.int (xs.length : Int) = V.int (ys.length : Int) by rw [hlx, hly])]
      refine iteT ⟨_, rfl, _, rfl, a, b, xs, ys, rfl, .inl ⟨hsx1, hsy1, fun D nD => ?_⟩⟩
      have nD0 : H D = none := s1.free nD
      refine lc_it (walk_zip (n := xs.length) (by omega)) (fun i H' => Same H H' ∧ H' D = some (.lst (List.replicate i (.bl true)))) ⟨s1.trans (same_new nD), upd_same⟩ (fun i H' _ h => ⟨Same.seq h.1 hsx, Same.seq h.1 hsy⟩) (fun i v H1 H2 hi h yy => ?_) (fun H' h => ?_)
      · obtain ⟨sm, eD⟩ := h
        obtain ⟨tp, u, v, rfl, nT, rfl, g1, g2⟩ := yy
        obtain ⟨d1, e1, f1⟩ := dpa_get hax g1
        obtain ⟨d2, e2, f2⟩ := dpa_get hay g2
        cases Option.some.inj (e1.symm.trans e2)
        have st : Same H (upd H1 tp (.tup [u, v])) := sm.trans (same_new nT)
        refine ⟨tp, _, rfl, .inl (.inl upd_same), rfl, _, _, rfl, _, _, rfl, rfl, rfl, yes_if ?_⟩
        refine ⟨_, rfl, _, rfl, u, v, d1, rfl, dp_same st f1, dp_same st f2, ?_, narrow_get hw2 e1, fun H3 s3 => ⟨_, s3 _ _ (same_new nT _ _ eD), ?_, ?_, ?_⟩⟩
        · have := depth_get e1
          have hd' : PyData.depthAll ds + 1 < n + 1 := hd
          omega
        · rw [List.length_replicate]
          exact line_big (by omega)
        · intro c o hc
          rw [upd_ne (ne_of_none hc nD0)]
          exact s3 _ _ (st _ _ hc)
        · rw [upd_same, List.replicate_succ']
      · obtain ⟨sm, eD⟩ := h
        refine ⟨D, List.replicate xs.length true, rfl, ?_, ?_⟩
        · rw [List.map_replicate]
          exact .inl (.inl eD)
        · rw [all_rep]
          exact q _ sm
    | tuple ds =>
      cases hx with
      | tup hsx hax =>
      cases hy with
      | tup hsy hay =>
      rename_i a xs b ys
      have hlx := dpa_len hax
      have hly := dpa_len hay
      obtain ⟨hw1, hw2⟩ := hw
      refine ⟨_, rfl, by show 2 ≤ sizeLine; decide, fun t nt => ?_⟩
      have s1 : Same H (upd H t (.tup [.ty "list", .ty "tuple"])) := same_new nt
      have hsx1 := same_tup s1 hsx
      have hsy1 := same_tup s1 hsy
      refine ⟨_, t, _, _, _, _, rfl, upd_same, cls2 _ _, ty_tup hsy1, any_lt_tuple, _, rfl, iteT ?_⟩
      refine ⟨_, rfl, _, _, _, _, _, rfl, .ty _, ty_tup hsx1, one_tuple_list, _, rfl, _, _, _, _, _, rfl, .ty _, ty_tup hsy1, one_tuple_list, rfl, _, rfl, iteNS rfl ?_⟩
      refine ⟨_, rfl, _, _, _, _, _, rfl, .ty _, ty_tup hsx1, one_tuple_tuple, _, rfl, _, _, _, _, _, rfl, .ty _, ty_tup hsy1, one_tuple_tuple, rfl, _, rfl, iteNS rfl ?_⟩
      refine ⟨_, rfl, a, xs, rfl, .inr hsx1, _, rfl, b, ys, rfl, .inr hsy1, rfl, _, rfl, ?_⟩
      rw [decide_eq_true (show V.int (xs.length : Int) = V.int (ys.length : Int) by rw [hlx, hly])]
      refine iteT ⟨_, rfl, _, rfl, a, b, xs, ys, rfl, .inr ⟨hsx1, hsy1, fun D nD => ?_⟩⟩
      have nD0 : H D = none := s1.free nD
      refine lc_it (walk_zipT (n := xs.length) (by omega)) (fun i H' => Same H H' ∧ H' D = some (.lst (List.replicate i (.bl true)))) ⟨s1.trans (same_new nD), upd_same⟩ (fun i H' _ h => ⟨same_tup h.1 hsx, same_tup h.1 hsy⟩) (fun i v H1 H2 hi h yy => ?_) (fun H' h => ?_)
      · obtain ⟨sm, eD⟩ := h
        obtain ⟨tp, u, v, rfl, nT, rfl, g1, g2⟩ := yy
        obtain ⟨d1, e1, f1⟩ := dpa_get hax g1
        obtain ⟨d2, e2, f2⟩ := dpa_get hay g2
        cases Option.some.inj (e1.symm.trans e2)
        have st : Same H (upd H1 tp (.tup [u, v])) := sm.trans (same_new nT)
        refine ⟨tp, _, rfl, .inl (.inl upd_same), rfl, _, _, rfl, _, _, rfl, rfl, rfl, yes_if ?_⟩
        refine ⟨_, rfl, _, rfl, u, v, d1, rfl, dp_same st f1, dp_same st f2, ?_, narrow_get hw2 e1, fun H3 s3 => ⟨_, s3 _ _ (same_new nT _ _ eD), ?_, ?_, ?_⟩⟩
        · have := depth_get e1
          have hd' : PyData.depthAll ds + 1 < n + 1 := hd
          omega
        · rw [List.length_replicate]
          exact line_big (by omega)
        · intro c o hc
          rw [upd_ne (ne_of_none hc nD0)]
          exact s3 _ _ (st _ _ hc)
        · rw [upd_same, List.replicate_succ']
      · obtain ⟨sm, eD⟩ := h
        refine ⟨D, List.replicate xs.length true, rfl, ?_, ?_⟩
        · rw [List.map_replicate]
          exact .inl (.inl eD)
        · rw [all_rep]
          exact q _ sm
theorem ok_same (T : Env K mg) : ∀ n : Nat, FnOk P w K mg base CX0 n T.f_same T.d_same ["_law_found", "_law_due"] (spSame K n)
  | 0 => fn_never fun vs H Q E h => by
    obtain ⟨x, y, d, _, _, _, hd, _⟩ := h
    exact absurd hd (Nat.not_lt_zero _)
  | n + 1 => same_step T n (ok_same T n)
end
end Pc
namespace Pc
open PySem PySem.Spec PyProof.Rows L2 RZ
/-! ### enumerate of a tuple -/
theorem draws_tuple {prog : Program} {w : World} {A : Around} (hh : A.handled = none) (it l : Addr) (hne : l ≠ it) (items : Array Value) :
    Draws prog w A it [it, l] items.size (fun i v => items[i]? = some v) (fun i h => h.IsTupleIter it l i ∧ h.IsTuple l items) where
  live i h st := by
    obtain ⟨⟨o, ho, _⟩, _⟩ := st
    exact ⟨o, ho⟩
  frame i h h' st hk := ⟨Heap.IsTupleIter.at st.1 (hk it (by simp)), Heap.IsTuple.at st.2 (hk l (by simp))⟩
  item i s Q E hi st hQ := by
    have hx : items[i]? = some items[i] := by simp [hi]
    exact nextOf_tuple_item st.1 st.2 hx fun h' hit' hs' => hQ _ h' s.toks hx ⟨hit', st.2.extBut hs'.extBut hne⟩ hs'
  done s Q E st hE := nextOf_tuple_end hh st.1 st.2 (by simp) hE
set_option maxHeartbeats 4000000 in
theorem enum_newT (l : Addr) (items : Array Value) (n : Nat) (dct : Option Addr) (sl : Array (Option Value)) :
    Meets (Builtin.«enumerate.__new__» ⟨[.type "enumerate", .ref l], []⟩) (fun _ R s =>
      s.heap.get? l = some { cls := .type "tuple", dict := dct, data := .seq items n, slots := sl } ∧
      R (.ok (.ret (.ref (s.heap.push { cls := .type "tuple_iterator", data := .fields #[.ref l, .int 0 0] }).objs.size)))
        { s with heap := Heap.push (s.heap.push { cls := .type "tuple_iterator", data := .fields #[.ref l, .int 0 0] }) { cls := .type "enumerate", data := .fields #[.none, .bool false, .ref s.heap.objs.size, rawInt 0, .none, .none] } }) := by
  refine .of_wp fun prog w A R s h => ?_
  obtain ⟨hp, g, d, tk, os⟩ := s
  obtain ⟨hl, h⟩ := h
  have subE := sub_enumerate
  have isT : Heap.IsTuple (Shared.heap ⟨hp, g, d, tk, os⟩) l items := ⟨_, hl, rfl, n, rfl⟩
  wp_walk using AutoSeq1.wpAny_loadPart' hl
  refine wpAny_stack_any fun st => wpAny_pure ?_
  split
  · rename_i c _ _ _ _ _
    cases (c == Value.type "enumerate") <;> (wp_walk using AutoSeq1.wpAny_loadPart' hl, wpAny_pyIter_tuple isT; exact ⟨_, rfl, h⟩)
  · wp_walk using AutoSeq1.wpAny_loadPart' hl, wpAny_pyIter_tuple isT
    exact ⟨_, rfl, h⟩
theorem call_enumT {prog : Program} {w : World} {A : Around} {E : Value → Shared → Prop} {s : Shared} {l : Addr} {items : Array Value} {Q : Value → Shared → Prop} (hL : s.heap.IsTuple l items)
    (h : ∀ h', IsEnum h' (s.heap.objs.size + 1) s.heap.objs.size 0 .none → h'.IsTupleIter s.heap.objs.size l 0 →
      (∀ b o, s.heap.get? b = some o → h'.get? b = some o) → Q (.ref (s.heap.objs.size + 1)) { s with heap := h' }) :
    wpAny (model prog w) A (call (.type "enumerate") [.ref l]) Q E s := by
  obtain ⟨⟨c, dct, dt, sl⟩, hl, hc, n, hd⟩ := hL
  have hc' : c = .type "tuple" := hc
  have hd' : dt = .seq items n := hd
  subst hc' hd'
  refine callType_new F.called_enumerate (by decide) (F.typeCall_enumerate_1 _) (F.newCall_enumerate_1 _) (fun obj => F.args_object_init_2 obj _) F.entry_enumerate_new (enum_newT l items n dct sl) ⟨hl, ?_⟩
  have hz : (s.heap.push { cls := .type "tuple_iterator", data := .fields #[.ref l, .int 0 0] }).objs.size = s.heap.objs.size + 1 := Heap.size_push ..
  have he := Heap.get?_push_size (s.heap.push { cls := .type "tuple_iterator", data := .fields #[.ref l, .int 0 0] })
    (o := { cls := .type "enumerate", data := .fields #[.none, .bool false, .ref s.heap.objs.size, rawInt 0, .none, .none] }) rfl
  rw [hz] at he
  show _ ∧ _
  rw [hz]
  exact ⟨⟨_, he, rfl⟩, h _ he ⟨{ cls := .type "tuple_iterator", data := .fields #[.ref l, .int 0 0] }, Heap.get?_push_of_some _ (Heap.get?_push_size _ rfl), rfl, rfl⟩ fun b o x => Heap.get?_push_of_some _ (Heap.get?_push_of_some _ x)⟩
/-- the tuple at a, its items in new pairs with their places -/
def IteT (K : PySem.W.Frag) (a : Addr) : It where
  go i H := ∃ (xs : List V) (x : V), SqT K H a xs ∧ xs[i]? = some x
  yld i H v H' := ∃ T x, v = .ref T ∧ H T = none ∧ H' = upd H T (.tup [.int (i : Nat), x]) ∧ ∀ xs, SqT K H a xs → xs[i]? = some x
  stop i H := ∃ xs : List V, SqT K H a xs ∧ xs.length ≤ i
theorem turn_enumT {P : Program} {w : World} {K : PySem.W.Frag} {elts : List Expr} {kk : Nat} {tpos : Pos} (a e it : Addr) (hei : e ≠ it) (hae : a ≠ e) (hai : a ≠ it) :
    Turn P w K (.Tuple elts kk tpos) (IteT K a) [e, it] e (fun i h => (∃ old, IsEnum h e it ((i : Nat) : Int) old) ∧ h.IsTupleIter it a i) where
  mem := by simp
  obj i h st b hb := by
    obtain ⟨⟨old, he⟩, ⟨o, ho, hc, hd⟩⟩ := st
    rcases (show b = e ∨ b = it by simpa using hb) with z | z
    · rw [z]; exact ⟨_, he, fun v q => nomatch q⟩
    · rw [z]; exact ⟨o, ho, fun v q => by rw [hd] at q; cases q⟩
  keep i h h' st k := by
    obtain ⟨⟨old, he⟩, hi⟩ := st
    exact ⟨⟨old, k e (by simp) _ he⟩, hi.at fun o q => k it (by simp) o q⟩
  item := by
    intro X hP hw hK hc i pins s σ H E I hf st hg
    subst hP hw hK
    obtain ⟨⟨old, he⟩, hit⟩ := st
    obtain ⟨xs, x, hq, hx⟩ := hg
    obtain ⟨its, rv, p, hz⟩ := I.tuple hq
    have p2 : s.heap.IsTuple a its.toArray := p
    obtain ⟨u, hu, ru⟩ := rv.get hx
    have hlt : i < its.toArray.size := by
      rw [List.size_toArray]
      exact get_lt hu
    have D := draws_tuple (prog := X.prog) (w := X.w) (A := X.A.in1) (show X.A.in1.handled = none from I.ok.hd hc) it a hai its.toArray
    have hel : e < s.heap.objs.size := Heap.lt_size he
    have hil : it < s.heap.objs.size := by obtain ⟨_, q, _⟩ := hit; exact Heap.lt_size q
    refine wpAny_pyNext_enum_itemD D he ⟨hit, p2⟩ hlt hei (by simp [hei, hae.symm]) fun y h' tk hy ho hst hT hsz hk => ?_
    have ey : y = u := by
      have : its.toArray[i]? = some y := hy
      rw [List.getElem?_toArray, hu] at this
      exact (Option.some.inj this).symm
    subst ey
    refine ⟨_, rfl, wpAny_letOwnedTupleGo_enum (s := { s with heap := h', toks := tk + 1 }) ho fun h'' he' sb => ?_⟩
    have hT2 : h''.get? s.heap.objs.size = some { cls := .type "tuple", data := .seq #[.int i tk, y] } := (sb.2 _ (Nat.ne_of_gt hel)).trans hT
    have new : ObjOk X.prog X.w (upd H s.heap.objs.size (.tup [.int (i : Nat), x])) h'' s.heap.objs.size (.tup [.int (i : Nat), x]) :=
      ⟨by show 2 ≤ sizeLine; decide, [.int i tk, y], .cons ⟨_, rfl⟩ (.cons ru .nil), ⟨_, hT2, rfl, _, rfl⟩⟩
    have I1 := I.turnedNew (t' := tk + 1) (h' := h'') (ch := [e, it]) (fun b ob hb q => (sb.2 b (fun z => hb (by simp [z]))).trans (hk b ob (fun z => hb (by simp [z])) (fun z => hb (by simp [z])) q)) hf (Nat.le_refl _) new
    refine ⟨.ref s.heap.objs.size, _, I1, rfl, ⟨_, x, rfl, I.hok.fresh (Nat.le_refl _), rfl, fun ys hy => by rw [I.tuple_inj hy hq]; exact hx⟩, ⟨⟨y, ?_⟩, hst.1.at fun o q => (sb.2 it hei.symm).trans q⟩, fun b hb => ?_⟩
    · rw [show ((i + 1 : Nat) : Int) = (i : Int) + 1 by omega]; exact he'
    · have hb' : b < s.heap.objs.size := by
        rcases (show b = e ∨ b = it by simpa using hb) with z | z
        · rw [z]; exact hel
        · rw [z]; exact hil
      rw [upd_ne (Nat.ne_of_lt hb')]
      exact (hf b hb).1
  done := by
    intro X hP hw hK hc i pins s σ H E I hf st hg
    subst hP hw hK
    obtain ⟨⟨old, he⟩, hit⟩ := st
    obtain ⟨xs, hq, hx⟩ := hg
    obtain ⟨its, rv, p, hz⟩ := I.tuple hq
    have p2 : s.heap.IsTuple a its.toArray := p
    obtain ⟨f0, f1, f2, f3, f4, f5⟩ := hf it (by simp)
    have hl := rv.length
    have hT : s.TypeIs (.ref e) "enumerate" := ⟨_, he, rfl⟩
    unfold pyNext
    refine wpAny_bind (wpAny_attempt (wpAny_callSpecial?_slot (name := Str.ofString "__next__") hT F.slot_enumerate_next (wpAny_call_entry F.slot_enumerate_next hT F.entry_enumerate_next ?_ (F.args_enumerate_next_1 _))))
    show wpAny _ _ (field (.ref e) 2 >>= _) _ _ _
    refine wpAny_bind (wpAny_field he rfl (x := .ref it) rfl ?_)
    refine wpAny_bind (nextOf_tuple_end (show X.A.in1.handled = none from I.ok.hd hc) hit p2 (by simp; omega) fun h' x he' hx' => ?_)
    obtain ⟨o, ho, hcl⟩ := hx'
    refine wpAny_bind (wpAny_isInstance (T := "StopIteration") (b := true) ⟨o, ho, hcl⟩ isSubtype_stop ?_)
    exact wpAny_pure ⟨rfl, I.turned (t' := s.toks) (fun b o hb q => he' b o hb q) f0 f1 f3 f4 f5⟩
  self A i s Q E st h := by
    obtain ⟨⟨_, he⟩, _⟩ := st
    exact wpAny_pyIter_enum he h
/-- enumerate of a list or a tuple -/
def iEnumA (K : PySem.W.Frag) (ta : TA) : TI := fun σ H R => ta σ H fun vs H1 => ∃ a xs, vs = [.ref a] ∧ ((SqL K H1 a xs ∧ R (Ite K a) H1) ∨ (SqT K H1 a xs ∧ R (IteT K a) H1))
theorem pi_enumA {X : Cx} {e : Expr} {ta : TA} {p pos tpos : Pos} {elts : List Expr} {kk : Nat} (hg : Gl X "enumerate") (hm : X.mg "enumerate" = none) (ha : PA X [e] ta) (hs : starEach [e] X.env = [(false, eval e X.env)] := by rfl) :
    PI X (.Tuple elts kk tpos) (.Call (.Name "enumerate" p) [e] [] pos) (iEnumA X.K ta) := by
  constructor
  intro pins s σ H R I h
  refine Call_ (ld_blt I hg hm boot_enumerate (callWith_type1 (thn (ha.run pos pins s σ H _ I h) fun us s1 r => ?_) hs rfl))
  obtain ⟨vs, H1, I1, r1, a, xs, ex, q1⟩ := r
  subst ex
  cases r1 with
  | cons r rr =>
    cases rr
    cases r
    have fr : ∀ b, b ∈ [s1.heap.objs.size + 1, s1.heap.objs.size] → FpOk X pins H1 b := fun b hb => by
      have hle : s1.heap.objs.size ≤ b := by
        rcases (show b = s1.heap.objs.size + 1 ∨ b = s1.heap.objs.size by simpa using hb) with z | z <;> omega
      exact I1.fpOk hle (I1.hok.fresh hle)
    rcases q1 with ⟨hq, q⟩ | ⟨hq, q⟩
    · obtain ⟨its, rv, p', hz⟩ := I1.list hq
      refine call_enumerate_list p'.isList fun h' he hit _ hk => wpAny_pyIter_enum he ?_
      exact ⟨_, _, _, _, H1, rfl, I1.kept (t' := s1.toks) hk, turn_enum a (s1.heap.objs.size + 1) s1.heap.objs.size, ⟨⟨.none, he⟩, hit, Nat.succ_ne_self _⟩, fr, q⟩
    · obtain ⟨its, rv, p', hz⟩ := I1.tuple hq
      have p2 : s1.heap.IsTuple a its.toArray := p'
      have hlt : a < s1.heap.objs.size := by obtain ⟨o, ho, _⟩ := p2; exact Heap.lt_size ho
      refine call_enumT p2 fun h' he hit hk => wpAny_pyIter_enum he ?_
      exact ⟨_, _, _, _, H1, rfl, I1.kept (t' := s1.toks) hk, turn_enumT a (s1.heap.objs.size + 1) s1.heap.objs.size (Nat.succ_ne_self _) (Nat.ne_of_lt (Nat.lt_succ_of_lt hlt)) (Nat.ne_of_lt hlt), ⟨⟨.none, he⟩, hit⟩, fr, q⟩
theorem walk_enumT {K : PySem.W.Frag} {a : Addr} {xs : List V} : Walk (IteT K a) xs.length (fun H => SqT K H a xs) (YPair (fun i => some (.int (i : Nat))) (fun i => xs[i]?)) where
  goes i H hi q := by
    obtain ⟨x, hx⟩ := get_some hi
    exact ⟨xs, x, q, hx⟩
  stops H q := ⟨xs, q, Nat.le_refl _⟩
  yields i H v H' hi q y := by
    obtain ⟨T, x, h1, h2, h3, h4⟩ := y
    exact ⟨T, .int (i : Nat), x, h1, h2, h3, rfl, h4 xs q⟩
end Pc
namespace Pc
open PySem PySem.Spec PyProof.Rows L2 RZ
/-! ### t[::-1] of a pair -/
section
variable {prog : Program} {w : World} {A : Around} {E : Value → Shared → Prop} {s : Shared}
theorem applied_rev2 {sl : Addr} {vk : Value} {Q : Int × Int × Nat → Shared → Prop} (hs : s.heap.IsSliceOf sl .none .none vk) (pk : IsPart vk (some (-1))) (h : Q (1, -1, 2) s) :
    wpAny (model prog w) A (Builtin.Slice.sliceApplied (.ref sl) (pure (2 : Int))) Q E s := by
  obtain ⟨os, hos, hcs, hds⟩ := id hs
  unfold Builtin.Slice.sliceApplied Builtin.Slice.sliceFields
  refine wpAny_bind (wpAny_bind (wpAny_field hos hds (x := .none) rfl ?_))
  refine wpAny_bind (wpAny_field hos hds (x := .none) rfl ?_)
  refine wpAny_bind (wpAny_field hos hds (x := vk) rfl (wpAny_pure ?_))
  refine wpAny_bind (HT.slicePart_ pk ?_)
  show wpAny _ _ (if ((-1 : Int) == 0) = true then _ else _) _ _ s
  rw [if_neg (by decide)]
  refine wpAny_bind (HT.slicePart_ .none (wpAny_bind (HT.slicePart_ .none (wpAny_bind (wpAny_pure ?_)))))
  exact wpAny_pure h
theorem item_rev2 {t sl : Addr} {u v vk : Value} {Q : Value → Shared → Prop} (ht : IsTup s.heap t #[u, v]) (hs : s.heap.IsSliceOf sl .none .none vk) (pk : IsPart vk (some (-1)))
    (h : Q (.ref s.heap.objs.size) { s with heap := s.heap.push { cls := .type "tuple", data := .seq #[v, u] } }) : wpAny (model prog w) A (getItem (.ref t) (.ref sl)) Q E s := by
  obtain ⟨os, hos, hcs, hds⟩ := id hs
  have hTs : s.TypeIs (.ref sl) "slice" := ⟨os, hos, hcs⟩
  unfold getItem
  try with_reducible refine wpAny_holding ?_
  first | refine wpAny_bind (wpAny_pure ?_) | skip
  refine wpAny_bind (wpAny_sequenceKey ht.typeIs (by decide) ?_)
  refine wpAny_bind (wpAny_callSpecial?_slot (name := Str.ofString "__getitem__") ht.typeIs PyProof.Rows.slot_tuple_getitem (wpAny_call_entry PyProof.Rows.slot_tuple_getitem ht.typeIs entry_tuple_getitem ?_ (args_tuple_getitem _ _)))
  show wpAny _ _ (Builtin.Tuple.tupleItemsOf (.ref t) >>= _) _ _ s
  refine wpAny_bind (tupleItemsOf_ ht ?_)
  refine wpAny_bind (wpAny_typeOf hTs ?_)
  rw [if_pos (by decide)]
  refine wpAny_bind (applied_rev2 hs pk ?_)
  show wpAny _ _ (if ((1 : Int) == 0 && (-1 : Int) == 1 && (2 : Nat) == 2) = true then _ else _) _ _ s
  rw [if_neg (by decide)]
  have e : ((List.range 2).filterMap fun (k : Nat) => (#[u, v] : Array Value)[((1 : Int) + (k : Int) * -1).toNat]?).toArray = #[v, u] := rfl
  rw [e]
  have hz : sizeOk (.seq (#[v, u] : Array Value)) := by show 2 ≤ sizeLine; decide
  first
    | exact wpAny_bind (m := Builtin.Tuple.tupleExact _) (wpAny_newObj_type (wpAny_pure ⟨_, rfl, wpAny_pure h⟩) hz)
    | exact wpAny_bind (wpAny_bind (m := Builtin.Tuple.tupleExact _) (wpAny_newObj_type (wpAny_pure (wpAny_pure ⟨_, rfl, wpAny_pure h⟩)) hz))
    | exact wpAny_bind (wpAny_bind (m := Builtin.Tuple.tupleExact _) (wpAny_newObj_type (wpAny_pure ⟨_, rfl, wpAny_pure h⟩) hz))
    | exact wpAny_bind (m := Builtin.Tuple.tupleExact _) (wpAny_newObj_type (wpAny_bind (wpAny_pure (wpAny_pure ⟨_, rfl, wpAny_pure h⟩))) hz)
end
def tRev2 (K : PySem.W.Frag) (te : TE) : TE := fun σ H Q => te σ H fun x H1 => ∃ a y z, x = .ref a ∧ SqT K H1 a [y, z] ∧ ∀ p, H1 p = none → Q (.ref p) (upd H1 p (.tup [z, y]))
theorem pe_rev2 {X : Cx} {e : Expr} {te : TE} {k : Nat} {p1 p2 p3 pos : Pos} (he : PE X e te) : PE X (.Subscript e (.Slice none none (some (.UnaryOp .USub (.Constant (.int 1) k p1) p2)) p3) pos) (tRev2 X.K te) := by
  constructor
  intro pins s σ H Q I h
  refine Subscript_ (thn (he.run pins s σ H _ I h) fun v s1 r => ?_)
  obtain ⟨x, H1, I1, r1, a, y, z, ex, hx, q⟩ := r
  subst ex
  cases r1
  have hst : PO X (some (.UnaryOp .USub (.Constant (.int 1) k p1) p2)) (tPart (tUn (rU fun i => .int (-i)) (tC (.int 1)))) := po_some (pe_un un_neg pe_int)
  refine wpAny_Slice (thn (po_none.run pins s1 σ H1 (fun o H2 => o = none ∧ H2 = H1) I1 ⟨rfl, rfl⟩) fun vl s2 ⟨l, H2, I2, pl, el, e2⟩ => ?_)
  subst el e2
  refine thn (po_none.run pins s2 σ H2 (fun o H3 => o = none ∧ H3 = H2) I2 ⟨rfl, rfl⟩) fun vu s3 ⟨u, H3, I3, pu, eu, e3⟩ => ?_
  subst eu e3
  refine thn (hst.run pins s3 σ H3 (fun o H4 => o = some (-1) ∧ H4 = H3) I3 ⟨1, rfl, -1, rfl, rfl, rfl⟩) fun vs s4 ⟨o, H4, I4, ps, eo, e4⟩ => ?_
  subst eo e4
  cases pl
  cases pu
  have I5 : Inv X pins σ H4 { s4 with heap := s4.heap.push { cls := .type "slice", data := .fields #[.none, .none, vs] } } := I4.kept (t' := s4.toks) fun b ob q => Heap.get?_push_of_some _ q
  obtain ⟨its, r, ht, hz⟩ := I5.tuple hx
  obtain ⟨w1, w2, ei, r1, r2⟩ := vals2 r
  subst ei
  show wpAny (model X.prog X.w) X.A (subscriptTail e (.Slice none none (some (.UnaryOp .USub (.Constant (.int 1) k p1) p2)) p3) (.ref a) (.ref s4.heap.objs.size)) (EP X pins σ Q) X.xe _
  refine tail_any (ops := [.ref a, .ref s4.heap.objs.size]) ht.typeIs PyProof.Rows.slot_tuple_getitem.lookup ?_ (by with_unfolding_all rfl)
  refine item_rev2 ht (Heap.IsSliceOf.new _ .none .none vs) ps ?_
  refine ⟨.ref _, _, I5.laid (t' := s4.toks) (o := .tup [z, y]) (fun b ob q => Heap.get?_push_of_some _ q) (Nat.le_refl _) ?_, rfl, q _ (I5.hok.fresh (Nat.le_refl _))⟩
  exact ⟨by show 2 ≤ sizeLine; decide, [w2, w1], .cons r2 (.cons r1 .nil), IsTup.new _ _⟩
end Pc
namespace Pc
open PySem PySem.Spec PyProof.Rows L2 RZ
/-! ### defs that run where no repr is under way (repr asks for that) -/
structure FnG (P : Program) (w : World) (K : PySem.W.Frag) (mg : Str → Option Value) (base : Heap) (CX : CXT) (k : Nat) (f : Addr) (fd : FuncData) (ps : List Str) (sp : Sp) : Prop where
  len : ∀ vs H Q E, sp vs H Q E → vs.length = ps.length
  run : ∀ (A : Around) (outer : List PySem.Env) (s : Shared) (H : Hp) (args : Args) (us : List Value) (vs : List V) (Q : VK) (E : XK), Room k A → A.guards = some [] → Env0 P w K mg base A outer s H →
    BindsTo s fd args (ps.zip us) → Vals vs us → sp vs H Q E → codeAny (model P w) A (.call (.ref f) args) (CR CX outer P w H s Q E) s
section
variable {P : Program} {w : World} {K : PySem.W.Frag} {mg : Str → Option Value} {base : Heap}
theorem fun_g {x qual : Str} {st : Stmt} {f : Addr} {fd : FuncData} {N ps : List Str} {k : Nat} {sp : Sp} (F : Fun K x qual st f fd) (S : FnScope N ps (defScope st)) (len : ∀ vs H Q E, sp vs H Q E → vs.length = ps.length)
    (hbody : ∀ (cdv : Value) (A : Around) (outer : List PySem.Env) (s : Shared) (H : Hp) (vs : List V) (Q : VK) (E : XK), Room k (A.deeper (envOfC qual (defScope st) s.heap.objs.size f cdv)) → A.guards = some [] → sp vs H Q E →
      ∃ t, PSs (cxOf CX0 P w K mg base N qual (defScope st) f cdv A outer s H E).nox (defBody st) t ∧ t { nx := fun _ H' => Q .non H', rt := Q } (start N vs) H) : FnG P w K mg base CX0 (k + 1) f fd ps sp := by
  obtain ⟨oc, od, kV, doc, pm, an, cdv, ct, osl, rfl, lk, hcd⟩ := F.ex
  constructor
  · exact len
  intro A outer s H args us vs Q E hr hgd e0 hb r hsp
  have hl := len _ _ _ _ hsp
  have up : ∀ b o, base.get? b = some o → s.heap.get? b = some o := fun b o e => (e0.bs b o e).1
  have KX : K.In s.heap := e0.mod.kin.keeps up
  have lim : s.heap.NoLimit := e0.mod.nolimit.keeps up
  obtain ⟨t, ht, hq⟩ := hbody cdv A outer s H vs Q E (hr.deeper _) hgd hsp
  refine codeAny_call_function hr.depth (KX _ _ lk) rfl S.co S.gen rfl (PySem.W.codeRec_of KX hcd) (hb _ _ _ _ ?_)
  refine wpAny_newFunctionEnv_cells S.kind ?_ ?_
  · rintro ⟨n, v⟩ hy
    rcases S.par n (List.of_mem_zip hy).1 with z | z
    · exact Or.inl z
    · exact Or.inr ⟨z, PySem.W.cellsFrom_some _ _ _ (Or.inl z)⟩
  intro env he s1 x
  subst he
  refine ⟨lim.keeps x.toInCall.keep, codeAny_func ?_⟩
  have I := inv_start (CX := CX0) (E := E) S hr.hd e0 hl r x
  refine wpAny_mono (ht.nox.run [] s1 (start N vs) H _ I hq) ?_ (fun _ _ z => z)
  intro fl s' hs
  cases fl with
  | brk => obtain ⟨_, _, _, z⟩ := hs; exact z.elim
  | cont => obtain ⟨_, _, _, z⟩ := hs; exact z.elim
  | next =>
    obtain ⟨σ', H', J, z⟩ := hs
    exact ⟨V.non, H', J.os, J.bare, J.base, J.hok, rfl, z⟩
  | ret u =>
    obtain ⟨v, σ', H', J, rv, z⟩ := hs
    exact ⟨v, H', J.os, J.bare, J.base, J.hok, rv, z⟩
end
section
variable {X : Cx} {CX : CXT} {k : Nat} {f : Addr} {fd : FuncData} {ps : List Str} {sp : Sp} {x : Str} {e : Expr} {es : List Expr} {ds : List Value} {dvs : List V} {E : XK} {t : TA} {p pos : Pos}
theorem pe_callG (F : FnG X.prog X.w X.K X.mg X.base CX k f fd ps sp) (hr : Room k X.A) (hgd : X.A.guards = some []) (hg : Gl X x) (hm : X.mg x = some (.ref f)) (hk : PySem.W.keepIn X.K (.ref f) = true) (hb : Binds X.K fd ps ds) (hd : Vals dvs ds) (hx : Passes CX X E)
    (ha : PA X (e :: es) t) (hdb : (x == ("__debug__" : Str)) = false := by decide) (he : starEach (e :: es) X.env = (false, eval e X.env) :: starEach es X.env := by rfl) (hpl : (backTo pos (starEach es X.env)).any (·.1) = false := by rfl) :
    PE X (.Call (.Name x p) (e :: es) [] pos) (tCall sp dvs E t) := by
  constructor
  intro pins s σ H Q I h
  refine wpAny_Call_Name_kw (ld_glob I hg hm ?_ hdb)
  refine PySem.W.callWith_K (h₀ := X.base) I.ok.mod.kin hk (thn (ha.run pos pins s σ H _ I h) ?_) he hpl
  rintro us s1 ⟨vs, H1, I1, r, q⟩
  refine ⟨I1.kIn, ?_⟩
  have r2 : Vals (vs ++ dvs) (us ++ ds) := r.append hd
  have hl : (us ++ ds).length = ps.length := by
    rw [← r2.length]
    exact F.len _ _ _ _ q
  refine wpAny_call (codeAny_mono (F.run X.A X.stack s1 H1 ⟨us, []⟩ (us ++ ds) (vs ++ dvs) Q E hr hgd I1.env0 (hb s1 us I1.kIn hl) r2 q) ?_)
  intro res s' hq
  cases res with
  | error e => exact hx pins σ H1 s1 e s' I1 hq
  | ok fl =>
    cases fl with
    | ret u => exact I1.after hq
    | next => exact hq.elim
    | brk => exact hq.elim
    | cont => exact hq.elim
end
/-! ### the law's own call, where no repr is under way -/
theorem law_g {P : Program} {w : World} {K : PySem.W.Frag} {mg mb : Str → Option Value} {CX : CXT} {k : Nat} {fa a : Addr} {fd : FuncData} {x : Str} {sp : Sp} {s₁ : Shared} {vs : List Value} {ns : List Int}
    (KX : K.In s₁.heap) (hns : s₁.heap.Ns mainGlobals mg) (hb : s₁.heap.Ns builtinsNs mb) (hbb : ∀ x : Str, x ≠ "__name__" → mb x = bootBuiltins x) (hlim : s₁.heap.NoLimit) (hg : s₁.gens = #[])
    (ha : s₁.heap.get? a = some { cls := .type "list", data := .seq vs.toArray }) (hi : IntsAre vs ns) (hl : ns.length ≤ sizeLine) (hr : Room k callerA)
    (F : ∀ base : Heap, K.In base → base.Ns mainGlobals mg → FnG P w K mg base CX k fa fd [x] sp) (hbind : ∀ (s : Shared) (u : Value), BindsTo s fd ⟨[u], []⟩ [(x, u)])
    (hsp : ∀ H : Hp, SqL K H a (ns.map V.int) → sp [.ref a] H (fun v _ => v = .bl true) fun _ _ _ => False)
    (hCX : ∀ H e s', CX [] H s₁ (fun _ _ _ => False) e s' → False) :
    codeAny (model P w) callerA (.call (.ref fa) ⟨[.ref a], []⟩) (fun r s' => r = .ok (.ret (.bool true)) ∧ OldK s₁.heap s'.heap ∧ s'.os = s₁.os ∧ AllBare s'.gens) s₁ := by
  have rv := vals_ints hi
  have len0 := hi.length
  let lo : Obj := { cls := .type "list", data := .seq vs.toArray }
  have main : ∀ H : Hp, SqL K H a (ns.map V.int) → HOk P w H s₁.heap → (∀ b u, H b = some u → b = a ∧ u = .frz lo (.lst (ns.map V.int)) ∧ K.lookup a = none) →
      codeAny (model P w) callerA (.call (.ref fa) ⟨[.ref a], []⟩) (fun r s' => r = .ok (.ret (.bool true)) ∧ OldK s₁.heap s'.heap ∧ s'.os = s₁.os ∧ AllBare s'.gens) s₁ := by
    intro H hS hok hA
    have free : ∀ {b : Addr} {o : Obj}, s₁.heap.get? b = some o → (∀ n, o.data ≠ .seq vs.toArray n) → H b = none := by
      intro b o e d
      cases z : H b with
      | none => rfl
      | some u =>
        obtain ⟨rfl, _⟩ := hA b u z
        rw [ha] at e
        cases e
        exact absurd rfl (d _)
    have nsK : ∀ {b : Addr} {m : Str → Option Value}, s₁.heap.Ns b m → (hidT s₁.heap H).Ns b m := by
      rintro b m ⟨o, es, ep, e, d, r⟩
      exact ⟨o, es, ep, hidT_get e (free e fun n => by rw [d]; exact fun z => nomatch z), d, r⟩
    have hKb : K.In (hidT s₁.heap H) := by
      intro b o e
      refine hidT_get (KX b o e) ?_
      cases z : H b with
      | none => rfl
      | some u =>
        obtain ⟨rfl, _, hn⟩ := hA b u z
        rw [hn] at e
        cases e
    obtain ⟨mc, l1, l2⟩ := hlim
    have e0 : Env0 P w K mg (hidT s₁.heap H) callerA [] s₁ H :=
      { frames := rfl, mod := ⟨hKb, nsK hns, ⟨mb, nsK hb, hbb⟩, ⟨mc, nsK l1, l2⟩⟩, bs := fun b o e => of_hidT e, bsz := Nat.le_of_eq (hidT_size _ _), funs := trivial, frf := fun b hb => absurd (show b ∈ ([] : List Addr) from hb) (by simp), hok := hok, bare := .of_eq hg }
    have R := (F _ hKb (nsK hns)).run callerA [] s₁ H ⟨[.ref a], []⟩ [.ref a] [.ref a] _ _ hr rfl e0 (hbind s₁ (.ref a)) (.cons rfl .nil) (hsp H hS)
    refine codeAny_mono R ?_
    intro res s' h
    cases res with
    | error e => exact (hCX H e s' h).elim
    | ok fl =>
      cases fl with
      | next => exact h.elim
      | brk => exact h.elim
      | cont => exact h.elim
      | ret u =>
        obtain ⟨v, H', os, bare, un, hok', r', q⟩ := h
        have q' : v = .bl true := q
        subst q'
        obtain rfl : u = Value.bool true := r'
        refine ⟨rfl, OldK.of_keep ?_, os, bare⟩
        intro b o e
        cases z : H b with
        | none => exact un.keep b o e z (fun y => absurd (show b ∈ ([] : List Addr) from y) (by simp)) (by simp)
        | some u =>
          obtain ⟨rfl, rfl, _⟩ := hA b u z
          obtain ⟨g1, _⟩ := hok _ _ z
          obtain ⟨g2, _⟩ := hok' _ _ (un.frzs _ lo _ z)
          rw [e] at g1
          cases g1
          exact g2
  cases hk : K.lookup a with
  | some o =>
    have e := KX a o hk
    rw [ha] at e
    cases e
    refine main (fun _ => none) ?_ (fun b u z => nomatch z) (fun b u z => nomatch z)
    exact Or.inr ⟨_, vs.toArray, _, hk, rfl, rfl, rfl, by rw [List.size_toArray, len0]; exact hl, by simpa using rv⟩
  | none =>
    have sp1 : ∀ b u, (upd (fun _ => none) a (.frz lo (.lst (ns.map V.int)))) b = some u → b = a ∧ u = .frz lo (.lst (ns.map V.int)) ∧ K.lookup a = none := by
      intro b u z
      by_cases hba : b = a
      · subst hba
        rw [upd_same] at z
        exact ⟨rfl, (Option.some.inj z).symm, hk⟩
      · rw [upd_ne hba] at z
        cases z
    refine main (upd (fun _ => none) a (.frz lo (.lst (ns.map V.int)))) (Or.inl (Or.inr ⟨lo, upd_same⟩)) ?_ sp1
    intro b u z
    obtain ⟨rfl, rfl, _⟩ := sp1 b u z
    exact ⟨ha, by rw [List.length_map]; exact hl, vs, _, rv, ha⟩
theorem walk_g {l : PySem.W.OpenLaw} {n k : Nat} {q : Program} {loose : List Str} {XP : (Str → Option Value) → Heap → Prop} {YP : World → Heap → Prop} {d : DefRec} {K : Params → PySem.W.Frag} {sp : World → Sp} {x : Str}
    (hn : l.most = some n) (hn2 : n ≤ sizeLine) (hdf : d.params.defaults = []) (hr : Room k callerA) (hY : ∀ (w : World) (h : Heap), YP w h → (K w.params).In h)
    (F : ∀ (w : World) (mg : Str → Option Value) (fa : Addr) (h : Heap), (K w.params).In h → h.Ns mainGlobals mg → mg d.name = some (.ref fa) →
      ∃ fd : FuncData, (∀ (s : Shared) (u : Value), BindsTo s fd ⟨[u], []⟩ [(x, u)]) ∧ ∀ base : Heap, (K w.params).In base → base.Ns mainGlobals mg → FnG l.prog w (K w.params) mg base CX0 k fa fd [x] (sp w))
    (hsp : ∀ (w : World) (H : Hp) (a : Addr) (ns : List Int), ns.length ≤ n → SqL (K w.params) H a (ns.map V.int) → sp w [.ref a] H (fun v _ => v = .bl true) fun _ _ _ => False) :
    PySem.W.WalkO q loose XP YP l.row.toRowW d [] (fun f vs => PySem.call f vs) := by
  refine Att.attach_call hn hdf ?_
  intro w s₀ s₁ mg mb fa o pm cd doc a vs ns G Y ho hd hcd hmg hobj hints hlen hg
  obtain ⟨fd, hb, hF⟩ := F w mg fa _ (hY w _ Y) G.T.g hmg
  exact law_g (hY w _ Y) G.T.g G.T.b G.T.builtins G.T.nolimit hg hobj hints (Nat.le_trans hlen hn2) hr hF hb (fun H hS => hsp w H a ns hlen hS) fun _ _ _ z => z
/-! ### repr of data -/
theorem call_reprD {X : Cx} (hgd : X.A.guards = some []) (hu : X.A.units + 64 < cLine) : CallR X (.builtin "repr") (fun xs H Q => ∃ (a : Addr) (d : PyData), xs = [.ref a] ∧ Dp X.K H (.ref a) d ∧ d.canLay0 = true ∧ d.showable = true ∧ d.depth ≤ 60 ∧ d.shown.length ≤ sizeLine ∧ Q (.str d.shown) H) := by
  intro pins s σ H xs us Q I r h
  obtain ⟨a, d, rfl, hd, hl, hs, hdp, hz, q⟩ := h
  obtain ⟨u, rfl, ru⟩ := vals1 r
  cases ru
  obtain ⟨as, rd⟩ := Dp.reads I d (.ref a) (.ref a) hd rfl
  refine repr_of_reads' rd hs (PyData.noDict_hsm (PyData.hasDict_of_canLay d hl)) hgd (by omega) (fun _ _ e => e) ?_ hz
  intro h' u tk hk
  exact ⟨.str d.shown, H, I.kept (t' := tk) hk, ⟨u, rfl⟩, q⟩
end Pc
namespace Pc
open PySem PySem.Spec PyProof.Rows L2 RZ
/-! ### data of small size: its depth is at most k, its text has at most m signs -/
structure Fine (k m : Nat) (d : PyData) : Prop where
  lay : d.canLay0 = true
  show_ : d.showable = true
  depth : d.depth ≤ k
  nar : narrow d
  len : d.shown.length ≤ m
theorem Fine.mono {k m k' m' : Nat} {d : PyData} (h : Fine k m d) (hk : k ≤ k') (hm : m ≤ m') : Fine k' m' d := ⟨h.lay, h.show_, Nat.le_trans h.depth hk, h.nar, Nat.le_trans h.len hm⟩
theorem Fine.shaped {k m : Nat} {d : PyData} (h : Fine k m d) (hk : k ≤ 64) : SeqAt.shaped d = true := by
  unfold SeqAt.shaped
  rw [Bool.and_eq_true]
  exact ⟨h.lay, decide_eq_true (Nat.le_trans h.depth hk)⟩
theorem str_len (t : String) : (Str.ofString t).length = t.length := by
  rw [Str.ofString_eq_toList]
  show (t.toList.map Char.toNat).toArray.size = t.length
  rw [List.size_toArray, List.length_map, String.length_toList]
theorem log_lt {i : Int} {k : Nat} (h : i.natAbs < 2 ^ k) (hk : 0 < k) : i.natAbs.log2 < k := by
  by_cases h0 : i.natAbs = 0
  · rw [h0]; exact hk
  · exact (Nat.log2_lt h0).mpr h
theorem fine_int {i : Int} (h : i.natAbs < 2 ^ 60) : Fine 0 61 (.int i) := by
  have hl := log_lt h (by decide)
  refine ⟨rfl, decide_eq_true (Nat.lt_of_lt_of_le hl (by decide)), Nat.le_refl _, trivial, ?_⟩
  show (Str.ofString (toString i)).length ≤ 61
  rw [str_len]
  exact int_text_length_le (by decide) hl
theorem fine_nat {i : Nat} (h : i < 2 ^ 60) : Fine 0 61 (.int (i : Int)) := fine_int (by rw [Int.natAbs_natCast]; exact h)
theorem all_lay {ds : List PyData} (h : ∀ d ∈ ds, d.canLay0 = true) : PyData.canLayAll0 ds = true := by
  induction ds with
  | nil => rfl
  | cons d r ih =>
    show (d.canLay0 && PyData.canLayAll0 r) = true
    rw [h d List.mem_cons_self, ih fun x hx => h x (List.mem_cons_of_mem _ hx)]; rfl
theorem all_showable {ds : List PyData} (h : ∀ d ∈ ds, d.showable = true) : PyData.showableAll ds = true := by
  induction ds with
  | nil => rfl
  | cons d r ih =>
    show (d.showable && PyData.showableAll r) = true
    rw [h d List.mem_cons_self, ih fun x hx => h x (List.mem_cons_of_mem _ hx)]; rfl
theorem all_depth {ds : List PyData} {k : Nat} (h : ∀ d ∈ ds, d.depth ≤ k) : PyData.depthAll ds ≤ k := by
  induction ds with
  | nil => exact Nat.zero_le _
  | cons d r ih => exact Nat.max_le.mpr ⟨h d List.mem_cons_self, ih fun x hx => h x (List.mem_cons_of_mem _ hx)⟩
theorem all_shown {ds : List PyData} {m : Nat} (h : ∀ d ∈ ds, d.shown.length ≤ m) : ((PyData.shownAll ds).map (·.length)).sum ≤ ds.length * m ∧ (PyData.shownAll ds).length = ds.length := by
  induction ds with
  | nil => exact ⟨Nat.zero_le _, rfl⟩
  | cons d r ih =>
    obtain ⟨h1, h2⟩ := ih fun x hx => h x (List.mem_cons_of_mem _ hx)
    have h3 := h d List.mem_cons_self
    refine ⟨?_, congrArg (· + 1) h2⟩
    show ((d.shown :: PyData.shownAll r).map (·.length)).sum ≤ (r.length + 1) * m
    rw [List.map_cons, List.sum_cons, Nat.add_mul, Nat.one_mul]
    omega
theorem fine_list {ds : List PyData} {k m n : Nat} (h : ∀ d ∈ ds, Fine k m d) (hn : ds.length ≤ n) (hb : n ≤ 100000) : Fine (k + 1) (n * (m + 2) + 3) (.list ds) := by
  refine ⟨all_lay fun d hd => (h d hd).lay, all_showable fun d hd => (h d hd).show_, Nat.succ_le_succ (all_depth fun d hd => (h d hd).depth), ⟨Nat.le_trans hn hb, narrow_of fun d hd => (h d hd).nar⟩, ?_⟩
  obtain ⟨h1, h2⟩ := all_shown fun d hd => (h d hd).len
  have h3 := listText_len_le (PyData.shownAll ds)
  have h4 : ds.length * m ≤ n * m := Nat.mul_le_mul_right _ hn
  show (listText (PyData.shownAll ds)).length ≤ _
  rw [Nat.mul_add]
  omega
theorem fine_tuple {ds : List PyData} {k m n : Nat} (h : ∀ d ∈ ds, Fine k m d) (hn : ds.length ≤ n) (hb : n ≤ 100000) : Fine (k + 1) (n * (m + 2) + 3) (.tuple ds) := by
  refine ⟨all_lay fun d hd => (h d hd).lay, all_showable fun d hd => (h d hd).show_, Nat.succ_le_succ (all_depth fun d hd => (h d hd).depth), ⟨Nat.le_trans hn hb, narrow_of fun d hd => (h d hd).nar⟩, ?_⟩
  obtain ⟨h1, h2⟩ := all_shown fun d hd => (h d hd).len
  have h3 := tupleText_len_le (PyData.shownAll ds)
  have h4 : ds.length * m ≤ n * m := Nat.mul_le_mul_right _ hn
  show (tupleText (PyData.shownAll ds)).length ≤ _
  rw [Nat.mul_add]
  omega
/-- numbers as data -/
def nd (l : List Nat) : List PyData := l.map fun (i : Nat) => PyData.int (i : Int)
theorem nd_length (l : List Nat) : (nd l).length = l.length := List.length_map _
theorem dp_nats {K : PySem.W.Frag} {H : Hp} : ∀ l : List Nat, DpAll K H (nv l) (nd l)
  | [] => .nil
  | i :: r => .cons (.int i) (dp_nats r)
theorem fine_nd {l : List Nat} (h : ∀ i ∈ l, i < 2 ^ 60) : ∀ d ∈ nd l, Fine 0 61 d := fun d hd => by
  obtain ⟨i, hi, rfl⟩ := List.mem_map.mp hd
  exact fine_nat (h i hi)
/-- a tuple of numbers -/
theorem fine_tup {l : List Nat} {n : Nat} (h : ∀ i ∈ l, i < 2 ^ 60) (hn : l.length ≤ n) (hb : n ≤ 100000) : Fine 1 (n * 63 + 3) (.tuple (nd l)) := fine_tuple (fine_nd h) (by rw [nd_length]; exact hn) hb
/-! ### lists of pairs of numbers -/
/-- at the places as stand the pairs ps -/
def Prs (H : Hp) (as : List Addr) (ps : List (Nat × Nat)) : Prop := Paired (fun a (p : Nat × Nat) => H a = some (.tup [.int p.1, .int p.2])) as ps
theorem Prs.length {H : Hp} {as : List Addr} {ps : List (Nat × Nat)} (h : Prs H as ps) : as.length = ps.length := Paired.length h
theorem prs_same {H H' : Hp} (e : Same H H') : ∀ {as : List Addr} {ps : List (Nat × Nat)}, Prs H as ps → Prs H' as ps
  | _, _, .nil => .nil
  | _, _, .cons h r => .cons (e _ _ h) (prs_same e r)
theorem prs_keep {b : Addr} {H H' : Hp} {ys : List V} (k : Keep b H H') (hb : H b = some (.lst ys)) : ∀ {as : List Addr} {ps : List (Nat × Nat)}, Prs H as ps → Prs H' as ps
  | _, _, .nil => .nil
  | _, _, .cons h r => .cons (k.tup hb h) (prs_keep k hb r)
theorem prs_get {H : Hp} : ∀ {as : List Addr} {ps : List (Nat × Nat)} {i : Nat} {a : Addr}, Prs H as ps → as[i]? = some a → ∃ p, ps[i]? = some p ∧ H a = some (.tup [.int p.1, .int p.2])
  | _, _, _, _, .nil, h => by simp at h
  | _, _, 0, _, .cons (b := p) h _, e => by
    cases Option.some.inj e
    exact ⟨p, rfl, h⟩
  | _, _, i + 1, a, .cons _ r, e => prs_get (i := i) r e
theorem prs_append {H : Hp} : ∀ {as bs : List Addr} {ps qs : List (Nat × Nat)}, Prs H as ps → Prs H bs qs → Prs H (as ++ bs) (ps ++ qs)
  | _, _, _, _, .nil, s => s
  | _, _, _, _, .cons h r, s => .cons h (prs_append r s)
def pd (p : Nat × Nat) : PyData := .tuple [.int (p.1 : Int), .int (p.2 : Int)]
theorem prs_dp {K : PySem.W.Frag} {H : Hp} : ∀ {as : List Addr} {ps : List (Nat × Nat)}, Prs H as ps → DpAll K H (as.map V.ref) (ps.map pd)
  | _, _, .nil => .nil
  | _, _, .cons h r => .cons (.tup (.inl (.inl h)) (.cons (.int _) (.cons (.int _) .nil))) (prs_dp r)
theorem fine_pd {p : Nat × Nat} (h1 : p.1 < 2 ^ 60) (h2 : p.2 < 2 ^ 60) : Fine 1 129 (pd p) := fine_tuple (n := 2) (fun d hd => by
  rcases List.mem_cons.mp hd with z | z
  · rw [z]; exact fine_nat h1
  · rw [List.mem_singleton.mp z]; exact fine_nat h2) (Nat.le_refl _) (by decide)
/-- a list of pairs -/
theorem fine_pds {ps : List (Nat × Nat)} {n : Nat} (h : ∀ p ∈ ps, p.1 < 2 ^ 60 ∧ p.2 < 2 ^ 60) (hn : ps.length ≤ n) (hb : n ≤ 100000) : Fine 2 (n * 131 + 3) (.list (ps.map pd)) :=
  fine_list (fun d hd => by
    obtain ⟨p, hp, rfl⟩ := List.mem_map.mp hd
    exact fine_pd (h p hp).1 (h p hp).2) (by rw [List.length_map]; exact hn) hb
end Pc
namespace Pc
open PySem PySem.Spec PyProof.Rows L2 RZ
/-! ### a list or a tuple: walked, unpacked -/
/-- a list or a tuple is read -/
def Sq (K : PySem.W.Frag) (H : Hp) (a : Addr) (xs : List V) : Prop := SqL K H a xs ∨ SqT K H a xs
theorem Sq.same {K : PySem.W.Frag} {H H' : Hp} {a : Addr} {xs : List V} (h : Sq K H a xs) (e : Same H H') : Sq K H' a xs := h.imp (fun z => e.seq z) (fun z => same_tup e z)
def iSeq (K : PySem.W.Frag) (tl : TE) : TI := fun σ H R => tl σ H fun x H1 => ∃ a, x = .ref a ∧ (((∃ xs, SqL K H1 a xs) ∧ R (Itl K a) H1) ∨ ((∃ xs, SqT K H1 a xs) ∧ R (Itt K a) H1))
section
variable {X : Cx}
theorem pi_seq {tg l : Expr} {tl : TE} (hl : PE X l tl) : PI X tg l (iSeq X.K tl) := by
  constructor
  intro pins s σ H R I h
  refine thn (hl.run pins s σ H _ I h) ?_
  rintro v s1 ⟨x, H1, I1, r1, a, ex, q⟩
  subst ex
  cases r1
  rcases q with ⟨⟨xs, hx⟩, q⟩ | ⟨⟨xs, hx⟩, q⟩
  · obtain ⟨its, _, p, _⟩ := I1.list hx
    refine wpAny_pyIter_list p.isList ?_
    exact pi_one (tk := s1.toks) I1 _ (turn_list _ _) ⟨_, Heap.get?_push_size _ rfl, rfl, rfl⟩ q
  · obtain ⟨its, _, p, _⟩ := I1.tuple hx
    refine wpAny_pyIter_tuple p ?_
    exact pi_one (tk := s1.toks) I1 _ (turn_tuple _ _) ⟨_, Heap.get?_push_size _ rfl, rfl, rfl⟩ q
/-- names unpacked from a tuple or a list -/
def gSeq (K : PySem.W.Frag) (n : Nat) (t : TGs) : TG := fun v σ H Q => ∃ a xs, v = .ref a ∧ Sq K H a xs ∧ xs.length = n ∧ t xs σ H Q
theorem pg_seq {es : List Expr} {k : Nat} {t : TGs} {n : Nat} {pos : Pos} (hc : X.calm = true) (h : PGs X es t)
    (hn : (assignEach es X.env).length = n := by rfl) (hst : (assignEach es X.env).findIdx? (·.1) = none := by rfl) : PG X (.Tuple es k pos) (gSeq X.K n t) := by
  constructor
  intro pins s σ H v u Q I r hw
  obtain ⟨a, xs, e, hq, hl, hw⟩ := hw
  rcases hq with hq | hq
  · exact (pg_unl (pos := pos) (k := k) hc h hn hst).run pins s σ H v u Q I r ⟨a, xs, e, hq, hl, hw⟩
  · exact (pg_tup (pos := pos) (k := k) hc h hn hst).run pins s σ H v u Q I r ⟨a, xs, e, hq, hl, hw⟩
/-! ### a call with keywords alone -/
def tKw (n : Nat) (sp : Sp) (gV : List V → List V) (E : XK) (tk : TA) : TE := fun σ H Q => tk σ H fun zs H1 => zs.length = n ∧ sp (gV zs) H1 Q E
theorem pe_kw {CX : CXT} {k : Nat} {f : Addr} {fd : FuncData} {ps ks : List Str} {sp : Sp} {E : XK} {x : Str} {p pos : Pos} {kws : List Keyword} {tk : TA} {g : List Value → List Value} {gV : List V → List V}
    (F : FnOk X.prog X.w X.K X.mg X.base CX k f fd ps sp) (hr : Room k X.A) (hg : Gl X x) (hm : X.mg x = some (.ref f)) (hk : PySem.W.keepIn X.K (.ref f) = true)
    (hb : ∀ (s : Shared) (ws : List Value), ws.length = ks.length → BindsTo s fd ⟨[], ks.zip ws⟩ (ps.zip (g ws))) (rel : ∀ {zs : List V} {ws : List Value}, zs.length = ks.length → Vals zs ws → Vals (gV zs) (g ws)) (hx : Passes CX X E) (hkw : PK X kws tk)
    (hall : (backToKw pos (keywordEach kws X.env)).all (·.1.isSome) = true := by rfl) (hks : (backToKw pos (keywordEach kws X.env)).filterMap (·.1) = ks := by rfl) (hdb : (x == ("__debug__" : Str)) = false := by decide)
    (hpl : ((backTo pos (starEach [] X.env)).any (·.1) || (backToKw pos (keywordEach kws X.env)).any (·.1.isNone)) = false := by rfl) :
    PE X (.Call (.Name x p) [] kws pos) (tKw ks.length sp gV E tk) := by
  constructor
  intro pins s σ H Q I h
  refine wpAny_Call_Name_kw (ld_glob I hg hm ?_ hdb)
  refine PySem.W.callWith_KW0 (h₀ := X.base) I.ok.mod.kin hk hall (thn (hkw.run pos pins s σ H _ I h) ?_) hpl
  rintro ws s2 ⟨zs, H2, I2, rz, hz, q⟩
  refine ⟨I2.kIn, ?_⟩
  rw [hks]
  refine wpAny_call (codeAny_mono (F.run X.A X.stack s2 H2 ⟨[], ks.zip ws⟩ (g ws) (gV zs) Q E hr I2.env0 (hb s2 ws (by rw [← rz.length, hz])) (rel hz rz) q) ?_)
  intro res s' hq
  cases res with
  | error e => exact hx pins σ H2 s2 e s' I2 hq
  | ok fl =>
    cases fl with
    | ret u => exact I2.after hq
    | next => exact hq.elim
    | brk => exact hq.elim
    | cont => exact hq.elim
end
theorem kw_to {K : PySem.W.Frag} {x qual : Str} {st : Stmt} {f : Addr} {fd : FuncData} {ps ks : List Str} {g : List Value → List Value} (F : Fun K x qual st f fd)
    (h : ∀ (kV doc pm : Value) (an : Option Addr) (cdv ct : Value) (ws : List Value), ws.length = ks.length → bindArgs (PySem.W.fnOf x qual (defArgs st) (defBody st) (defScope st) .none kV doc pm an cdv ct) ⟨[], ks.zip ws⟩ = pure (ps.zip (g ws))) :
    ∀ (s : Shared) (ws : List Value), ws.length = ks.length → BindsTo s fd ⟨[], ks.zip ws⟩ (ps.zip (g ws)) := by
  obtain ⟨oc, od, kV, doc, pm, an, cdv, ct, osl, rfl, lk, hcd⟩ := F.ex
  intro s ws hl
  exact .of_eq (h kV doc pm an cdv ct ws hl)
end Pc
namespace Pc
open PySem PySem.Spec PyProof.Rows L2 RZ
/-! ### the couples of a pairing -/
/-- the couples whose first person is below i -/
def cplN (ps : List Nat) (i : Nat) : List (Nat × Nat) := ((List.range i).filter fun x => decide (x < ps.getD x 0)).map fun x => (x, ps.getD x 0)
def cpl (ps : List Nat) : List (Nat × Nat) := cplN ps ps.length
theorem getD_of {ps : List Nat} {x y : Nat} (h : ps[x]? = some y) : ps.getD x 0 = y := by
  rw [List.getD_eq_getElem?_getD, h]; rfl
theorem cplN_yes {ps : List Nat} {i y : Nat} (h : ps[i]? = some y) (hl : i < y) : cplN ps (i + 1) = cplN ps i ++ [(i, y)] := by
  unfold cplN
  rw [List.range_succ, List.filter_append, List.map_append]
  congr 1
  rw [List.filter_cons_of_pos (by rw [getD_of h]; exact decide_eq_true hl), List.filter_nil, List.map_cons, List.map_nil, getD_of h]
theorem cplN_no {ps : List Nat} {i y : Nat} (h : ps[i]? = some y) (hl : ¬ i < y) : cplN ps (i + 1) = cplN ps i := by
  unfold cplN
  rw [List.range_succ, List.filter_append, List.map_append, List.filter_cons_of_neg (by rw [getD_of h]; simpa using hl), List.filter_nil, List.map_nil, List.append_nil]
theorem cplN_len (ps : List Nat) (i : Nat) : (cplN ps i).length ≤ i := by
  unfold cplN
  rw [List.length_map]
  exact Nat.le_trans (List.length_filter_le _ _) (by rw [List.length_range]; exact Nat.le_refl _)
theorem mem_cpl {n : Nat} {ps : List Nat} (h : IsPair n ps) {p : Nat × Nat} : p ∈ cpl ps ↔ ps[p.1]? = some p.2 ∧ p.1 < p.2 := by
  unfold cpl cplN
  rw [h.len]
  constructor
  · intro hp
    obtain ⟨x, hx, rfl⟩ := List.mem_map.mp hp
    obtain ⟨h1, h2⟩ := List.mem_filter.mp hx
    obtain ⟨y, e, _⟩ := h.par x (List.mem_range.mp h1)
    rw [getD_of e] at h2 ⊢
    exact ⟨e, of_decide_eq_true h2⟩
  · rintro ⟨e, hl⟩
    refine List.mem_map.mpr ⟨p.1, List.mem_filter.mpr ⟨List.mem_range.mpr ?_, ?_⟩, ?_⟩
    · rw [← h.len]; exact get_lt e
    · rw [getD_of e]; exact decide_eq_true hl
    · rw [getD_of e]
theorem IsPair.back {n : Nat} {ps : List Nat} (h : IsPair n ps) {x y : Nat} (e : ps[x]? = some y) : ps[y]? = some x ∧ y < n ∧ x < n ∧ y ≠ x := by
  have hx : x < n := by rw [← h.len]; exact get_lt e
  obtain ⟨z, e1, e2, e3, e4⟩ := h.par x hx
  cases Option.some.inj (e.symm.trans e1)
  exact ⟨e4, e2, hx, e3⟩
theorem cpl_cover {n : Nat} {ps : List Nat} (h : IsPair n ps) {z : Nat} (hz : z < n) : ∃ p ∈ cpl ps, p.1 = z ∨ p.2 = z := by
  obtain ⟨y, e1, e2, e3, e4⟩ := h.par z hz
  rcases Nat.lt_or_gt_of_ne e3 with l | l
  · exact ⟨(y, z), (mem_cpl h).mpr ⟨e4, l⟩, .inr rfl⟩
  · exact ⟨(z, y), (mem_cpl h).mpr ⟨e1, l⟩, .inl rfl⟩
theorem filter_split {α : Type} (f : α → Bool) : ∀ l : List α, (l.filter f).length + (l.filter fun x => !f x).length = l.length
  | [] => rfl
  | a :: r => by
    have ih := filter_split f r
    cases e : f a with
    | true => rw [List.filter_cons_of_pos e, List.filter_cons_of_neg (by rw [e]; decide), List.length_cons, List.length_cons]; omega
    | false => rw [List.filter_cons_of_neg (by rw [e]; decide), List.filter_cons_of_pos (by rw [e]; rfl), List.length_cons, List.length_cons]; omega
theorem cpl_half {n : Nat} {ps : List Nat} (h : IsPair n ps) : 2 * (cpl ps).length = n := by
  have e1 : (cpl ps).length = ((List.range n).filter fun x => decide (x < ps.getD x 0)).length := by
    unfold cpl cplN; rw [List.length_map, h.len]
  have inj : ∀ x y, x < n → y < n → ps.getD x 0 = ps.getD y 0 → x = y := fun x y hx hy e => by
    obtain ⟨u, a1, _, _, a4⟩ := h.par x hx
    obtain ⟨v, b1, _, _, b4⟩ := h.par y hy
    rw [getD_of a1, getD_of b1] at e
    subst e
    exact Option.some.inj (a4.symm.trans b4)
  have nd0 : (List.range n).Nodup := List.nodup_range
  have p1 : (((List.range n).filter fun x => decide (x < ps.getD x 0)).map fun x => ps.getD x 0).Perm ((List.range n).filter fun x => !decide (x < ps.getD x 0)) := by
    refine (List.perm_ext_iff_of_nodup ?_ (nd0.filter _)).mpr fun z => ?_
    · refine List.Pairwise.map _ (fun a b hab => hab) ?_
      refine List.Pairwise.imp_of_mem (fun {a b} ha hb hab => ?_) (nd0.filter fun x => decide (x < ps.getD x 0))
      exact fun e => hab (inj a b (List.mem_range.mp (List.mem_filter.mp ha).1) (List.mem_range.mp (List.mem_filter.mp hb).1) e)
    · constructor
      · intro hz
        obtain ⟨x, hx, rfl⟩ := List.mem_map.mp hz
        obtain ⟨h1, h2⟩ := List.mem_filter.mp hx
        obtain ⟨y, a1, a2, a3, a4⟩ := h.par x (List.mem_range.mp h1)
        rw [getD_of a1] at h2 ⊢
        have h3 := of_decide_eq_true h2
        refine List.mem_filter.mpr ⟨List.mem_range.mpr a2, ?_⟩
        rw [getD_of a4, decide_eq_false (by omega)]; rfl
      · intro hz
        obtain ⟨h1, h2⟩ := List.mem_filter.mp hz
        obtain ⟨y, a1, a2, a3, a4⟩ := h.par z (List.mem_range.mp h1)
        rw [getD_of a1] at h2
        have h3 : ¬ z < y := by simpa using h2
        refine List.mem_map.mpr ⟨y, List.mem_filter.mpr ⟨List.mem_range.mpr a2, ?_⟩, getD_of a4⟩
        rw [getD_of a4]
        exact decide_eq_true (by omega)
  have e2 := p1.length_eq
  rw [List.length_map] at e2
  have e3 := filter_split (fun x => decide (x < ps.getD x 0)) (List.range n)
  rw [List.length_range] at e3
  omega
/-- what pairs must be so that they make the pairing ps -/
structure Makes (qs : List (Nat × Nat)) (ps : List Nat) : Prop where
  half : 2 * qs.length = ps.length
  ok : ∀ p ∈ qs, ps[p.1]? = some p.2 ∧ ps[p.2]? = some p.1
  all : ∀ z, z < ps.length → ∃ p ∈ qs, p.1 = z ∨ p.2 = z
theorem makes_cpl {n : Nat} {ps : List Nat} (h : IsPair n ps) : Makes (cpl ps) ps where
  half := by rw [cpl_half h, h.len]
  ok p hp := by
    obtain ⟨e, _⟩ := (mem_cpl h).mp hp
    exact ⟨e, (h.back e).1⟩
  all z hz := cpl_cover h (by rw [← h.len]; exact hz)
/-- the pairs of qs in any order, turned or not -/
theorem Makes.turned {qs rs : List (Nat × Nat)} {ps : List Nat} (h : Makes qs ps) (hl : rs.length = qs.length) (h1 : ∀ p ∈ rs, p ∈ qs ∨ (p.2, p.1) ∈ qs) (h2 : ∀ p ∈ qs, p ∈ rs ∨ (p.2, p.1) ∈ rs) : Makes rs ps where
  half := by rw [hl]; exact h.half
  ok p hp := by
    rcases h1 p hp with z | z
    · exact h.ok p z
    · obtain ⟨a, b⟩ := h.ok _ z
      exact ⟨b, a⟩
  all z hz := by
    obtain ⟨p, hp, e⟩ := h.all z hz
    rcases h2 p hp with q | q
    · exact ⟨p, q, e⟩
    · exact ⟨_, q, e.symm⟩
def CInv (ps : List Nat) (qs : List (Nat × Nat)) (fs : List Nat) (i : Nat) : Prop := fs.length = ps.length ∧ ∀ j, j < i → ∀ p, qs[j]? = some p → fs[p.1]? = ps[p.1]? ∧ fs[p.2]? = ps[p.2]?
theorem set_keeps {ps fs : List Nat} {x y z : Nat} (hy : ps[x]? = some y) (hx : x < fs.length) (h : fs[z]? = ps[z]?) : (fs.set x y)[z]? = ps[z]? := by
  by_cases e : x = z
  · subst e
    rw [List.getElem?_set_self hx, hy]
  · rw [List.getElem?_set_ne e]; exact h
theorem CInv.step {ps fs : List Nat} {qs : List (Nat × Nat)} {i : Nat} {p : Nat × Nat} (m : Makes qs ps) (h : CInv ps qs fs i) (hp : qs[i]? = some p) : CInv ps qs ((fs.set p.1 p.2).set p.2 p.1) (i + 1) := by
  obtain ⟨hl, hj⟩ := h
  obtain ⟨o1, o2⟩ := m.ok p (List.mem_of_getElem? hp)
  have l1 : p.1 < fs.length := by rw [hl]; exact get_lt o1
  have l2 : p.2 < (fs.set p.1 p.2).length := by rw [List.length_set, hl]; exact get_lt o2
  refine ⟨by rw [List.length_set, List.length_set, hl], fun j hj2 r hr => ?_⟩
  by_cases e : j = i
  · subst e
    cases Option.some.inj (hp.symm.trans hr)
    refine ⟨set_keeps o2 l2 ?_, ?_⟩
    · rw [List.getElem?_set_self l1, o1]
    · rw [List.getElem?_set_self l2, o2]
  · obtain ⟨a, b⟩ := hj j (by omega) r hr
    exact ⟨set_keeps o2 l2 (set_keeps o1 l1 a), set_keeps o2 l2 (set_keeps o1 l1 b)⟩
theorem CInv.done {ps fs : List Nat} {qs : List (Nat × Nat)} (m : Makes qs ps) (h : CInv ps qs fs qs.length) : fs = ps := by
  refine List.ext_getElem? fun z => ?_
  by_cases hz : z < ps.length
  · obtain ⟨p, hp, e⟩ := m.all z hz
    obtain ⟨i, hi, ei⟩ := List.mem_iff_getElem.mp hp
    obtain ⟨a, b⟩ := h.2 i hi p (by rw [List.getElem?_eq_getElem hi, ei])
    rcases e with e | e
    · rw [← e]; exact a
    · rw [← e]; exact b
  · rw [List.getElem?_eq_none (by rw [h.1]; omega), List.getElem?_eq_none (by omega)]
end Pc
namespace Pc
open PySem PySem.Spec PyProof.Rows L2 RZ
section
variable {K : PySem.W.Frag}
/-- the values us are the pairs qs, each a tuple or a list -/
def Items (K : PySem.W.Frag) (H : Hp) (us : List V) (qs : List (Nat × Nat)) : Prop := us.length = qs.length ∧ ∀ (i : Nat) (v : V), us[i]? = some v → ∃ (c : Addr) (p : Nat × Nat), v = .ref c ∧ qs[i]? = some p ∧ Sq K H c [.int p.1, .int p.2]
theorem Items.same {H H' : Hp} {us : List V} {qs : List (Nat × Nat)} (h : Items K H us qs) (e : Same H H') : Items K H' us qs := ⟨h.1, fun i v hv => by
  obtain ⟨c, p, h1, h2, h3⟩ := h.2 i v hv
  exact ⟨c, p, h1, h2, h3.same e⟩⟩
theorem items_of {H : Hp} {as : List Addr} {qs : List (Nat × Nat)} (h : Prs H as qs) : Items K H (as.map V.ref) qs := ⟨by rw [List.length_map]; exact h.length, fun i v hv => by
  rw [List.getElem?_map] at hv
  cases e : as[i]? with
  | none => rw [e] at hv; cases hv
  | some c =>
    rw [e] at hv
    obtain ⟨p, h1, h2⟩ := prs_get h e
    exact ⟨c, p, (Option.some.inj hv).symm, h1, .inr (.inl (.inl h2))⟩⟩
end
end Pc
namespace Pc
open PySem PySem.Spec PyProof.Rows L2 RZ
theorem paired_perm {α β : Type} {R : α → β → Prop} {as bs : List α} (h : as.Perm bs) : ∀ ps : List β, Paired R as ps → ∃ qs : List β, qs.Perm ps ∧ Paired R bs qs := by
  induction h with
  | nil => exact fun ps h => ⟨ps, List.Perm.refl _, h⟩
  | cons x _ ih =>
    intro ps h
    cases h with
    | cons r t =>
      obtain ⟨qs, h1, h2⟩ := ih _ t
      exact ⟨_ :: qs, h1.cons _, .cons r h2⟩
  | swap x y l =>
    intro ps h
    cases h with
    | cons r t =>
      cases t with
      | cons r2 t2 => exact ⟨_, List.Perm.swap _ _ _, .cons r2 (.cons r t2)⟩
  | trans _ _ ih1 ih2 =>
    intro ps h
    obtain ⟨qs, h1, h2⟩ := ih1 ps h
    obtain ⟨rs, h3, h4⟩ := ih2 qs h2
    exact ⟨rs, h3.trans h1, h4⟩
/-- the same pairs, some turned -/
def Turned (qs rs : List (Nat × Nat)) : Prop := rs.length = qs.length ∧ ∀ (j : Nat) (p q : Nat × Nat), qs[j]? = some p → rs[j]? = some q → q = p ∨ q = (p.2, p.1)
theorem Turned.mem1 {qs rs : List (Nat × Nat)} (h : Turned qs rs) : ∀ p ∈ rs, p ∈ qs ∨ (p.2, p.1) ∈ qs := fun p hp => by
  obtain ⟨j, hj, e⟩ := List.mem_iff_getElem.mp hp
  obtain ⟨q, hq⟩ := get_some (l := qs) (i := j) (by rw [← h.1]; exact hj)
  rcases h.2 j q p hq (by rw [List.getElem?_eq_getElem hj, e]) with z | z
  · exact .inl (z ▸ List.mem_of_getElem? hq)
  · refine .inr ?_
    rw [z]
    exact List.mem_of_getElem? hq
theorem Turned.mem2 {qs rs : List (Nat × Nat)} (h : Turned qs rs) : ∀ p ∈ qs, p ∈ rs ∨ (p.2, p.1) ∈ rs := fun p hp => by
  obtain ⟨j, hj, e⟩ := List.mem_iff_getElem.mp hp
  obtain ⟨q, hq⟩ := get_some (l := rs) (i := j) (by rw [h.1]; exact hj)
  rcases h.2 j p q (by rw [List.getElem?_eq_getElem hj, e]) hq with z | z
  · exact .inl (z ▸ List.mem_of_getElem? hq)
  · exact .inr (z ▸ List.mem_of_getElem? hq)
theorem Makes.perm {qs rs : List (Nat × Nat)} {ps : List Nat} (h : Makes qs ps) (e : rs.Perm qs) : Makes rs ps := h.turned e.length_eq (fun p hp => .inl (e.mem_iff.mp hp)) (fun p hp => .inl (e.mem_iff.mpr hp))
theorem IsPair.lt {n : Nat} {ps : List Nat} (h : IsPair n ps) : ∀ i ∈ ps, i < n := fun i hi => by
  obtain ⟨x, hx, e⟩ := List.mem_iff_getElem.mp hi
  obtain ⟨y, e1, e2, _⟩ := h.par x (by rw [← h.len]; exact hx)
  rw [List.getElem?_eq_getElem hx, e] at e1
  cases Option.some.inj e1
  exact e2
theorem Makes.lt {qs : List (Nat × Nat)} {ps : List Nat} (h : Makes qs ps) : ∀ p ∈ qs, p.1 < ps.length ∧ p.2 < ps.length := fun p hp => ⟨get_lt (h.ok p hp).1, get_lt (h.ok p hp).2⟩
theorem iteN {A B : Prop} (h : B) : if (!true) = true then A else B := by
  rw [if_neg (by decide)]
  exact h
end Pc
namespace Pc
open PySem PySem.Spec PyProof.Rows L2 RZ
section
variable {P : Program} {w : World} {K : PySem.W.Frag} {mg : Str → Option Value} {base : Heap}
/-! ### one of some -/
def spOf (K : PySem.W.Frag) : Sp := fun vs H Q _ => ∃ (b a : Addr) (n : Nat) (xs : List V), vs = [.ref b, .ref a] ∧ Box (n + 1) H b ∧ a ≠ b ∧ H a = some (.lst xs) ∧ 0 < xs.length ∧ xs.length ≤ 1000 ∧
  ∀ (H' : Hp) (i : Nat) (v : V), xs[i]? = some v → Keep b H H' → Box n H' b → Q v H'
theorem ok_of (T : Env K mg) : FnOk P w K mg base CX0 2 T.f_of T.d_of ["_law_box_here", "_law_some"] (spOf K) := by
  have GT : FnOk P w K mg base CX0 1 T.f_take T.d_take ["_law_box_here", "_law_span"] spTake := ok_take T
  refine T.F_of.ok sc_of (fun vs H Q E h => ?_) (fun cdv A outer s H vs Q E hr h => ?_)
  · obtain ⟨b, a, n, xs, rfl, _⟩ := h
    rfl
  · obtain ⟨b, a, n, xs, rfl, hB, hab, ha, h0, hl, q⟩ := h
    refine ⟨_, pss_one (ps_ret (pe_ix ix_list (pv 1) (pe_call GT hr (by rfl) T.g_take T.F_take.kp T.b_take .nil pass0 (pa_cons (pv 0) (pa_cons (pe_callB call_len_seq (by rfl) T.n_len PySem.boot_len (pa_cons (pv 1) pa_nil)) pa_nil))) (fun _ _ => rfl))), ?_⟩
    refine ⟨.ref a, rfl, .ref b, rfl, .ref a, rfl, a, xs, rfl, .inl (.inl (.inl ha)), b, n, xs.length, rfl, hB, by omega, by omega, fun r H' r0 r1 hB' k => ?_⟩
    obtain ⟨v, hv⟩ := get_some (l := xs) (i := r.toNat) (by omega)
    refine ⟨a, xs, r, v, rfl, rfl, .inl (.inl (k _ _ hab ha)), ?_, q H' r.toNat v hv k hB'⟩
    have := atI_nat hv
    rw [show ((r.toNat : Nat) : Int) = r by omega] at this
    exact this
end
end Pc
namespace Pc
open PySem PySem.Spec PyProof.Rows L2 RZ
section
variable {P : Program} {w : World} {K : PySem.W.Frag} {mg : Str → Option Value} {base : Heap}
/-! ### a drawn call -/
def spAnyCall : Sp := fun vs H Q _ => ∃ (b : Addr) (m n : Nat), vs = [.ref b, .int n] ∧ Box (m + 2) H b ∧ 2 ≤ n ∧ n ≤ 1000 ∧
  ∀ (H' : Hp) (t : Addr) (x y : Nat), x < y → y < n → H t = none → H' t = some (.tup [.int x, .int y]) → Keep b H H' → Box m H' b → Q (.ref t) H'
theorem ok_any_call (T : Env K mg) : FnOk P w K mg base CX0 2 T.f_any_call T.d_any_call ["_law_box_here", "_law_count"] spAnyCall := by
  have GT : FnOk P w K mg base CX0 1 T.f_take T.d_take ["_law_box_here", "_law_span"] spTake := ok_take T
  refine T.F_any_call.ok sc_any_call (fun vs H Q E h => ?_) (fun cdv A outer s H vs Q E hr h => ?_)
  · obtain ⟨b, m, n, rfl, _⟩ := h
    rfl
  · obtain ⟨b, m, n, rfl, hB, h2, hn, q⟩ := h
    refine ⟨_, pss_cons (ps_set (i := 2) sc_any_call.nd rfl (.inl rfl) (pe_call GT hr (by rfl) T.g_take T.F_take.kp T.b_take .nil pass0 (pa_cons (pv 0) (pa_cons (pe_op op_sub (pv 1) pe_int) pa_nil)))) <|
      pss_one (ps_ret (pe_tup (pa_cons (pv 2) (pa_cons (pe_op op_add (pe_op op_add (pv 2) pe_int) (pe_call GT hr (by rfl) T.g_take T.F_take.kp T.b_take .nil pass0 (pa_cons (pv 0) (pa_cons (pe_op op_sub (pe_op op_sub (pv 1) pe_int) (pv 2)) pa_nil)))) pa_nil)))), ?_⟩
    refine ⟨.ref b, rfl, .int n, rfl, n, 1, rfl, rfl, b, m + 1, (n : Int) - 1, rfl, hB, by omega, by omega, fun r H1 r0 r1 hB1 k1 => ?_⟩
    refine ⟨_, rfl, _, rfl, r, 1, rfl, rfl, .ref b, rfl, .int n, rfl, n, 1, rfl, rfl, .int r, rfl, _, r, rfl, rfl, b, m, (n : Int) - 1 - r, rfl, hB1, by omega, by omega, fun u H2 u0 u1 hB2 k2 => ?_⟩
    refine ⟨_, u, rfl, rfl, by show 2 ≤ sizeLine; decide, fun t nt => ?_⟩
    have kk : Keep b H H2 := k1.trans k2
    have nt0 : H t = none := by
      cases e : H t with
      | none => rfl
      | some o =>
        by_cases hb : t = b
        · subst hb
          obtain ⟨y, hy⟩ := hB2.lst
          rw [hy] at nt; cases nt
        · rw [kk t o hb e] at nt; cases nt
    refine q _ t r.toNat (r.toNat + 1 + u.toNat) (by omega) (by omega) nt0 ?_ (kk.trans (Keep.of_same (same_new nt))) (hB2.same (same_new nt))
    rw [upd_same, show ((r.toNat + 1 + u.toNat : Nat) : Int) = r + 1 + u by omega, show ((r.toNat : Nat) : Int) = r by omega]
end
end Pc
namespace Pc
open PySem PySem.Spec PyProof.Rows L2 RZ
/-! ### a loop over a list or a tuple that stays as it is -/
theorem for_seq {K : PySem.W.Frag} {a : Addr} {xs : List V} {g : TG} {tb : TS} {D : Ends} {σ : L2.St} {H0 H : Hp} (hS : Sq K H0 a xs) (Pv : Nat → L2.St → Hp → Prop) (h0 : Pv 0 σ H) (hst : ∀ i σ H', Pv i σ H' → Same H0 H')
    (hs : ∀ i x σ H', xs[i]? = some x → Pv i σ H' → g x σ H' fun σ2 H2 => tb { D with nx := Pv (i + 1), ct := Pv (i + 1), bk := D.nx } σ2 H2) (hd : ∀ σ H', Pv xs.length σ H' → D.nx σ H') :
    ((∃ ys, SqL K H a ys) ∧ ∃ W : Nat → Nat → L2.St → Hp → Prop, (∃ m, W 0 m σ H) ∧ ∀ i m σ H, W i m σ H → ((Itl K a).stop i H ∧ D.nx σ H) ∨ ((Itl K a).go i H ∧ ∃ N : L2.St → Hp → Prop, (∀ σ' H', N σ' H' → ∃ m', m' < m ∧ W (i + 1) m' σ' H') ∧ ∀ x H', (Itl K a).yld i H x H' → g x σ H' fun σ2 H2 => tb { D with nx := N, ct := N, bk := D.nx } σ2 H2)) ∨
    ((∃ ys, SqT K H a ys) ∧ ∃ W : Nat → Nat → L2.St → Hp → Prop, (∃ m, W 0 m σ H) ∧ ∀ i m σ H, W i m σ H → ((Itt K a).stop i H ∧ D.nx σ H) ∨ ((Itt K a).go i H ∧ ∃ N : L2.St → Hp → Prop, (∀ σ' H', N σ' H' → ∃ m', m' < m ∧ W (i + 1) m' σ' H') ∧ ∀ x H', (Itt K a).yld i H x H' → g x σ H' fun σ2 H2 => tb { D with nx := N, ct := N, bk := D.nx } σ2 H2)) := by
  rcases hS with h | h
  · exact .inl ⟨⟨_, (hst 0 σ H h0).seq h⟩, for_list Pv h0 (fun i σ H' _ p => (hst i σ H' p).seq h) hs hd⟩
  · exact .inr ⟨⟨_, same_tup (hst 0 σ H h0) h⟩, for_tup Pv h0 (fun i σ H' _ p => same_tup (hst i σ H' p) h) hs hd⟩
/-! ### two are joined, and the two that are left -/
def jn (fs : List Nat) (a b : Nat) : List Nat := if fs.getD a 0 = b then fs else (((fs.set a b).set b a).set (fs.getD a 0) (fs.getD b 0)).set (fs.getD b 0) (fs.getD a 0)
theorem jn_len (fs : List Nat) (a b : Nat) : (jn fs a b).length = fs.length := by
  unfold jn
  split
  · rfl
  · simp only [List.length_set]
/-- the four are different -/
theorem four {n : Nat} {fs : List Nat} (h : IsPair n fs) {a b c d : Nat} (hab : a ≠ b) (ea : fs[a]? = some c) (eb : fs[b]? = some d) (hcb : c ≠ b) : c ≠ a ∧ d ≠ b ∧ d ≠ a ∧ c ≠ d ∧ a < n ∧ b < n ∧ c < n ∧ d < n := by
  obtain ⟨a1, a2, a3, a4⟩ := h.back ea
  obtain ⟨b1, b2, b3, b4⟩ := h.back eb
  refine ⟨a4, b4, fun e => ?_, fun e => ?_, a3, b3, a2, b2⟩
  · rw [e, ea] at b1; exact hcb (Option.some.inj b1)
  · rw [e, b1] at a1; exact hab (Option.some.inj a1).symm
theorem jn_same {fs : List Nat} {a b : Nat} (e : fs[a]? = some b) : jn fs a b = fs := by
  unfold jn
  rw [getD_of e, if_pos rfl]
theorem jn_get {n : Nat} {fs : List Nat} (h : IsPair n fs) {a b c d : Nat} (hab : a ≠ b) (ea : fs[a]? = some c) (eb : fs[b]? = some d) (hcb : c ≠ b) (z : Nat) :
    (jn fs a b)[z]? = if z = a then some b else if z = b then some a else if z = c then some d else if z = d then some c else fs[z]? := by
  obtain ⟨x1, x2, x3, x4, l1, l2, l3, l4⟩ := four h hab ea eb hcb
  unfold jn
  rw [getD_of ea, getD_of eb, if_neg hcb]
  have hl := h.len
  by_cases z4 : z = d
  · subst z4
    rw [List.getElem?_set_self (by simp only [List.length_set]; omega), if_neg x3, if_neg x2, if_neg (Ne.symm x4), if_pos rfl]
  · rw [List.getElem?_set_ne (Ne.symm z4)]
    by_cases z3 : z = c
    · subst z3
      rw [List.getElem?_set_self (by simp only [List.length_set]; omega), if_neg x1, if_neg hcb, if_pos rfl]
    · rw [List.getElem?_set_ne (Ne.symm z3)]
      by_cases z2 : z = b
      · subst z2
        rw [List.getElem?_set_self (by simp only [List.length_set]; omega), if_neg (Ne.symm hab), if_pos rfl]
      · rw [List.getElem?_set_ne (Ne.symm z2)]
        by_cases z1 : z = a
        · subst z1
          rw [List.getElem?_set_self (by omega), if_pos rfl]
        · rw [List.getElem?_set_ne (Ne.symm z1), if_neg z1, if_neg z2, if_neg z3, if_neg z4]
theorem jn_pair {n : Nat} {fs : List Nat} (h : IsPair n fs) {a b : Nat} (hab : a ≠ b) (ha : a < n) (hb : b < n) : IsPair n (jn fs a b) := by
  obtain ⟨c, ea, _⟩ := h.par a ha
  obtain ⟨d, eb, _⟩ := h.par b hb
  by_cases hcb : c = b
  · subst hcb; rw [jn_same ea]; exact h
  · have G := jn_get h hab ea eb hcb
    obtain ⟨x1, x2, x3, x4, _, _, l3, l4⟩ := four h hab ea eb hcb
    refine ⟨by rw [jn_len]; exact h.len, fun x hx => ?_⟩
    by_cases z1 : x = a
    · subst z1
      exact ⟨b, by rw [G, if_pos rfl], hb, hab.symm, by rw [G, if_neg hab.symm, if_pos rfl]⟩
    · by_cases z2 : x = b
      · subst z2
        exact ⟨a, by rw [G, if_neg z1, if_pos rfl], ha, hab, by rw [G, if_pos rfl]⟩
      · by_cases z3 : x = c
        · subst z3
          exact ⟨d, by rw [G, if_neg z1, if_neg z2, if_pos rfl], l4, x4.symm, by rw [G, if_neg x3, if_neg x2, if_neg x4.symm, if_pos rfl]⟩
        · by_cases z4 : x = d
          · subst z4
            exact ⟨c, by rw [G, if_neg z1, if_neg z2, if_neg z3, if_pos rfl], l3, x4, by rw [G, if_neg x1, if_neg hcb, if_pos rfl]⟩
          · obtain ⟨y, e1, e2, e3, e4⟩ := h.par x hx
            have back : ∀ {u : Nat}, y = u → fs[u]? = some x := fun e => by rw [← e]; exact e4
            refine ⟨y, by rw [G, if_neg z1, if_neg z2, if_neg z3, if_neg z4]; exact e1, e2, e3, ?_⟩
            rw [G, if_neg, if_neg, if_neg, if_neg]
            · exact e4
            · intro e; have q := back e; rw [(h.back eb).1] at q; exact z2 (Option.some.inj q).symm
            · intro e; have q := back e; rw [(h.back ea).1] at q; exact z1 (Option.some.inj q).symm
            · intro e; have q := back e; rw [eb] at q; exact z4 (Option.some.inj q).symm
            · intro e; have q := back e; rw [ea] at q; exact z3 (Option.some.inj q).symm
/-- all pairs are calls of n people -/
def Calls (n : Nat) (qs : List (Nat × Nat)) : Prop := ∀ q ∈ qs, q.1 < q.2 ∧ q.2 < n
/-- the calls done one after another -/
def runs (qs : List (Nat × Nat)) (ps : List Nat) : List Nat := qs.foldl (fun fs q => jn fs q.1 q.2) ps
theorem runs_take {qs : List (Nat × Nat)} {ps : List Nat} {i : Nat} {q : Nat × Nat} (h : qs[i]? = some q) : runs (qs.take (i + 1)) ps = jn (runs (qs.take i) ps) q.1 q.2 := by
  unfold runs
  rw [List.take_add_one, h, List.foldl_append]
  rfl
theorem runs_pair {n : Nat} : ∀ (qs : List (Nat × Nat)) {ps : List Nat}, IsPair n ps → Calls n qs → IsPair n (runs qs ps)
  | [], _, h, _ => h
  | q :: r, ps, h, hc => by
    have h1 := hc q List.mem_cons_self
    exact runs_pair r (jn_pair h (by omega) (by omega) h1.2) (fun x hx => hc x (List.mem_cons_of_mem _ hx))
theorem Calls.take {n : Nat} {qs : List (Nat × Nat)} (h : Calls n qs) (i : Nat) : Calls n (qs.take i) := fun q hq => h q (List.mem_of_mem_take hq)
end Pc
namespace Pc
open PySem PySem.Spec PyProof.Rows L2 RZ
section
variable {P : Program} {w : World} {K : PySem.W.Frag} {mg : Str → Option Value} {base : Heap}
/-! ### drawn calls -/
def spSomeCalls : Sp := fun vs H Q _ => ∃ (b : Addr) (k n m : Nat), vs = [.ref b, .int n, .int m] ∧ Box (k + 2 * m + 10) H b ∧ 2 ≤ n ∧ n ≤ 1000 ∧ m ≤ 1000 ∧
  ∀ (H' : Hp) (p : Addr) (as : List Addr) (qs : List (Nat × Nat)), Calls n qs → qs.length ≤ m → H p = none → H' p = some (.lst (as.map V.ref)) → Prs H' as qs → Keep b H H' → Box k H' b → Q (.ref p) H'
theorem ok_some_calls (T : Env K mg) : FnOk P w K mg base CX0 3 T.f_some_calls T.d_some_calls ["_law_box_here", "_law_count", "_law_most"] spSomeCalls := by
  have GT : FnOk P w K mg base CX0 1 T.f_take T.d_take ["_law_box_here", "_law_span"] spTake := ok_take T
  have GO : FnOk P w K mg base CX0 2 T.f_of T.d_of ["_law_box_here", "_law_some"] (spOf K) := ok_of T
  have GA : FnOk P w K mg base CX0 2 T.f_any_call T.d_any_call ["_law_box_here", "_law_count"] spAnyCall := ok_any_call T
  refine T.F_some_calls.ok sc_some_calls (fun vs H Q E h => ?_) (fun cdv A outer s H vs Q E hr h => ?_)
  · obtain ⟨b, k, n, m, rfl, _⟩ := h
    rfl
  · obtain ⟨b, k, n, m, rfl, hB, h2, hn, hm, q⟩ := h
    have h1 := hr.mono (show 1 ≤ 2 by decide)
    refine ⟨_, pss_cons (ps_set (i := 3) sc_some_calls.nd rfl (.inr rfl) (pe_call GO hr (by rfl) T.g_of T.F_of.kp T.b_of .nil pass0 (pa_cons (pv 0) (pa_cons (pe_lst (pa_cons (pv 1) (pa_cons (pv 1) (pa_cons
        (pe_callB (call_max2 rfl) (by rfl) T.n_max (by decide +kernel) (pa_cons pe_int (pa_cons (pe_op op_fdiv (pv 1) pe_int) pa_nil))) pa_nil)))) pa_nil)))) <|
      pss_one (ps_ret (pe_lc (own := [("_law_turn", 4)]) (g := gName 4) (tt := tYes) rfl sc_some_calls.nd
        (pi_range1 (by rfl) T.n_range (pa_cons (pe_call GT h1 (by rfl) T.g_take T.F_take.kp T.b_take .nil pass0 (pa_cons (pv 0) (pa_cons (pe_op op_add (pv 2) pe_int) pa_nil))) pa_nil))
        (blkOk_by (N := N_some_calls) (sc := defScope s_some_calls) (by decide +kernel))
        (fun _ _ _ _ _ => pg_name (i := 4) sc_some_calls.nd rfl (.inl rfl)) (fun _ _ _ _ _ => pts_nil)
        (fun _ _ _ _ _ => pe_call GA hr (by rfl) T.g_any_call T.F_any_call.kp T.b_any_call .nil pass0 (pa_cons (pv 0) (pa_cons (pv 3) pa_nil))))), ?_⟩
    refine ⟨.ref b, rfl, .int n, rfl, .int n, rfl, .int n, rfl, n, 2, rfl, rfl, ⟨by decide, by decide⟩, 2, _, rfl, by show 3 ≤ sizeLine; decide, fun l nl => ?_⟩
    have sl : Same H _ := same_new (o := .lst [.int n, .int n, .int (if (n : Int) / 2 > 2 then (n : Int) / 2 else 2)]) nl
    refine ⟨b, l, k + 2 * m + 9, _, rfl, hB.same sl, (hB.ne_new nl).symm, upd_same, by show 0 < 3; decide, by show 3 ≤ 1000; decide, fun H1 i v hv k1 hB1 => ?_⟩
    -- whatever was chosen
    have hw : ∃ u : Nat, v = .int u ∧ 2 ≤ u ∧ u ≤ n := by
      have hi := get_lt hv
      have hi3 : i < 3 := hi
      have mx : ∃ u : Nat, (if (n : Int) / 2 > 2 then (n : Int) / 2 else 2) = (u : Int) ∧ 2 ≤ u ∧ u ≤ n := by
        by_cases c : (n : Int) / 2 > 2
        · exact ⟨n / 2, by rw [if_pos c]; omega, by omega, by omega⟩
        · exact ⟨2, by rw [if_neg c]; rfl, by omega, h2⟩
      obtain ⟨u, eu, hu⟩ := mx
      rcases (show i = 0 ∨ i = 1 ∨ i = 2 by omega) with z | z | z
      · subst z; exact ⟨n, (Option.some.inj hv).symm, h2, Nat.le_refl _⟩
      · subst z; exact ⟨n, (Option.some.inj hv).symm, h2, Nat.le_refl _⟩
      · subst z
        refine ⟨u, ?_, hu⟩
        rw [← eu]
        exact (Option.some.inj hv).symm
    obtain ⟨u, rfl, hu2, hun⟩ := hw
    refine ⟨.ref b, rfl, .int m, rfl, m, 1, rfl, rfl, b, k + 2 * m + 8, (m : Int) + 1, rfl, hB1, by omega, by omega, fun r H2 r0 r1 hB2 k2 => ?_⟩
    refine ⟨r, rfl, by omega, by omega, fun D nD => ?_⟩
    have bD : b ≠ D := hB2.ne_new nD
    have k02 : Keep b H H2 := (Keep.of_same sl).trans (k1.trans k2)
    have nD0 : H D = none := by
      cases e : H D with
      | none => rfl
      | some o => rw [k02 D o bD.symm e] at nD; cases nD
    refine lc_range (n := r.toNat) (fun j H' => Keep b H2 H' ∧ Box (k + 2 * m + 8 - 2 * j) H' b ∧ ∃ (as : List Addr) (qs : List (Nat × Nat)), H' D = some (.lst (as.map V.ref)) ∧ Prs H' as qs ∧ Calls n qs ∧ qs.length = j)
      ⟨Keep.of_same (same_new nD), (hB2.same (same_new nD)), [], [], upd_same, .nil, fun q hq => by simp at hq, rfl⟩ (fun j H' hj hPv => ?_) (fun H' hPv => ?_)
    · obtain ⟨k3, hB3, as, qs, eD, hA, hc, hql⟩ := hPv
      refine ⟨rfl, yes_if ⟨_, rfl, _, rfl, b, k + 2 * m + 8 - 2 * (j + 1), u, rfl, hB3.mono (by omega), hu2, by omega, fun H4 t x y hxy hy nt et k4 hB4 => ?_⟩⟩
      have eD4 := k4 _ _ bD.symm eD
      have ntD : t ≠ D := fun z => by rw [z, eD4] at et; cases et
      obtain ⟨yb, hyb⟩ := hB3.lst
      refine ⟨_, eD4, small1000 (by rw [List.length_map, hA.length]; omega), fun a o na ha => ?_, hB4.keep (c := D) keep_upd bD, as ++ [t], qs ++ [(x, y)], ?_, ?_, ?_, ?_⟩
      · rw [upd_ne (ne_of_none ha nD)]; exact k4 _ _ na (k3 _ _ na ha)
      · rw [upd_same, List.map_append]; rfl
      · refine prs_append (prs_keep (b := D) keep_upd eD4 (prs_keep k4 hyb hA)) (.cons ?_ .nil)
        rw [upd_ne ntD]; exact et
      · intro q hq
        rcases List.mem_append.mp hq with z | z
        · exact hc q z
        · rw [List.mem_singleton.mp z]; exact ⟨hxy, by show y < n; omega⟩
      · rw [List.length_append, hql]; rfl
    · obtain ⟨k3, hB3, as, qs, eD, hA, hc, hql⟩ := hPv
      exact q H' D as qs hc (by omega) nD0 eD hA (k02.trans k3) (hB3.mono (by omega))
end
end Pc
namespace Pc
open PySem PySem.Spec PyProof.Rows L2 RZ
section
variable {P : Program} {w : World} {K : PySem.W.Frag} {mg : Str → Option Value} {base : Heap}
/-! ### the looks at calls: valid ones raise nothing -/
def spCheckPerson : Sp := fun vs H Q _ => ∃ (n u : Nat), vs = [.int n, .int u] ∧ u < n ∧ Q .non H
theorem ok_p_check_person (T : Env K mg) : FnOk P w K mg base CX0 1 T.f_p_check_person T.d_p_check_person ["size", "person"] spCheckPerson := by
  refine T.F_p_check_person.ok sc_p_check_person (fun vs H Q E h => ?_) (fun cdv A outer s H vs Q E hr h => ?_)
  · obtain ⟨n, u, rfl, _⟩ := h
    rfl
  · obtain ⟨n, u, rfl, hu, q⟩ := h
    refine ⟨_, pss_one (ps_if (pt_not (pt_chain op_le op_lt pe_int (pv 1) (pv 0))) pss_never pss_nil), ?_⟩
    refine ⟨_, rfl, 0, u, rfl, rfl, _, rfl, ?_⟩
    rw [decide_eq_true (show (0 : Int) ≤ (u : Int) by omega)]
    refine iteT ⟨.int n, rfl, u, n, rfl, rfl, _, rfl, ?_⟩
    rw [decide_eq_true (show (u : Int) < (n : Int) by omega)]
    exact iteN q
def spCheckCall (K : PySem.W.Frag) : Sp := fun vs H Q _ => ∃ (n a b : Nat) (c : Addr), vs = [.int n, .ref c] ∧ Sq K H c [.int a, .int b] ∧ a < n ∧ b < n ∧ Q .non H
theorem ok_p_check_call (T : Env K mg) : FnOk P w K mg base CX0 2 T.f_p_check_call T.d_p_check_call ["size", "call"] (spCheckCall K) := by
  have G1 : FnOk P w K mg base CX0 1 T.f_p_check_person T.d_p_check_person ["size", "person"] spCheckPerson := ok_p_check_person T
  refine T.F_p_check_call.ok sc_p_check_call (fun vs H Q E h => ?_) (fun cdv A outer s H vs Q E hr h => ?_)
  · obtain ⟨n, a, b, c, rfl, _⟩ := h
    rfl
  · obtain ⟨n, a, b, c, rfl, hS, ha, hb, q⟩ := h
    refine ⟨_, pss_one (ps_for PassesOwn.never rfl (pi_seq (pv 1)) (pg_name (i := 2) sc_p_check_call.nd rfl (.inl rfl)) (pss_one (ps_expr (pe_call G1 hr (by rfl) T.g_p_check_person T.F_p_check_person.kp T.b_p_check_person .nil pass0 (pa_cons (pv 0) (pa_cons (pv 2) pa_nil)))))), ?_⟩
    refine ⟨.ref c, rfl, c, rfl, for_seq hS (fun i σ H' => H' = H ∧ ∃ y : Option V, σ = [some (.int n), some (.ref c), y]) ⟨rfl, none, rfl⟩ (fun i σ H' h => by rw [h.1]; exact Same.refl _) (fun i x σ H' hx h => ?_) (fun σ H' h => by rw [h.1]; exact q)⟩
    obtain ⟨rfl, y, rfl⟩ := h
    have hx' : ∃ u : Nat, x = .int u ∧ u < n := by
      have hi : i < 2 := get_lt hx
      rcases (show i = 0 ∨ i = 1 by omega) with z | z
      · subst z; exact ⟨a, (Option.some.inj hx).symm, ha⟩
      · subst z; exact ⟨b, (Option.some.inj hx).symm, hb⟩
    obtain ⟨u, rfl, hu⟩ := hx'
    exact ⟨_, rfl, _, rfl, n, u, rfl, hu, rfl, _, rfl⟩
def spCheckWord (K : PySem.W.Frag) : Sp := fun vs H Q _ => ∃ (n : Nat) (wd : Addr) (us : List V) (qs : List (Nat × Nat)), vs = [.int n, .ref wd] ∧ Sq K H wd us ∧ Items K H us qs ∧ Calls n qs ∧ Q .non H
theorem ok_p_check_word (T : Env K mg) : FnOk P w K mg base CX0 3 T.f_p_check_word T.d_p_check_word ["size", "word"] (spCheckWord K) := by
  have G1 : FnOk P w K mg base CX0 2 T.f_p_check_call T.d_p_check_call ["size", "call"] (spCheckCall K) := ok_p_check_call T
  refine T.F_p_check_word.ok sc_p_check_word (fun vs H Q E h => ?_) (fun cdv A outer s H vs Q E hr h => ?_)
  · obtain ⟨n, wd, us, qs, rfl, _⟩ := h
    rfl
  · obtain ⟨n, wd, us, qs, rfl, hS, hI, hc, q⟩ := h
    refine ⟨_, pss_one (ps_for PassesOwn.never rfl (pi_seq (pv 1)) (pg_name (i := 2) sc_p_check_word.nd rfl (.inl rfl)) (pss_one (ps_expr (pe_call G1 hr (by rfl) T.g_p_check_call T.F_p_check_call.kp T.b_p_check_call .nil pass0 (pa_cons (pv 0) (pa_cons (pv 2) pa_nil)))))), ?_⟩
    refine ⟨.ref wd, rfl, wd, rfl, for_seq hS (fun i σ H' => H' = H ∧ ∃ y : Option V, σ = [some (.int n), some (.ref wd), y]) ⟨rfl, none, rfl⟩ (fun i σ H' h => by rw [h.1]; exact Same.refl _) (fun i x σ H' hx h => ?_) (fun σ H' h => by rw [h.1]; exact q)⟩
    obtain ⟨rfl, y, rfl⟩ := h
    obtain ⟨c, p, rfl, hp, hq⟩ := hI.2 i x hx
    have := hc p (List.mem_of_getElem? hp)
    exact ⟨.int n, rfl, .ref c, rfl, n, p.1, p.2, c, rfl, hq, by omega, by omega, rfl, _, rfl⟩
/-! ### join_two -/
def spJoin : Sp := fun vs H Q _ => ∃ (j : Addr) (fs : List Nat) (n a b : Nat), vs = [.ref j, .int a, .int b] ∧ H j = some (.lst (nv fs)) ∧ IsPair n fs ∧ a < n ∧ b < n ∧
  ∀ H' : Hp, H' j = some (.lst (nv (jn fs a b))) → Keep j H H' → Q (.bl (!decide (fs.getD a 0 = b))) H'
theorem ok_p_join_two (T : Env K mg) : FnOk P w K mg base CX0 1 T.f_p_join_two T.d_p_join_two ["joined", "a", "b"] spJoin := by
  refine T.F_p_join_two.ok sc_p_join_two (fun vs H Q E h => ?_) (fun cdv A outer s H vs Q E hr h => ?_)
  · obtain ⟨j, fs, n, a, b, rfl, _⟩ := h
    rfl
  · obtain ⟨j, fs, n, a, b, rfl, hj, hP, ha, hb, q⟩ := h
    refine ⟨_, pss_cons (ps_set (i := 3) sc_p_join_two.nd rfl (.inl rfl) (pe_ix ix_list (pv 0) (pv 1) (fun _ _ => rfl))) <|
      pss_cons (ps_set (i := 4) sc_p_join_two.nd rfl (.inl rfl) (pe_ix ix_list (pv 0) (pv 2) (fun _ _ => rfl))) <|
      pss_cons (ps_if (pt_cmpR op_eq (pv 3) (pv 2) (nomark _)) (pss_one (ps_ret pe_bl)) pss_nil) <|
      pss_cons (ps_asg (pv 2) (pg_sub (pv 0) (pv 1) set_list)) <| pss_cons (ps_asg (pv 1) (pg_sub (pv 0) (pv 2) set_list)) <|
      pss_cons (ps_asg (pv 4) (pg_sub (pv 0) (pv 3) set_list)) <| pss_cons (ps_asg (pv 3) (pg_sub (pv 0) (pv 4) set_list)) <| pss_one (ps_ret pe_bl), ?_⟩
    obtain ⟨c, ea, hc, _⟩ := hP.par a ha
    obtain ⟨d, eb, hd, _⟩ := hP.par b hb
    have hS : SqL K H j (nv fs) := .inl (.inl hj)
    have hl := hP.len
    refine ⟨.ref j, rfl, .int a, rfl, j, _, _, _, rfl, rfl, hS, nv_at ea, ?_⟩
    refine ⟨.ref j, rfl, .int b, rfl, j, _, _, _, rfl, rfl, hS, nv_at eb, ?_⟩
    refine ⟨_, rfl, _, rfl, rfl, _, rfl, ite2 (fun e => ?_) (fun e => ?_)⟩
    · have e1 : c = b := by have := V.int.inj (of_decide_eq_true e); omega
      subst e1
      have := q H (by rw [jn_same ea]; exact hj) (Keep.refl _ _)
      rw [getD_of ea, decide_eq_true rfl] at this
      exact this
    · have e1 : c ≠ b := fun z => e (by rw [z]; exact decide_eq_true rfl)
      have ln : ∀ {l : List V}, l.length = fs.length → ∀ {i : Nat}, i < n → ixN l.length (i : Int) = some i := fun {l} hl2 {i} hi => ixN_nat (by rw [hl2, hl]; exact hi)
      refine ⟨_, rfl, .ref j, rfl, _, rfl, j, _, _, a, rfl, rfl, hj, ln (nv_length _) ha, ?_⟩
      refine ⟨_, rfl, .ref j, rfl, _, rfl, j, _, _, b, rfl, rfl, upd_same, ln (by rw [List.length_set, nv_length]) hb, ?_⟩
      refine ⟨_, rfl, .ref j, rfl, _, rfl, j, _, _, c, rfl, rfl, upd_same, ln (by rw [List.length_set, List.length_set, nv_length]) hc, ?_⟩
      refine ⟨_, rfl, .ref j, rfl, _, rfl, j, _, _, d, rfl, rfl, upd_same, ln (by rw [List.length_set, List.length_set, List.length_set, nv_length]) hd, ?_⟩
      have := q (upd (upd (upd (upd H j (.lst ((nv fs).set a (.int b)))) j (.lst (((nv fs).set a (.int b)).set b (.int a)))) j (.lst ((((nv fs).set a (.int b)).set b (.int a)).set c (.int d)))) j (.lst (((((nv fs).set a (.int b)).set b (.int a)).set c (.int d)).set d (.int c))))
        (by
          rw [upd_same, nv_set, nv_set, nv_set, nv_set]
          unfold jn
          rw [getD_of ea, getD_of eb, if_neg e1])
        (fun x o nx hx => by rw [upd_ne nx, upd_ne nx, upd_ne nx, upd_ne nx]; exact hx)
      rw [getD_of ea, decide_eq_false e1] at this
      exact this
end
end Pc
namespace Pc
open PySem PySem.Spec PyProof.Rows L2 RZ
/-! ### lists of tuples of numbers -/
def Tups (H : Hp) (as : List Addr) (ls : List (List Nat)) : Prop := Paired (fun a l => H a = some (.tup (nv l))) as ls
theorem Tups.length {H : Hp} {as : List Addr} {ls : List (List Nat)} (h : Tups H as ls) : as.length = ls.length := Paired.length h
theorem tups_same {H H' : Hp} (e : Same H H') : ∀ {as : List Addr} {ls : List (List Nat)}, Tups H as ls → Tups H' as ls
  | _, _, .nil => .nil
  | _, _, .cons h r => .cons (e _ _ h) (tups_same e r)
theorem tups_keep {b : Addr} {H H' : Hp} {ys : List V} (k : Keep b H H') (hb : H b = some (.lst ys)) : ∀ {as : List Addr} {ls : List (List Nat)}, Tups H as ls → Tups H' as ls
  | _, _, .nil => .nil
  | _, _, .cons h r => .cons (k.tup hb h) (tups_keep k hb r)
theorem tups_append {H : Hp} : ∀ {as bs : List Addr} {ls ms : List (List Nat)}, Tups H as ls → Tups H bs ms → Tups H (as ++ bs) (ls ++ ms)
  | _, _, _, _, .nil, s => s
  | _, _, _, _, .cons h r, s => .cons h (tups_append r s)
theorem tups_get {H : Hp} : ∀ {as : List Addr} {ls : List (List Nat)} {i : Nat} {a : Addr}, Tups H as ls → as[i]? = some a → ∃ l, ls[i]? = some l ∧ H a = some (.tup (nv l))
  | _, _, _, _, .nil, h => by simp at h
  | _, _, 0, _, .cons (b := p) h _, e => by
    cases Option.some.inj e
    exact ⟨p, rfl, h⟩
  | _, _, i + 1, a, .cons _ r, e => tups_get (i := i) r e
def td (l : List Nat) : PyData := .tuple (nd l)
theorem tups_dp {K : PySem.W.Frag} {H : Hp} : ∀ {as : List Addr} {ls : List (List Nat)}, Tups H as ls → DpAll K H (as.map V.ref) (ls.map td)
  | _, _, .nil => .nil
  | _, _, .cons (b := l) h r => .cons (.tup (.inl (.inl h)) (dp_nats l)) (tups_dp r)
theorem fine_tds {ls : List (List Nat)} {n m : Nat} (h : ∀ l ∈ ls, l.length ≤ m ∧ ∀ i ∈ l, i < 2 ^ 60) (hn : ls.length ≤ n) (hb : n ≤ 100000) (hm : m ≤ 100000) : Fine 2 (n * (m * 63 + 5) + 3) (.list (ls.map td)) :=
  fine_list (fun d hd => by
    obtain ⟨l, hl, rfl⟩ := List.mem_map.mp hd
    exact fine_tup (h l hl).2 (h l hl).1 hm) (by rw [List.length_map]; exact hn) hb
/-- the pairings before the first call and behind each -/
def alongs (qs : List (Nat × Nat)) (ps : List Nat) (i : Nat) : List (List Nat) := (List.range (i + 1)).map fun j => runs (qs.take j) ps
theorem alongs_zero (qs : List (Nat × Nat)) (ps : List Nat) : alongs qs ps 0 = [ps] := rfl
theorem alongs_succ (qs : List (Nat × Nat)) (ps : List Nat) (i : Nat) : alongs qs ps (i + 1) = alongs qs ps i ++ [runs (qs.take (i + 1)) ps] := by
  unfold alongs
  rw [List.range_succ, List.map_append]
  rfl
theorem alongs_len (qs : List (Nat × Nat)) (ps : List Nat) (i : Nat) : (alongs qs ps i).length = i + 1 := by
  unfold alongs
  rw [List.length_map, List.length_range]
theorem alongs_mem {n i : Nat} {qs : List (Nat × Nat)} {ps l : List Nat} (hP : IsPair n ps) (hc : Calls n qs) (h : l ∈ alongs qs ps i) : IsPair n l := by
  obtain ⟨j, _, rfl⟩ := List.mem_map.mp h
  exact runs_pair _ hP (hc.take j)
end Pc
namespace Pc
open PySem PySem.Spec PyProof.Rows L2 RZ
section
variable {P : Program} {w : World} {K : PySem.W.Frag} {mg : Str → Option Value} {base : Heap}
/-! ### called_all -/
def spCalledAll (K : PySem.W.Frag) : Sp := fun vs H Q _ => ∃ (p wd : Addr) (us : List V) (qs : List (Nat × Nat)) (ps : List Nat) (n : Nat), vs = [.ref p, .ref wd] ∧ Sq K H p (nv ps) ∧ Sq K H wd us ∧ Items K H us qs ∧ IsPair n ps ∧ Calls n qs ∧ n ≤ 1000 ∧
  ∀ (H' : Hp) (t : Addr), Same H H' → H t = none → H' t = some (.tup (nv (runs qs ps))) → Q (.ref t) H'
theorem ok_p_called_all (T : Env K mg) : FnOk P w K mg base CX0 4 T.f_p_called_all T.d_p_called_all ["pairing", "word"] (spCalledAll K) := by
  have G1 : FnOk P w K mg base CX0 3 T.f_p_check_word T.d_p_check_word ["size", "word"] (spCheckWord K) := ok_p_check_word T
  have G2 : FnOk P w K mg base CX0 1 T.f_p_join_two T.d_p_join_two ["joined", "a", "b"] spJoin := ok_p_join_two T
  refine T.F_p_called_all.ok sc_p_called_all (fun vs H Q E h => ?_) (fun cdv A outer s H vs Q E hr h => ?_)
  · obtain ⟨p, wd, us, qs, ps, n, rfl, _⟩ := h
    rfl
  · obtain ⟨p, wd, us, qs, ps, n, rfl, hp, hw, hI, hP, hc, hn, q⟩ := h
    refine ⟨_, pss_cons (ps_expr (pe_call G1 hr (by rfl) T.g_p_check_word T.F_p_check_word.kp T.b_p_check_word .nil pass0 (pa_cons (pe_callB call_len_seq (by rfl) T.n_len PySem.boot_len (pa_cons (pv 0) pa_nil)) (pa_cons (pv 1) pa_nil)))) <|
      pss_cons (ps_set (i := 2) sc_p_called_all.nd rfl (.inl rfl) (pe_callTy call_list_of (by rfl) T.n_list (by decide +kernel) (pa_cons (pv 0) pa_nil))) <|
      pss_cons (ps_for PassesOwn.never rfl (pi_seq (pv 1)) (pg_seq (by rfl) (pgs_cons (pg_name (i := 3) sc_p_called_all.nd rfl (.inl rfl)) (pgs_cons (pg_name (i := 4) sc_p_called_all.nd rfl (.inl rfl)) pgs_nil)))
        (pss_one (ps_expr (pe_call G2 (hr.mono (by decide)) (by rfl) T.g_p_join_two T.F_p_join_two.kp T.b_p_join_two .nil pass0 (pa_cons (pv 2) (pa_cons (pv 3) (pa_cons (pv 4) pa_nil))))))) <|
      pss_one (ps_ret (pe_callTy call_tuple_of (by rfl) T.n_tuple (by decide +kernel) (pa_cons (pv 2) pa_nil))), ?_⟩
    have hl : ((nv ps).length : Int) = (n : Nat) := by rw [nv_length, hP.len]
    refine ⟨.ref p, rfl, p, _, rfl, hp, .ref wd, rfl, n, wd, us, qs, ?_, hw, hI, hc, ?_⟩
    · show [V.int ((nv ps).length : Int), V.ref wd] = _
      rw [hl]
    refine ⟨.ref p, rfl, p, _, rfl, hp, fun l nl => ?_⟩
    have s0 : Same H (upd H l (.lst (nv ps))) := same_new nl
    refine ⟨.ref wd, rfl, wd, rfl, for_seq hw (fun i σ H' => Same H H' ∧ ∃ (y3 y4 : Option V), σ = [some (.ref p), some (.ref wd), some (.ref l), y3, y4] ∧ H' l = some (.lst (nv (runs (qs.take i) ps)))) ⟨s0, none, none, rfl, upd_same⟩ (fun i σ H' h => h.1) (fun i x σ H' hx h => ?_) (fun σ H' h => ?_)⟩
    · obtain ⟨sm, y3, y4, rfl, el⟩ := h
      obtain ⟨c, r, rfl, hr', hq⟩ := hI.2 i x hx
      have hcr := hc r (List.mem_of_getElem? hr')
      refine ⟨c, _, rfl, hq.same sm, rfl, _, _, rfl, _, _, rfl, rfl, .ref l, rfl, _, rfl, _, rfl, l, _, n, r.1, r.2, rfl, el, runs_pair _ hP (hc.take i), by omega, hcr.2, fun H2 e2 k2 => ?_⟩
      refine ⟨fun b o hb => k2 b o (ne_of_none hb nl) (sm _ _ hb), _, _, rfl, ?_⟩
      rw [runs_take hr']
      exact e2
    · obtain ⟨sm, y3, y4, rfl, el⟩ := h
      rw [hI.1, List.take_length] at el
      exact ⟨.ref l, rfl, l, _, rfl, .inl ⟨.inl (.inl el), fun t nt => q _ t (sm.trans (same_new nt)) (sm.free nt) upd_same⟩⟩
end
end Pc
namespace Pc
open PySem PySem.Spec PyProof.Rows L2 RZ
section
variable {P : Program} {w : World} {K : PySem.W.Frag} {mg : Str → Option Value} {base : Heap}
/-! ### called -/
def spCalled (K : PySem.W.Frag) : Sp := fun vs H Q _ => ∃ (p c : Addr) (a b : Nat) (ps : List Nat) (n : Nat), vs = [.ref p, .ref c] ∧ Sq K H p (nv ps) ∧ Sq K H c [.int a, .int b] ∧ IsPair n ps ∧ a < b ∧ b < n ∧ n ≤ 1000 ∧
  ∀ (H' : Hp) (t : Addr), Same H H' → H t = none → H' t = some (.tup (nv (jn ps a b))) → Q (.ref t) H'
theorem ok_p_called (T : Env K mg) : FnOk P w K mg base CX0 5 T.f_p_called T.d_p_called ["pairing", "call"] (spCalled K) := by
  have G1 : FnOk P w K mg base CX0 4 T.f_p_called_all T.d_p_called_all ["pairing", "word"] (spCalledAll K) := ok_p_called_all T
  refine T.F_p_called.ok sc_p_called (fun vs H Q E h => ?_) (fun cdv A outer s H vs Q E hr h => ?_)
  · obtain ⟨p, c, a, b, ps, n, rfl, _⟩ := h
    rfl
  · obtain ⟨p, c, a, b, ps, n, rfl, hp, hq, hP, hab, hb, hn, q⟩ := h
    refine ⟨_, pss_one (ps_ret (pe_call G1 hr (by rfl) T.g_p_called_all T.F_p_called_all.kp T.b_p_called_all .nil pass0 (pa_cons (pv 0) (pa_cons (pe_lst (pa_cons (pv 1) pa_nil)) pa_nil)))), ?_⟩
    refine ⟨.ref p, rfl, .ref c, rfl, by show 1 ≤ sizeLine; decide, fun l nl => ?_⟩
    have s0 : Same H (upd H l (.lst [.ref c])) := same_new nl
    refine ⟨p, l, [.ref c], [(a, b)], ps, n, rfl, hp.same s0, .inl (.inl (.inl upd_same)), ⟨rfl, fun i v hv => ?_⟩, hP, fun r hr' => ?_, hn, fun H' t s' nt et => q H' t (s0.trans s') (s0.free nt) et⟩
    · have hi : i < 1 := get_lt hv
      have : i = 0 := by omega
      subst this
      exact ⟨c, (a, b), (Option.some.inj hv).symm, rfl, hq.same s0⟩
    · rw [List.mem_singleton.mp hr']; exact ⟨hab, hb⟩
end
end Pc
namespace Pc
open PySem PySem.Spec PyProof.Rows L2 RZ
section
variable {P : Program} {w : World} {K : PySem.W.Frag} {mg : Str → Option Value} {base : Heap}
/-! ### pairings_along -/
def spAlong (K : PySem.W.Frag) : Sp := fun vs H Q _ => ∃ (p wd : Addr) (us : List V) (qs : List (Nat × Nat)) (ps : List Nat) (n : Nat), vs = [.ref p, .ref wd] ∧ Sq K H p (nv ps) ∧ Sq K H wd us ∧ Items K H us qs ∧ IsPair n ps ∧ Calls n qs ∧ n ≤ 1000 ∧ qs.length ≤ 10000 ∧
  ∀ (H' : Hp) (t : Addr) (as : List Addr), Same H H' → H t = none → H' t = some (.lst (as.map V.ref)) → Tups H' as (alongs qs ps qs.length) → Q (.ref t) H'
theorem ok_p_pairings_along (T : Env K mg) : FnOk P w K mg base CX0 4 T.f_p_pairings_along T.d_p_pairings_along ["pairing", "word"] (spAlong K) := by
  have G1 : FnOk P w K mg base CX0 3 T.f_p_check_word T.d_p_check_word ["size", "word"] (spCheckWord K) := ok_p_check_word T
  have G2 : FnOk P w K mg base CX0 1 T.f_p_join_two T.d_p_join_two ["joined", "a", "b"] spJoin := ok_p_join_two T
  refine T.F_p_pairings_along.ok sc_p_pairings_along (fun vs H Q E h => ?_) (fun cdv A outer s H vs Q E hr h => ?_)
  · obtain ⟨p, wd, us, qs, ps, n, rfl, _⟩ := h
    rfl
  · obtain ⟨p, wd, us, qs, ps, n, rfl, hp, hw, hI, hP, hc, hn, hql, q⟩ := h
    refine ⟨_, pss_cons (ps_expr (pe_call G1 hr (by rfl) T.g_p_check_word T.F_p_check_word.kp T.b_p_check_word .nil pass0 (pa_cons (pe_callB call_len_seq (by rfl) T.n_len PySem.boot_len (pa_cons (pv 0) pa_nil)) (pa_cons (pv 1) pa_nil)))) <|
      pss_cons (ps_set (i := 2) sc_p_pairings_along.nd rfl (.inl rfl) (pe_callTy call_list_of (by rfl) T.n_list (by decide +kernel) (pa_cons (pv 0) pa_nil))) <|
      pss_cons (ps_set (i := 3) sc_p_pairings_along.nd rfl (.inl rfl) (pe_lst (pa_cons (pe_callTy call_tuple_of (by rfl) T.n_tuple (by decide +kernel) (pa_cons (pv 2) pa_nil)) pa_nil))) <|
      pss_cons (ps_for PassesOwn.never rfl (pi_seq (pv 1)) (pg_seq (by rfl) (pgs_cons (pg_name (i := 4) sc_p_pairings_along.nd rfl (.inl rfl)) (pgs_cons (pg_name (i := 5) sc_p_pairings_along.nd rfl (.inl rfl)) pgs_nil)))
        (pss_cons (ps_expr (pe_call G2 (hr.mono (by decide)) (by rfl) T.g_p_join_two T.F_p_join_two.kp T.b_p_join_two .nil pass0 (pa_cons (pv 2) (pa_cons (pv 4) (pa_cons (pv 5) pa_nil)))))
        (pss_one (ps_expr (pe_bm PySem.F.plainAttrs_list PySem.F.slot_list_append PySem.F.type_list_append mt_append (pv 3) (pa_cons (pe_callTy call_tuple_of (by rfl) T.n_tuple (by decide +kernel) (pa_cons (pv 2) pa_nil)) pa_nil)))))) <|
      pss_one (ps_ret (pv 3)), ?_⟩
    have hl : ((nv ps).length : Int) = (n : Nat) := by rw [nv_length, hP.len]
    refine ⟨.ref p, rfl, p, _, rfl, hp, .ref wd, rfl, n, wd, us, qs, ?_, hw, hI, hc, ?_⟩
    · show [V.int ((nv ps).length : Int), V.ref wd] = _
      rw [hl]
    refine ⟨.ref p, rfl, p, _, rfl, hp, fun l nl => ?_⟩
    have s0 : Same H (upd H l (.lst (nv ps))) := same_new nl
    refine ⟨.ref l, rfl, l, _, rfl, .inl ⟨.inl (.inl upd_same), fun t0 nt0 => ⟨by show 1 ≤ sizeLine; decide, fun g ng => ?_⟩⟩⟩
    have s1 : Same (upd H l (.lst (nv ps))) _ := same_new (o := .tup (nv ps)) nt0
    have s2 : Same (upd (upd H l (.lst (nv ps))) t0 (.tup (nv ps))) _ := same_new (o := .lst [.ref t0]) ng
    have lg : l ≠ g := ne_of_none (s1 _ _ upd_same) ng
    have ng0 : H g = none := (s0.trans s1).free ng
    refine ⟨.ref wd, rfl, wd, rfl, for_seq hw (fun i σ H' => Same H H' ∧ ∃ (y4 y5 : Option V) (as : List Addr), σ = [some (.ref p), some (.ref wd), some (.ref l), some (.ref g), y4, y5] ∧ H' l = some (.lst (nv (runs (qs.take i) ps))) ∧ H' g = some (.lst (as.map V.ref)) ∧ Tups H' as (alongs qs ps i))
      ⟨(s0.trans s1).trans s2, none, none, [t0], rfl, s2 _ _ (s1 _ _ upd_same), upd_same, .cons (s2 _ _ upd_same) .nil⟩ (fun i σ H' h => h.1) (fun i x σ H' hx h => ?_) (fun σ H' h => ?_)⟩
    · obtain ⟨sm, y4, y5, as, rfl, el, eg, hA⟩ := h
      obtain ⟨c, r, rfl, hr', hq⟩ := hI.2 i x hx
      have hcr := hc r (List.mem_of_getElem? hr')
      have hiq := get_lt hr'
      refine ⟨c, _, rfl, hq.same sm, rfl, _, _, rfl, _, _, rfl, rfl, .ref l, rfl, _, rfl, _, rfl, l, _, n, r.1, r.2, rfl, el, runs_pair _ hP (hc.take i), by omega, hcr.2, fun H2 e2 k2 => ?_⟩
      have eg2 := k2 _ _ lg.symm eg
      rw [← runs_take hr'] at e2
      refine ⟨.ref g, rfl, .inl ⟨rfl, _, .inl (.inl eg2)⟩, .ref l, rfl, l, _, rfl, .inl ⟨.inl (.inl e2), fun t nt => ?_⟩⟩
      have s3 : Same H2 _ := same_new (o := .tup (nv (runs (qs.take (i + 1)) ps))) nt
      have tg : t ≠ g := fun e => by rw [e, eg2] at nt; cases nt
      refine ⟨g, _, _, rfl, rfl, s3 _ _ eg2, line_big (by rw [List.length_map, hA.length, alongs_len]; omega), fun b o hb => ?_, _, _, as ++ [t], rfl, ?_, ?_, ?_⟩
      · rw [upd_ne (ne_of_none hb ng0)]; exact s3 _ _ (k2 b o (ne_of_none hb nl) (sm _ _ hb))
      · rw [upd_ne lg]; exact s3 _ _ e2
      · rw [upd_same, List.map_append]; rfl
      · rw [alongs_succ]
        refine tups_append (tups_keep (b := g) keep_upd (s3 _ _ eg2) (tups_same s3 (tups_keep k2 el hA))) (.cons ?_ .nil)
        rw [upd_ne tg, upd_same]
    · obtain ⟨sm, y4, y5, as, rfl, el, eg, hA⟩ := h
      rw [hI.1] at hA
      exact ⟨.ref g, rfl, q H' g as sm ng0 eg hA⟩
end
end Pc
namespace Pc
open PySem PySem.Spec PyProof.Rows L2 RZ
/-! ### idle calls -/
/-- is the j-th call idle? -/
def idleAt (qs : List (Nat × Nat)) (ps : List Nat) (j : Nat) : Bool := match qs[j]? with
  | some q => decide ((runs (qs.take j) ps).getD q.1 0 = q.2)
  | none => false
def idleN (qs : List (Nat × Nat)) (ps : List Nat) (i : Nat) : List Nat := (List.range i).filter fun j => idleAt qs ps j
theorem idleN_yes {qs : List (Nat × Nat)} {ps : List Nat} {i : Nat} (h : idleAt qs ps i = true) : idleN qs ps (i + 1) = idleN qs ps i ++ [i] := by
  unfold idleN
  rw [List.range_succ, List.filter_append, List.filter_cons_of_pos h, List.filter_nil]
theorem idleN_no {qs : List (Nat × Nat)} {ps : List Nat} {i : Nat} (h : idleAt qs ps i = false) : idleN qs ps (i + 1) = idleN qs ps i := by
  unfold idleN
  rw [List.range_succ, List.filter_append, List.filter_cons_of_neg (by rw [h]; decide), List.filter_nil, List.append_nil]
theorem idleN_len (qs : List (Nat × Nat)) (ps : List Nat) (i : Nat) : (idleN qs ps i).length ≤ i := by
  unfold idleN
  exact Nat.le_trans (List.length_filter_le _ _) (by rw [List.length_range]; exact Nat.le_refl _)
theorem idleN_mem {qs : List (Nat × Nat)} {ps : List Nat} {i j : Nat} : j ∈ idleN qs ps i ↔ j < i ∧ idleAt qs ps j = true := by
  unfold idleN
  rw [List.mem_filter, List.mem_range]
theorem idleAt_of {qs : List (Nat × Nat)} {ps : List Nat} {j : Nat} {q : Nat × Nat} (h : qs[j]? = some q) : idleAt qs ps j = decide ((runs (qs.take j) ps).getD q.1 0 = q.2) := by
  unfold idleAt; rw [h]
theorem take_app {α : Type} {qs rs : List α} {j : Nat} (h : j ≤ qs.length) : (qs ++ rs).take j = qs.take j := by
  rw [List.take_append_of_le_length h]
theorem idleAt_app {qs rs : List (Nat × Nat)} {ps : List Nat} {j : Nat} (h : j < qs.length) : idleAt (qs ++ rs) ps j = idleAt qs ps j := by
  unfold idleAt
  rw [List.getElem?_append_left h, take_app (by omega)]
theorem idleN_app {qs rs : List (Nat × Nat)} {ps : List Nat} {i : Nat} (h : i ≤ qs.length) : idleN (qs ++ rs) ps i = idleN qs ps i := by
  unfold idleN
  refine List.filter_congr fun j hj => ?_
  exact idleAt_app (by have := List.mem_range.mp hj; omega)
theorem runs_app (qs rs : List (Nat × Nat)) (ps : List Nat) : runs (qs ++ rs) ps = runs rs (runs qs ps) := by
  unfold runs; rw [List.foldl_append]
/-- the calls that are not idle -/
def restN (qs : List (Nat × Nat)) (ps : List Nat) (i : Nat) : List (Nat × Nat) := (List.range i).filterMap fun j => if idleAt qs ps j then none else qs[j]?
theorem restN_yes {qs : List (Nat × Nat)} {ps : List Nat} {i : Nat} (h : idleAt qs ps i = true) : restN qs ps (i + 1) = restN qs ps i := by
  unfold restN
  rw [List.range_succ, List.filterMap_append, List.filterMap_cons_none (by rw [h]; rfl), List.filterMap_nil, List.append_nil]
theorem restN_no {qs : List (Nat × Nat)} {ps : List Nat} {i : Nat} {q : Nat × Nat} (h : idleAt qs ps i = false) (hq : qs[i]? = some q) : restN qs ps (i + 1) = restN qs ps i ++ [q] := by
  unfold restN
  rw [List.range_succ, List.filterMap_append, List.filterMap_cons_some (b := q) (by rw [h]; exact hq), List.filterMap_nil]
/-- without the idle calls the same, and none of the rest is idle -/
theorem rest_runs {n : Nat} {qs : List (Nat × Nat)} {ps : List Nat} (hP : IsPair n ps) (hc : Calls n qs) : ∀ i, i ≤ qs.length → runs (restN qs ps i) ps = runs (qs.take i) ps ∧ idleN (restN qs ps i) ps (restN qs ps i).length = [] ∧ Calls n (restN qs ps i) ∧ (restN qs ps i).length ≤ i
  | 0, _ => ⟨rfl, rfl, fun q hq => by simp [restN] at hq, Nat.le_refl _⟩
  | i + 1, hi => by
    obtain ⟨h1, h2, h3, h4⟩ := rest_runs hP hc i (by omega)
    obtain ⟨q, hq⟩ := get_some (l := qs) (i := i) (by omega)
    have hcq := hc q (List.mem_of_getElem? hq)
    obtain ⟨c, ea, _⟩ := (runs_pair _ hP (hc.take i)).par q.1 (by omega)
    cases e : idleAt qs ps i with
    | true =>
      rw [restN_yes e, runs_take hq]
      rw [idleAt_of hq, getD_of ea] at e
      have e' := of_decide_eq_true e
      rw [e'] at ea
      refine ⟨by rw [jn_same ea]; exact h1, h2, h3, by omega⟩
    | false =>
      rw [restN_no e hq, runs_take hq]
      refine ⟨?_, ?_, ?_, ?_⟩
      · rw [runs_app, h1]; rfl
      · rw [List.length_append, List.length_singleton, idleN_no, idleN_app (Nat.le_refl _)]
        · exact h2
        · rw [idleAt_of (q := q) (by rw [List.getElem?_append_right (Nat.le_refl _), Nat.sub_self]; rfl), take_app (Nat.le_refl _), List.take_length, h1]
          rw [idleAt_of hq] at e
          exact e
      · intro x hx
        rcases List.mem_append.mp hx with z | z
        · exact h3 x z
        · rw [List.mem_singleton.mp z]; exact hcq
      · rw [List.length_append, List.length_singleton]; omega
/-- the people whose partner is another one -/
def chg (ps fs : List Nat) (i : Nat) : List Nat := (List.range i).filter fun x => !decide (fs.getD x 0 = ps.getD x 0)
theorem chg_yes {ps fs : List Nat} {i : Nat} (h : fs.getD i 0 ≠ ps.getD i 0) : chg ps fs (i + 1) = chg ps fs i ++ [i] := by
  unfold chg
  rw [List.range_succ, List.filter_append, List.filter_cons_of_pos (by rw [decide_eq_false h]; rfl), List.filter_nil]
theorem chg_no {ps fs : List Nat} {i : Nat} (h : fs.getD i 0 = ps.getD i 0) : chg ps fs (i + 1) = chg ps fs i := by
  unfold chg
  rw [List.range_succ, List.filter_append, List.filter_cons_of_neg (by rw [decide_eq_true h]; decide), List.filter_nil, List.append_nil]
theorem chg_len (ps fs : List Nat) (i : Nat) : (chg ps fs i).length ≤ i := by
  unfold chg
  exact Nat.le_trans (List.length_filter_le _ _) (by rw [List.length_range]; exact Nat.le_refl _)
theorem chg_same (ps : List Nat) (i : Nat) : (chg ps ps i).length = 0 := by
  unfold chg
  rw [List.filter_eq_nil_iff.mpr fun x _ => by rw [decide_eq_true rfl]; decide]
  rfl
theorem chg_four {n : Nat} {ps : List Nat} (hP : IsPair n ps) {a b c : Nat} (hab : a ≠ b) (hb : b < n) (ea : ps[a]? = some c) (hcb : c ≠ b) : (chg ps (jn ps a b) n).length = 4 := by
  obtain ⟨d, eb, _⟩ := hP.par b hb
  obtain ⟨x1, x2, x3, x4, l1, l2, l3, l4⟩ := four hP hab ea eb hcb
  have G := jn_get hP hab ea eb hcb
  have nd4 : [a, b, c, d].Nodup := by
    simp only [List.nodup_cons, List.mem_cons, List.not_mem_nil, or_false, not_or, List.nodup_nil, and_true, not_false_eq_true]
    exact ⟨⟨hab, x1.symm, x3.symm⟩, ⟨hcb.symm, x2.symm⟩, x4⟩
  have ga : (jn ps a b).getD a 0 = b := getD_of (by rw [G, if_pos rfl])
  have gb : (jn ps a b).getD b 0 = a := getD_of (by rw [G, if_neg hab.symm, if_pos rfl])
  have gc : (jn ps a b).getD c 0 = d := getD_of (by rw [G, if_neg x1, if_neg hcb, if_pos rfl])
  have gd : (jn ps a b).getD d 0 = c := getD_of (by rw [G, if_neg x3, if_neg x2, if_neg x4.symm, if_pos rfl])
  have pc : ps.getD c 0 = a := getD_of (hP.back ea).1
  have pd' : ps.getD d 0 = b := getD_of (hP.back eb).1
  have pa := getD_of ea
  have pb := getD_of eb
  have hp : (chg ps (jn ps a b) n).Perm [a, b, c, d] := by
    refine (List.perm_ext_iff_of_nodup (List.nodup_range.filter _) nd4).mpr fun z => ?_
    rw [List.mem_filter, List.mem_range]
    constructor
    · rintro ⟨hz, h⟩
      by_cases z1 : z = a
      · rw [z1]; simp
      · by_cases z2 : z = b
        · rw [z2]; simp
        · by_cases z3 : z = c
          · rw [z3]; simp
          · by_cases z4 : z = d
            · rw [z4]; simp
            · exfalso
              have e : (jn ps a b).getD z 0 = ps.getD z 0 := by
                rw [List.getD_eq_getElem?_getD, List.getD_eq_getElem?_getD, G, if_neg z1, if_neg z2, if_neg z3, if_neg z4]
              rw [e, decide_eq_true rfl] at h
              exact absurd h (by decide)
    · intro h
      have ne : ∀ {x y : Nat}, x ≠ y → (!decide (x = y)) = true := fun hxy => by rw [decide_eq_false hxy]; rfl
      rcases List.mem_cons.mp h with e | h
      · rw [e, ga, pa]; exact ⟨l1, ne hcb.symm⟩
      · rcases List.mem_cons.mp h with e | h
        · rw [e, gb, pb]; exact ⟨l2, ne x3.symm⟩
        · rcases List.mem_cons.mp h with e | h
          · rw [e, gc, pc]; exact ⟨l3, ne x3⟩
          · rw [List.mem_singleton.mp h, gd, pd']; exact ⟨l4, ne hcb⟩
  rw [hp.length_eq]; rfl
/-- a number among numbers -/
theorem inV_nv (i : Nat) (l : List Nat) : inV (.int (i : Int)) (nv l) = decide (i ∈ l) := by
  unfold inV nv
  induction l with
  | nil => rfl
  | cons x r ih =>
    rw [List.map_cons, List.any_cons, ih]
    by_cases e : x = i
    · subst e
      have : eqV (.int (x : Int)) (.int (x : Int)) = true := beq_self_eq_true _
      rw [this, decide_eq_true (List.mem_cons_self)]; rfl
    · have : eqV (.int (x : Int)) (.int (i : Int)) = false := by
        show ((x : Int) == (i : Int)) = false
        exact beq_eq_false_iff_ne.mpr (by omega)
      rw [this, Bool.false_or]
      by_cases m : i ∈ r
      · rw [decide_eq_true m, decide_eq_true (List.mem_cons_of_mem _ m)]
      · rw [decide_eq_false m, decide_eq_false (fun h => (List.mem_cons.mp h).elim (fun z => e z.symm) m)]
theorem nv_snoc (l : List Nat) (x : Nat) : nv l ++ [.int (x : Int)] = nv (l ++ [x]) := by
  unfold nv
  rw [List.map_append]; rfl
theorem flat_nv (l : List Nat) : (nv l).all flatV = true := by
  unfold nv
  rw [List.all_eq_true]
  intro x hx
  obtain ⟨i, _, rfl⟩ := List.mem_map.mp hx
  rfl
end Pc
namespace Pc
open PySem PySem.Spec PyProof.Rows L2 RZ
section
variable {P : Program} {w : World} {K : PySem.W.Frag} {mg : Str → Option Value} {base : Heap}
/-! ### idle_calls -/
def spIdle (K : PySem.W.Frag) : Sp := fun vs H Q _ => ∃ (p wd : Addr) (us : List V) (qs : List (Nat × Nat)) (ps : List Nat) (n : Nat), vs = [.ref p, .ref wd] ∧ Sq K H p (nv ps) ∧ Sq K H wd us ∧ Items K H us qs ∧ IsPair n ps ∧ Calls n qs ∧ n ≤ 1000 ∧ qs.length ≤ 10000 ∧
  ∀ (H' : Hp) (t : Addr), Same H H' → H t = none → H' t = some (.lst (nv (idleN qs ps qs.length))) → Q (.ref t) H'
theorem ok_p_idle_calls (T : Env K mg) : FnOk P w K mg base CX0 4 T.f_p_idle_calls T.d_p_idle_calls ["pairing", "word"] (spIdle K) := by
  have G1 : FnOk P w K mg base CX0 3 T.f_p_check_word T.d_p_check_word ["size", "word"] (spCheckWord K) := ok_p_check_word T
  have G2 : FnOk P w K mg base CX0 1 T.f_p_join_two T.d_p_join_two ["joined", "a", "b"] spJoin := ok_p_join_two T
  refine T.F_p_idle_calls.ok sc_p_idle_calls (fun vs H Q E h => ?_) (fun cdv A outer s H vs Q E hr h => ?_)
  · obtain ⟨p, wd, us, qs, ps, n, rfl, _⟩ := h
    rfl
  · obtain ⟨p, wd, us, qs, ps, n, rfl, hp, hw, hI, hP, hc, hn, hql, q⟩ := h
    refine ⟨_, pss_cons (ps_expr (pe_call G1 hr (by rfl) T.g_p_check_word T.F_p_check_word.kp T.b_p_check_word .nil pass0 (pa_cons (pe_callB call_len_seq (by rfl) T.n_len PySem.boot_len (pa_cons (pv 0) pa_nil)) (pa_cons (pv 1) pa_nil)))) <|
      pss_cons (ps_set (i := 2) sc_p_idle_calls.nd rfl (.inl rfl) (pe_callTy call_list_of (by rfl) T.n_list (by decide +kernel) (pa_cons (pv 0) pa_nil))) <|
      pss_cons (ps_set (i := 3) sc_p_idle_calls.nd rfl (.inl rfl) (pe_lst pa_nil)) <|
      pss_cons (ps_for PassesOwn.never rfl (pi_enumA (by rfl) T.n_enumerate (pa_cons (pv 1) pa_nil)) (pg_tup (by rfl) (pgs_cons (pg_name (i := 4) sc_p_idle_calls.nd rfl (.inl rfl)) (pgs_cons (pg_seq (by rfl) (pgs_cons (pg_name (i := 5) sc_p_idle_calls.nd rfl (.inl rfl)) (pgs_cons (pg_name (i := 6) sc_p_idle_calls.nd rfl (.inl rfl)) pgs_nil))) pgs_nil)))
        (pss_one (ps_if (pt_not (pt_val (pe_call G2 (hr.mono (by decide)) (by rfl) T.g_p_join_two T.F_p_join_two.kp T.b_p_join_two .nil pass0 (pa_cons (pv 2) (pa_cons (pv 5) (pa_cons (pv 6) pa_nil))))))
          (pss_one (ps_expr (pe_bm PySem.F.plainAttrs_list PySem.F.slot_list_append PySem.F.type_list_append mt_append (pv 3) (pa_cons (pv 4) pa_nil)))) pss_nil))) <|
      pss_one (ps_ret (pv 3)), ?_⟩
    have hl : ((nv ps).length : Int) = (n : Nat) := by rw [nv_length, hP.len]
    refine ⟨.ref p, rfl, p, _, rfl, hp, .ref wd, rfl, n, wd, us, qs, ?_, hw, hI, hc, ?_⟩
    · show [V.int ((nv ps).length : Int), V.ref wd] = _
      rw [hl]
    refine ⟨.ref p, rfl, p, _, rfl, hp, fun l nl => ⟨Nat.zero_le _, fun g ng => ?_⟩⟩
    have s0 : Same H (upd H l (.lst (nv ps))) := same_new nl
    have s1 : Same (upd H l (.lst (nv ps))) _ := same_new (o := .lst []) ng
    have lg : l ≠ g := ne_of_none upd_same ng
    have ng0 : H g = none := s0.free ng
    have turn : ∀ (i : Nat) (x : V) (σ : L2.St) (H1 H2 : Hp), i < us.length → (Same H H1 ∧ ∃ (y4 y5 y6 : Option V), σ = [some (.ref p), some (.ref wd), some (.ref l), some (.ref g), y4, y5, y6] ∧ H1 l = some (.lst (nv (runs (qs.take i) ps))) ∧ H1 g = some (.lst (nv (idleN qs ps i)))) → YPair (fun i => some (.int (i : Nat))) (fun i => us[i]?) i H1 x H2 →
        ∀ N : L2.St → Hp → Prop, (∀ σ' H', (Same H H' ∧ ∃ (y4 y5 y6 : Option V), σ' = [some (.ref p), some (.ref wd), some (.ref l), some (.ref g), y4, y5, y6] ∧ H' l = some (.lst (nv (runs (qs.take (i + 1)) ps))) ∧ H' g = some (.lst (nv (idleN qs ps (i + 1))))) → N σ' H') →
        gTup K 2 (gCons (gName 4) (gCons (gSeq K 2 (gCons (gName 5) (gCons (gName 6) gNil))) gNil)) x σ H2 fun σ2 H2 =>
          tNot (tB (tCall spJoin [] E0 (tCons (tVar 2) (tCons (tVar 5) (tCons (tVar 6) tNil))))) σ2 H2 fun c H3 => if c = true then (tDrop (tBM K "list" rAppend (tVar 3) (tCons (tVar 4) tNil))) { nx := N, rt := Q } σ2 H3 else N σ2 H3 := by
      intro i x σ H1 H2 hi hPv y N hN
      obtain ⟨sm, y4, y5, y6, rfl, el, eg⟩ := hPv
      obtain ⟨t, v1, v2, rfl, nt, rfl, g1, g2⟩ := y
      have ev1 : v1 = .int (i : Nat) := (Option.some.inj g1).symm
      subst ev1
      obtain ⟨c, r, rfl, hr', hq⟩ := hI.2 i v2 g2
      have hcr := hc r (List.mem_of_getElem? hr')
      have hiq := get_lt hr'
      have st : Same H1 _ := same_new (o := .tup [.int (i : Nat), .ref c]) nt
      have hPi := runs_pair _ hP (hc.take i)
      refine ⟨t, _, rfl, .inl (.inl upd_same), rfl, _, _, rfl, _, _, rfl, ⟨c, _, rfl, (hq.same sm).same st, rfl, _, _, rfl, _, _, rfl, rfl, rfl, ?_⟩⟩
      refine ⟨.ref l, rfl, _, rfl, _, rfl, l, _, n, r.1, r.2, rfl, st _ _ el, hPi, by omega, hcr.2, fun H3 e3 k3 => ⟨_, rfl, ?_⟩⟩
      have eg3 := k3 _ _ lg.symm (st _ _ eg)
      have hI' := idleAt_of (ps := ps) hr'
      rw [← runs_take hr'] at e3
      have sm3 : Same H H3 := fun b o hb => k3 b o (ne_of_none hb nl) (st _ _ (sm _ _ hb))
      by_cases cc : (runs (qs.take i) ps).getD r.1 0 = r.2
      · rw [decide_eq_true cc] at hI' ⊢
        refine iteT ⟨.ref g, rfl, .inl ⟨rfl, _, .inl (.inl eg3)⟩, _, rfl, g, _, _, rfl, rfl, eg3, line_big (by rw [nv_length]; have := idleN_len qs ps i; omega), hN _ _ ⟨fun b o hb => ?_, _, _, _, rfl, ?_, ?_⟩⟩
        · rw [upd_ne (ne_of_none hb ng0)]; exact sm3 _ _ hb
        · rw [upd_ne lg]; exact e3
        · rw [upd_same, idleN_yes hI']
          unfold nv
          rw [List.map_append]; rfl
      · rw [decide_eq_false cc] at hI' ⊢
        refine iteF (hN _ _ ⟨sm3, _, _, _, rfl, e3, ?_⟩)
        rw [idleN_no hI']; exact eg3
    have start : Same H (upd (upd H l (.lst (nv ps))) g (.lst [])) ∧ ∃ (y4 y5 y6 : Option V), ([some (.ref p), some (.ref wd), some (.ref l), some (.ref g), none, none, none] : L2.St) = [some (.ref p), some (.ref wd), some (.ref l), some (.ref g), y4, y5, y6] ∧ (upd (upd H l (.lst (nv ps))) g (.lst [])) l = some (.lst (nv (runs (qs.take 0) ps))) ∧ (upd (upd H l (.lst (nv ps))) g (.lst [])) g = some (.lst (nv (idleN qs ps 0))) :=
      ⟨s0.trans s1, none, none, none, rfl, s1 _ _ upd_same, upd_same⟩
    have fin : ∀ (σ : L2.St) (H' : Hp), (Same H H' ∧ ∃ (y4 y5 y6 : Option V), σ = [some (.ref p), some (.ref wd), some (.ref l), some (.ref g), y4, y5, y6] ∧ H' l = some (.lst (nv (runs (qs.take us.length) ps))) ∧ H' g = some (.lst (nv (idleN qs ps us.length)))) → ∃ v, σ[3]? = some (some v) ∧ Q v H' := by
      rintro σ H' ⟨sm, y4, y5, y6, rfl, el, eg⟩
      rw [hI.1] at eg
      exact ⟨.ref g, rfl, q H' g sm ng0 eg⟩
    rcases hw with hw | hw
    · refine ⟨.ref wd, rfl, wd, us, rfl, .inl ⟨(s0.trans s1).seq hw, ?_⟩⟩
      exact for_it walk_enum _ start (fun i σ H' _ h => h.1.seq hw) (fun i x σ H1 H2 hi hP' y => turn i x σ H1 H2 hi hP' y _ fun _ _ z => z) fin
    · refine ⟨.ref wd, rfl, wd, us, rfl, .inr ⟨same_tup (s0.trans s1) hw, ?_⟩⟩
      exact for_it walk_enumT _ start (fun i σ H' _ h => same_tup h.1 hw) (fun i x σ H1 H2 hi hP' y => turn i x σ H1 H2 hi hP' y _ fun _ _ z => z) fin
end
end Pc
namespace Pc
open PySem PySem.Spec PyProof.Rows L2 RZ
/-! ### sheets as lists of natural numbers -/
/-- the empty sheet of n people -/
def emp (n : Nat) : List Nat := (List.range (2 * n)).map fun e => (e + n) % (2 * n)
theorem emp_len (n : Nat) : (emp n).length = 2 * n := by unfold emp; rw [List.length_map, List.length_range]
theorem emp_get {n e : Nat} (h : e < 2 * n) : (emp n)[e]? = some ((e + n) % (2 * n)) := by
  unfold emp
  rw [List.getElem?_map, List.getElem?_range h]
  rfl
theorem emp_lo {n e : Nat} (h : e < n) : (emp n)[e]? = some (n + e) := by
  rw [emp_get (by omega), Nat.mod_eq_of_lt (by omega), Nat.add_comm]
theorem emp_hi {n e : Nat} (h : e < n) : (emp n)[n + e]? = some e := by
  rw [emp_get (by omega), show n + e + n = e + 1 * (2 * n) by omega, Nat.add_mul_mod_self_right, Nat.mod_eq_of_lt (by omega)]
theorem emp_pair {n : Nat} (hn : 0 < n) : IsPair (2 * n) (emp n) := by
  refine ⟨emp_len n, fun x hx => ?_⟩
  by_cases h : x < n
  · exact ⟨n + x, emp_lo h, by omega, by omega, emp_hi h⟩
  · have e : x = n + (x - n) := by omega
    refine ⟨x - n, ?_, by omega, by omega, ?_⟩
    · have := emp_hi (n := n) (e := x - n) (by omega)
      rw [← e] at this; exact this
    · have := emp_lo (n := n) (e := x - n) (by omega)
      rw [← e] at this; exact this
/-- the calls at the lower ends -/
def low (n : Nat) (qs : List (Nat × Nat)) : List (Nat × Nat) := qs.map fun q => (n + q.1, n + q.2)
theorem low_calls {n : Nat} {qs : List (Nat × Nat)} (h : Calls n qs) : Calls (2 * n) (low n qs) := fun q hq => by
  obtain ⟨r, hr, rfl⟩ := List.mem_map.mp hq
  have := h r hr
  exact ⟨by show n + r.1 < n + r.2; omega, by show n + r.2 < 2 * n; omega⟩
theorem low_take (n : Nat) (qs : List (Nat × Nat)) (i : Nat) : (low n qs).take i = low n (qs.take i) := by unfold low; rw [List.map_take]
theorem low_get {n i : Nat} {qs : List (Nat × Nat)} {q : Nat × Nat} (h : qs[i]? = some q) : (low n qs)[i]? = some (n + q.1, n + q.2) := by
  unfold low; rw [List.getElem?_map, h]; rfl
/-- the sheet with calls added -/
def shw (n : Nat) (qs : List (Nat × Nat)) (fs : List Nat) : List Nat := runs (low n qs) fs
theorem shw_take {n i : Nat} {qs : List (Nat × Nat)} {fs : List Nat} {q : Nat × Nat} (h : qs[i]? = some q) : shw n (qs.take (i + 1)) fs = jn (shw n (qs.take i) fs) (n + q.1) (n + q.2) := by
  unfold shw
  rw [← low_take, ← low_take, runs_take (low_get h)]
theorem shw_pair {n : Nat} {qs : List (Nat × Nat)} {fs : List Nat} (hP : IsPair (2 * n) fs) (h : Calls n qs) : IsPair (2 * n) (shw n qs fs) := runs_pair _ hP (low_calls h)
/-- the other order of the stores -/
theorem jn_alt {n : Nat} {fs : List Nat} (h : IsPair n fs) {a b c d : Nat} (hab : a ≠ b) (ea : fs[a]? = some c) (eb : fs[b]? = some d) (hcb : c ≠ b) : (((fs.set c d).set d c).set a b).set b a = jn fs a b := by
  obtain ⟨x1, x2, x3, x4, l1, l2, l3, l4⟩ := four h hab ea eb hcb
  have hl := h.len
  refine List.ext_getElem? fun z => ?_
  rw [jn_get h hab ea eb hcb]
  by_cases z2 : z = b
  · subst z2
    rw [List.getElem?_set_self (by simp only [List.length_set]; omega), if_neg hab.symm, if_pos rfl]
  · rw [List.getElem?_set_ne (Ne.symm z2)]
    by_cases z1 : z = a
    · subst z1
      rw [List.getElem?_set_self (by simp only [List.length_set]; omega), if_pos rfl]
    · rw [List.getElem?_set_ne (Ne.symm z1), if_neg z1, if_neg z2]
      by_cases z4 : z = d
      · subst z4
        rw [List.getElem?_set_self (by simp only [List.length_set]; omega), if_neg (Ne.symm x4), if_pos rfl]
      · rw [List.getElem?_set_ne (Ne.symm z4)]
        by_cases z3 : z = c
        · subst z3
          rw [List.getElem?_set_self (by omega), if_pos rfl]
        · rw [List.getElem?_set_ne (Ne.symm z3), if_neg z3, if_neg z4]
theorem range_shift (n : Nat) : rgV (n : Int) (2 * (n : Int)) = nv ((List.range n).map fun i => n + i) := by
  unfold rgV nv
  rw [show (2 * (n : Int) - (n : Int)).toNat = n by omega, List.map_map]
  refine List.map_congr_left fun i _ => ?_
  show V.int ((n : Int) + (i : Nat)) = V.int (((n + i : Nat) : Int))
  rw [show (((n + i : Nat) : Int)) = (n : Int) + (i : Nat) by omega]
/-- strands in any order: the upper ends in turn, the lower ends as drawn -/
def SInv (n : Nat) (ls fs : List Nat) (t : Nat) : Prop := fs.length = 2 * n ∧ ∀ j, j < t → ∀ l, ls[j]? = some l → fs[j]? = some l ∧ fs[l]? = some j
theorem SInv.step {n : Nat} {ls fs : List Nat} {t l : Nat} (hp : ls.Perm ((List.range n).map fun i => n + i)) (h : SInv n ls fs t) (hl : ls[t]? = some l) : SInv n ls ((fs.set t l).set l t) (t + 1) := by
  have hln : ls.length = n := by rw [hp.length_eq, List.length_map, List.length_range]
  have hnd : ls.Nodup := hp.nodup_iff.mpr (List.Pairwise.map _ (fun a b (hab : a ≠ b) => show n + a ≠ n + b by omega) List.nodup_range)
  have big : ∀ {j x : Nat}, ls[j]? = some x → n ≤ x ∧ x < 2 * n := fun hx => by
    obtain ⟨i, hi, e⟩ := List.mem_map.mp (hp.mem_iff.mp (List.mem_of_getElem? hx))
    have := List.mem_range.mp hi
    omega
  have ht : t < n := by rw [← hln]; exact get_lt hl
  have hb := big hl
  obtain ⟨h1, h2⟩ := h
  refine ⟨by simp only [List.length_set]; exact h1, fun j hj x hx => ?_⟩
  have hjn : j < n := by rw [← hln]; exact get_lt hx
  have hbx := big hx
  by_cases e : j = t
  · subst e
    cases Option.some.inj (hl.symm.trans hx)
    exact ⟨by rw [List.getElem?_set_ne (by omega), List.getElem?_set_self (by omega)], by rw [List.getElem?_set_self (by simp only [List.length_set]; omega)]⟩
  · obtain ⟨g1, g2⟩ := h2 j (by omega) x hx
    have xl : l ≠ x := fun z => by subst z; exact e (nd_ix hnd hx hl)
    exact ⟨by rw [List.getElem?_set_ne (by omega), List.getElem?_set_ne (by omega)]; exact g1, by rw [List.getElem?_set_ne xl, List.getElem?_set_ne (by omega)]; exact g2⟩
theorem SInv.done {n : Nat} {ls fs : List Nat} (hp : ls.Perm ((List.range n).map fun i => n + i)) (h : SInv n ls fs n) : IsPair (2 * n) fs := by
  have hln : ls.length = n := by rw [hp.length_eq, List.length_map, List.length_range]
  refine ⟨h.1, fun x hx => ?_⟩
  by_cases e : x < n
  · obtain ⟨l, hl⟩ := get_some (l := ls) (i := x) (by omega)
    obtain ⟨i, hi, e'⟩ := List.mem_map.mp (hp.mem_iff.mp (List.mem_of_getElem? hl))
    have := List.mem_range.mp hi
    obtain ⟨g1, g2⟩ := h.2 x e l hl
    exact ⟨l, g1, by omega, by omega, g2⟩
  · have hm : x ∈ ls := hp.mem_iff.mpr (List.mem_map.mpr ⟨x - n, List.mem_range.mpr (by omega), by omega⟩)
    obtain ⟨j, hj, ej⟩ := List.mem_iff_getElem.mp hm
    obtain ⟨g1, g2⟩ := h.2 j (by omega) x (by rw [List.getElem?_eq_getElem hj, ej])
    exact ⟨j, g2, by omega, by omega, g1⟩
theorem emp_step (n i : Nat) (h : i < 2 * n) : (emp n).take (i + 1) = (emp n).take i ++ [(i + n) % (2 * n)] := by
  rw [List.take_add_one, emp_get h]
  rfl
theorem nv_snoc' (l : List Nat) (x : Nat) : nv l ++ [.int (x : Int)] = nv (l ++ [x]) := by
  unfold nv
  rw [List.map_append]; rfl
theorem mod_cast_n (i n : Nat) : ((0 : Int) + (i : Nat) + (n : Int)) % (2 * (n : Int)) = (((i + n) % (2 * n) : Nat) : Int) := by
  have h : (((i + n) % (2 * n) : Nat) : Int) = ((i + n : Nat) : Int) % ((2 * n : Nat) : Int) := Int.natCast_emod _ _
  rw [h, Int.natCast_add, Int.natCast_mul, Int.zero_add]
  rfl
end Pc
namespace Pc
open PySem PySem.Spec PyProof.Rows L2 RZ
section
variable {P : Program} {w : World} {K : PySem.W.Frag} {mg : Str → Option Value} {base : Heap}
/-! ### the law's own sheet of a word -/
def spSheetOf (K : PySem.W.Frag) : Sp := fun vs H Q _ => ∃ (n : Nat) (wd : Addr) (us : List V) (as : List Addr) (qs : List (Nat × Nat)), vs = [.int n, .ref wd] ∧ SqL K H wd us ∧ us = as.map V.ref ∧ Prs H as qs ∧ Calls n qs ∧ 2 ≤ n ∧ n ≤ 1000 ∧
  ∀ (H' : Hp) (t : Addr), Same H H' → H t = none → H' t = some (.tup (nv (shw n qs (emp n)))) → Q (.ref t) H'
theorem ok_sheet_of (T : Env K mg) : FnOk P w K mg base CX0 1 T.f_sheet_of T.d_sheet_of ["_law_count", "_law_cries"] (spSheetOf K) := by
  refine T.F_sheet_of.ok sc_sheet_of (fun vs H Q E h => ?_) (fun cdv A outer s H vs Q E hr h => ?_)
  · obtain ⟨n, wd, us, as, qs, rfl, _⟩ := h
    rfl
  · obtain ⟨n, wd, us, as, qs, rfl, hS, rfl, hA, hc, h2, hn, q⟩ := h
    refine ⟨_, pss_cons (ps_setLc (i := 2) (own := [("_law_end", 7)]) (g := gName 7) (tt := tYes) (te := tOp (rI (fun _ j => 0 < j) fun i j => .int (i % j)) (tOp (rI0 fun i j => .int (i + j)) (tVar 7) (tVar 0)) (tOp (rI CMul fun i j => .int (i * j)) (tC (.int 2)) (tVar 0))) rfl sc_sheet_of.nd rfl rfl (sw_true rfl rfl rfl (by decide +kernel))
          (pi_range1 (by rfl) T.n_range (pa_cons (pe_op op_mul pe_int (pv 0)) pa_nil)) (blkOk_by (N := N_sheet_of) (sc := defScope s_sheet_of) (by decide +kernel)) (fun _ _ _ _ _ => pg_name (i := 7) sc_sheet_of.nd rfl (.inl rfl)) (fun _ _ _ _ _ => pts_nil)
          (fun _ _ _ _ _ => pe_op op_mod (pe_op op_add (pv 7) (pv 0)) (pe_op op_mul pe_int (pv 0)))) <|
      pss_cons (ps_for PassesOwn.never rfl (pi_list (pv 1)) (pg_tup (by rfl) (pgs_cons (pg_name (i := 3) sc_sheet_of.nd rfl (.inl rfl)) (pgs_cons (pg_name (i := 4) sc_sheet_of.nd rfl (.inl rfl)) pgs_nil)))
        (pss_cons (ps_par (by rfl) sc_sheet_of.nd (i := 5) (j := 6) rfl rfl (by decide) rfl rfl (pa_cons (pe_ix ix_list (pv 2) (pe_op op_add (pv 0) (pv 3)) (fun _ _ => rfl)) (pa_cons (pe_ix ix_list (pv 2) (pe_op op_add (pv 0) (pv 4)) (fun _ _ => rfl)) pa_nil)) (by rfl)) <|
        pss_one (ps_if (pt_cmpR op_ne (pv 5) (pe_op op_add (pv 0) (pv 4)) (nomark _))
          (pss_cons (ps_asg (pe_tup (pa_cons (pv 6) (pa_cons (pv 5) pa_nil))) (pg_tup rfl (pgs_cons (pg_sub (pv 2) (pv 5) set_list) (pgs_cons (pg_sub (pv 2) (pv 6) set_list) pgs_nil)))) <|
          pss_one (ps_asg (pe_tup (pa_cons (pe_op op_add (pv 0) (pv 4)) (pa_cons (pe_op op_add (pv 0) (pv 3)) pa_nil))) (pg_tup rfl (pgs_cons (pg_sub (pv 2) (pe_op op_add (pv 0) (pv 3)) set_list) (pgs_cons (pg_sub (pv 2) (pe_op op_add (pv 0) (pv 4)) set_list) pgs_nil))))) pss_nil))) <|
      pss_one (ps_ret (pe_callTy call_tuple_of (by rfl) T.n_tuple (by decide +kernel) (pa_cons (pv 2) pa_nil))), ?_⟩
    have hE := emp_pair (n := n) (by omega)
    refine ⟨_, rfl, 2, n, rfl, rfl, .inl ⟨by decide, by decide⟩, _, rfl, by omega, by omega, fun D nD => ?_⟩
    rw [show (2 * (n : Int)).toNat = 2 * n by omega]
    refine lc_range (n := 2 * n) (fun i H' => Same H H' ∧ H' D = some (.lst (nv ((emp n).take i)))) ⟨same_new nD, upd_same⟩ (fun i H' hi hPv => ?_) (fun H1 hPv => ?_)
    · obtain ⟨sm, eD⟩ := hPv
      refine ⟨rfl, yes_if ⟨_, rfl, _, rfl, _, _, rfl, rfl, _, rfl, 2, n, rfl, rfl, .inl ⟨by decide, by decide⟩, _, _, rfl, rfl, (show (0 : Int) < 2 * (n : Int) by omega), _, eD, line_big (by rw [nv_length, List.length_take]; omega), fun b o hb => ?_, ?_⟩⟩
      · rw [upd_ne (ne_of_none hb nD)]; exact sm _ _ hb
      · rw [upd_same, emp_step n i hi, ← nv_snoc']
        show some (HO.lst (nv ((emp n).take i) ++ [V.int (((0 : Int) + (i : Nat) + (n : Int)) % (2 * (n : Int)))])) = _
        rw [mod_cast_n]
    · obtain ⟨s1, eD⟩ := hPv
      rw [← emp_len n, List.take_length] at eD
      refine ⟨.ref wd, rfl, wd, rfl, ⟨_, s1.seq hS⟩, ?_⟩
      refine for_list (xs := as.map V.ref) (fun i σ H' => Same H H' ∧ ∃ (y3 y4 y5 y6 : Option V), σ = [some (.int n), some (.ref wd), some (.ref D), y3, y4, y5, y6, none] ∧ H' D = some (.lst (nv (shw n (qs.take i) (emp n))))) ⟨s1, none, none, none, none, rfl, eD⟩ (fun i σ H' _ h => h.1.seq hS) (fun i x σ H' hx h => ?_) (fun σ H' h => ?_)
      · obtain ⟨sm, y3, y4, y5, y6, rfl, e1⟩ := h
        rw [List.getElem?_map] at hx
        cases et : as[i]? with
        | none => rw [et] at hx; cases hx
        | some t =>
        rw [et] at hx
        cases Option.some.inj hx
        obtain ⟨r, er, ht⟩ := prs_get hA et
        have hcr := hc r (List.mem_of_getElem? er)
        have hPi := shw_pair hE (hc.take i)
        obtain ⟨u, ea, hu, _⟩ := hPi.par (n + r.1) (by omega)
        obtain ⟨v, eb, hv, _⟩ := hPi.par (n + r.2) (by omega)
        have hl := hPi.len
        have c1 : (n : Int) + (r.1 : Int) = ((n + r.1 : Nat) : Int) := by omega
        have c2 : (n : Int) + (r.2 : Int) = ((n + r.2 : Nat) : Int) := by omega
        have a1 : atI (nv (shw n (qs.take i) (emp n))) ((n : Int) + (r.1 : Int)) = some (.int u) := by rw [c1]; exact nv_at ea
        have a2 : atI (nv (shw n (qs.take i) (emp n))) ((n : Int) + (r.2 : Int)) = some (.int v) := by rw [c2]; exact nv_at eb
        refine ⟨t, _, rfl, .inl (.inl (sm _ _ ht)), rfl, _, _, rfl, _, _, rfl, rfl, ?_⟩
        refine ⟨.ref D, rfl, _, rfl, _, rfl, _, _, rfl, rfl, D, _, _, _, rfl, rfl, .inl (.inl e1), a1, .ref D, rfl, _, rfl, _, rfl, _, _, rfl, rfl, D, _, _, _, rfl, rfl, .inl (.inl e1), a2, _, _, rfl, ?_⟩
        refine ⟨_, rfl, _, rfl, _, rfl, _, _, rfl, rfl, rfl, _, rfl, ite2 (fun c => ?_) (fun c => ?_)⟩
        · have hne : u ≠ n + r.2 := fun z => by
            have c' : (!decide (V.int (u : Int) = V.int ((n : Int) + (r.2 : Int)))) = true := c
            rw [c2, z, decide_eq_true rfl] at c'
            exact absurd c' (by decide)
          have ln : ∀ {l : List V}, l.length = 2 * n → ∀ {i : Nat}, i < 2 * n → ixN l.length (i : Int) = some i := fun {l} hl2 {i} hi => ixN_nat (by rw [hl2]; exact hi)
          refine ⟨_, rfl, _, rfl, by show 2 ≤ sizeLine; decide, fun tp ntp => ?_⟩
          have Dt : D ≠ tp := ne_of_none e1 ntp
          have s2 : Same H' _ := same_new (o := .tup [.int v, .int u]) ntp
          refine ⟨tp, _, rfl, .inl (.inl upd_same), rfl, _, _, rfl, .ref D, rfl, _, rfl, D, _, _, u, rfl, rfl, s2 _ _ e1, ln (by rw [nv_length, hl]) hu, ?_⟩
          refine ⟨_, _, rfl, .ref D, rfl, _, rfl, D, _, _, v, rfl, rfl, upd_same, ln (by rw [List.length_set, nv_length, hl]) hv, rfl, ?_⟩
          refine ⟨_, rfl, _, rfl, _, _, rfl, rfl, _, rfl, _, rfl, _, _, rfl, rfl, by show 2 ≤ sizeLine; decide, fun tq ntq => ?_⟩
          have Dq : D ≠ tq := ne_of_none upd_same ntq
          refine ⟨tq, _, rfl, .inl (.inl upd_same), rfl, _, _, rfl, .ref D, rfl, _, rfl, _, rfl, _, _, rfl, rfl, D, _, _, n + r.1, rfl, rfl, same_new ntq _ _ upd_same, ?_, ?_⟩
          · rw [c1]
            exact ln (by simp only [List.length_set]; rw [nv_length, hl]) (by omega)
          refine ⟨_, _, rfl, .ref D, rfl, _, rfl, _, rfl, _, _, rfl, rfl, D, _, _, n + r.2, rfl, rfl, upd_same, ?_, rfl, ?_⟩
          · rw [c2]
            exact ln (by simp only [List.length_set]; rw [nv_length, hl]) (by omega)
          refine ⟨fun b o hb => ?_, _, _, _, _, rfl, ?_⟩
          · have nb : b ≠ D := ne_of_none hb nD
            rw [upd_ne nb, upd_ne nb]
            refine same_new ntq _ _ ?_
            rw [upd_ne nb, upd_ne nb]
            exact s2 _ _ (sm _ _ hb)
          · rw [upd_same]
            dsimp only
            rw [c1, c2, nv_set, nv_set, nv_set, nv_set, shw_take er, jn_alt hPi (by omega) ea eb hne]
        · have heq : u = n + r.2 := by
            by_cases z : u = n + r.2
            · exact z
            · exact absurd (by rw [decide_eq_false (fun y => z (by have := V.int.inj y; omega))]; rfl) c
          subst heq
          refine ⟨sm, _, _, _, _, rfl, ?_⟩
          rw [shw_take er, jn_same ea]
          exact e1
      · obtain ⟨sm, y3, y4, y5, y6, rfl, e1⟩ := h
        rw [List.length_map, hA.length, List.take_length] at e1
        exact ⟨.ref D, rfl, D, _, rfl, .inl ⟨.inl (.inl e1), fun t nt => q _ t (sm.trans (same_new nt)) (sm.free nt) upd_same⟩⟩
end
end Pc
namespace Pc
open PySem PySem.Spec PyProof.Rows L2 RZ
section
variable {P : Program} {w : World} {K : PySem.W.Frag} {mg : Str → Option Value} {base : Heap}
/-! ### the number of people of a sheet -/
def spPeople (K : PySem.W.Frag) : Sp := fun vs H Q _ => ∃ (a : Addr) (fs : List Nat) (n : Nat), vs = [.ref a] ∧ Sq K H a (nv fs) ∧ fs.length = 2 * n ∧ Q (.int n) H
theorem ok_p_people_of (T : Env K mg) : FnOk P w K mg base CX0 1 T.f_p_people_of T.d_p_people_of ["sheet"] (spPeople K) := by
  refine T.F_p_people_of.ok sc_p_people_of (fun vs H Q E h => ?_) (fun cdv A outer s H vs Q E hr h => ?_)
  · obtain ⟨a, fs, n, rfl, _⟩ := h
    rfl
  · obtain ⟨a, fs, n, rfl, hS, hl, q⟩ := h
    refine ⟨_, pss_one (ps_ret (pe_op op_fdiv (pe_callB call_len_seq (by rfl) T.n_len PySem.boot_len (pa_cons (pv 0) pa_nil)) pe_int)), ?_⟩
    refine ⟨.ref a, rfl, a, _, rfl, hS, _, 2, rfl, rfl, ⟨by decide, by decide⟩, ?_⟩
    show Q (.int (((nv fs).length : Int) / 2)) H
    rw [nv_length, hl, show (((2 * n : Nat) : Int) / 2) = (n : Int) by omega]
    exact q
end
end Pc
namespace Pc
open PySem PySem.Spec PyProof.Rows L2 RZ
theorem emp_two (n : Nat) : emp n = ((List.range n).map fun i => n + i) ++ List.range n := by
  refine List.ext_getElem? fun z => ?_
  by_cases h : z < n
  · rw [emp_lo h, List.getElem?_append_left (by rw [List.length_map, List.length_range]; exact h), List.getElem?_map, List.getElem?_range h]
    rfl
  · rw [List.getElem?_append_right (by rw [List.length_map, List.length_range]; omega), List.length_map, List.length_range]
    by_cases h2 : z < 2 * n
    · have := emp_hi (n := n) (e := z - n) (by omega)
      rw [show n + (z - n) = z by omega] at this
      rw [this, List.getElem?_range (by omega)]
    · rw [List.getElem?_eq_none (by rw [emp_len]; omega), List.getElem?_eq_none (by rw [List.length_range]; omega)]
end Pc
namespace Pc
open PySem PySem.Spec PyProof.Rows L2 RZ
section
variable {P : Program} {w : World} {K : PySem.W.Frag} {mg : Str → Option Value} {base : Heap}
/-! ### the empty sheet -/
def spEmpty : Sp := fun vs H Q _ => ∃ n : Nat, vs = [.int n] ∧ n ≤ 1000 ∧ ∀ (H' : Hp) (t : Addr), Same H H' → H t = none → H' t = some (.tup (nv (emp n))) → Q (.ref t) H'
theorem ok_p_empty_sheet (T : Env K mg) : FnOk P w K mg base CX0 1 T.f_p_empty_sheet T.d_p_empty_sheet ["size"] spEmpty := by
  refine T.F_p_empty_sheet.ok sc_p_empty_sheet (fun vs H Q E h => ?_) (fun cdv A outer s H vs Q E hr h => ?_)
  · obtain ⟨n, rfl, _⟩ := h
    rfl
  · obtain ⟨n, rfl, hn, q⟩ := h
    refine ⟨_, pss_one (ps_ret (pe_callTy call_tuple_of (by rfl) T.n_tuple (by decide +kernel) (pa_cons (pe_op op_cat (pe_listRg rfl (by rfl) T.n_list (prg_2 (by rfl) T.n_range (pv 0) (pe_op op_mul pe_int (pv 0)))) (pe_listRg rfl (by rfl) T.n_list (prg_1 (by rfl) T.n_range (pv 0)))) pa_nil))), ?_⟩
    refine ⟨_, rfl, _, rfl, 2, n, rfl, rfl, .inl ⟨by decide, by decide⟩, _, _, rfl, rfl, RgOk.of_le (by omega) (by omega) (by omega) (by omega), fun a na => ?_⟩
    have s1 : Same H _ := same_new (o := .lst (rgV (n : Int) (2 * (n : Int)))) na
    refine ⟨_, rfl, _, rfl, RgOk.of_le (by decide) (by omega) (by decide) (by omega), fun c nc => ?_⟩
    have s2 : Same (upd H a (.lst (rgV (n : Int) (2 * (n : Int))))) _ := same_new (o := .lst (rgV 0 (n : Int))) nc
    refine ⟨a, c, _, _, rfl, rfl, s2 _ _ upd_same, upd_same, ?_, fun d nd => ?_⟩
    · rw [rgV_length, rgV_length]
      exact Nat.le_of_lt (line_big (by omega))
    refine ⟨d, _, rfl, .inl ⟨.inl (.inl upd_same), fun t nt => ?_⟩⟩
    have s3 := (s1.trans s2).trans (same_new (o := .lst (rgV (n : Int) (2 * (n : Int)) ++ rgV 0 (n : Int))) nd)
    refine q _ t (s3.trans (same_new nt)) (s3.free nt) ?_
    rw [upd_same, range_shift, rg_nv, emp_two]
    unfold nv
    rw [List.map_append]
end
end Pc
namespace Pc
open PySem PySem.Spec PyProof.Rows L2 RZ
section
variable {P : Program} {w : World} {K : PySem.W.Frag} {mg : Str → Option Value} {base : Heap}
/-! ### sheets with words added -/
def spWithWord (K : PySem.W.Frag) : Sp := fun vs H Q _ => ∃ (a wd : Addr) (fs : List Nat) (us : List V) (qs : List (Nat × Nat)) (n : Nat), vs = [.ref a, .ref wd] ∧ Sq K H a (nv fs) ∧ IsPair (2 * n) fs ∧ Sq K H wd us ∧ Items K H us qs ∧ Calls n qs ∧ n ≤ 1000 ∧
  ∀ (H' : Hp) (t : Addr), Same H H' → H t = none → H' t = some (.tup (nv (shw n qs fs))) → Q (.ref t) H'
theorem ok_p_with_word (T : Env K mg) : FnOk P w K mg base CX0 4 T.f_p_with_word T.d_p_with_word ["sheet", "word"] (spWithWord K) := by
  have G0 : FnOk P w K mg base CX0 1 T.f_p_people_of T.d_p_people_of ["sheet"] (spPeople K) := ok_p_people_of T
  have G1 : FnOk P w K mg base CX0 3 T.f_p_check_word T.d_p_check_word ["size", "word"] (spCheckWord K) := ok_p_check_word T
  have G2 : FnOk P w K mg base CX0 1 T.f_p_join_two T.d_p_join_two ["joined", "a", "b"] spJoin := ok_p_join_two T
  refine T.F_p_with_word.ok sc_p_with_word (fun vs H Q E h => ?_) (fun cdv A outer s H vs Q E hr h => ?_)
  · obtain ⟨a, wd, fs, us, qs, n, rfl, _⟩ := h
    rfl
  · obtain ⟨a, wd, fs, us, qs, n, rfl, ha, hP, hw, hI, hc, hn, q⟩ := h
    have h1 := hr.mono (show 1 ≤ 3 by decide)
    refine ⟨_, pss_cons (ps_set (i := 2) sc_p_with_word.nd rfl (.inl rfl) (pe_call G0 h1 (by rfl) T.g_p_people_of T.F_p_people_of.kp T.b_p_people_of .nil pass0 (pa_cons (pv 0) pa_nil))) <|
      pss_cons (ps_expr (pe_call G1 hr (by rfl) T.g_p_check_word T.F_p_check_word.kp T.b_p_check_word .nil pass0 (pa_cons (pv 2) (pa_cons (pv 1) pa_nil)))) <|
      pss_cons (ps_set (i := 3) sc_p_with_word.nd rfl (.inl rfl) (pe_callTy call_list_of (by rfl) T.n_list (by decide +kernel) (pa_cons (pv 0) pa_nil))) <|
      pss_cons (ps_for PassesOwn.never rfl (pi_seq (pv 1)) (pg_seq (by rfl) (pgs_cons (pg_name (i := 4) sc_p_with_word.nd rfl (.inl rfl)) (pgs_cons (pg_name (i := 5) sc_p_with_word.nd rfl (.inl rfl)) pgs_nil)))
        (pss_one (ps_expr (pe_call G2 h1 (by rfl) T.g_p_join_two T.F_p_join_two.kp T.b_p_join_two .nil pass0 (pa_cons (pv 3) (pa_cons (pe_op op_add (pv 2) (pv 4)) (pa_cons (pe_op op_add (pv 2) (pv 5)) pa_nil))))))) <|
      pss_one (ps_ret (pe_callTy call_tuple_of (by rfl) T.n_tuple (by decide +kernel) (pa_cons (pv 3) pa_nil))), ?_⟩
    refine ⟨.ref a, rfl, a, fs, n, rfl, ha, hP.len, ?_⟩
    refine ⟨_, rfl, .ref wd, rfl, n, wd, us, qs, rfl, hw, hI, hc, ?_⟩
    refine ⟨.ref a, rfl, a, _, rfl, ha, fun l nl => ?_⟩
    have s0 : Same H (upd H l (.lst (nv fs))) := same_new nl
    refine ⟨.ref wd, rfl, wd, rfl, for_seq hw (fun i σ H' => Same H H' ∧ ∃ (y4 y5 : Option V), σ = [some (.ref a), some (.ref wd), some (.int n), some (.ref l), y4, y5] ∧ H' l = some (.lst (nv (shw n (qs.take i) fs)))) ⟨s0, none, none, rfl, upd_same⟩ (fun i σ H' h => h.1) (fun i x σ H' hx h => ?_) (fun σ H' h => ?_)⟩
    · obtain ⟨sm, y4, y5, rfl, el⟩ := h
      obtain ⟨c, r, rfl, hr', hq⟩ := hI.2 i x hx
      have hcr := hc r (List.mem_of_getElem? hr')
      refine ⟨c, _, rfl, hq.same sm, rfl, _, _, rfl, _, _, rfl, rfl, .ref l, rfl, _, rfl, _, rfl, _, _, rfl, rfl, _, rfl, _, rfl, _, _, rfl, rfl, l, _, 2 * n, n + r.1, n + r.2, ?_, el, shw_pair hP (hc.take i), by omega, by omega, fun H2 e2 k2 => ?_⟩
      · show [V.ref l, V.int ((n : Int) + (r.1 : Int)), V.int ((n : Int) + (r.2 : Int))] = _
        rw [show (n : Int) + (r.1 : Int) = ((n + r.1 : Nat) : Int) by omega, show (n : Int) + (r.2 : Int) = ((n + r.2 : Nat) : Int) by omega]
      · refine ⟨fun b o hb => k2 b o (ne_of_none hb nl) (sm _ _ hb), _, _, rfl, ?_⟩
        rw [shw_take hr']
        exact e2
    · obtain ⟨sm, y4, y5, rfl, el⟩ := h
      rw [hI.1, List.take_length] at el
      exact ⟨.ref l, rfl, l, _, rfl, .inl ⟨.inl (.inl el), fun t nt => q _ t (sm.trans (same_new nt)) (sm.free nt) upd_same⟩⟩
end
end Pc
namespace Pc
open PySem PySem.Spec PyProof.Rows L2 RZ
section
variable {P : Program} {w : World} {K : PySem.W.Frag} {mg : Str → Option Value} {base : Heap}
/-! ### sheets of words -/
def spPSheetOf (K : PySem.W.Frag) : Sp := fun vs H Q _ => ∃ (n : Nat) (wd : Addr) (us : List V) (qs : List (Nat × Nat)), vs = [.int n, .ref wd] ∧ Sq K H wd us ∧ Items K H us qs ∧ Calls n qs ∧ 0 < n ∧ n ≤ 1000 ∧
  ∀ (H' : Hp) (t : Addr), Same H H' → H t = none → H' t = some (.tup (nv (shw n qs (emp n)))) → Q (.ref t) H'
theorem ok_p_sheet_of (T : Env K mg) : FnOk P w K mg base CX0 5 T.f_p_sheet_of T.d_p_sheet_of ["size", "word"] (spPSheetOf K) := by
  have G0 : FnOk P w K mg base CX0 1 T.f_p_empty_sheet T.d_p_empty_sheet ["size"] spEmpty := ok_p_empty_sheet T
  have G1 : FnOk P w K mg base CX0 4 T.f_p_with_word T.d_p_with_word ["sheet", "word"] (spWithWord K) := ok_p_with_word T
  refine T.F_p_sheet_of.ok sc_p_sheet_of (fun vs H Q E h => ?_) (fun cdv A outer s H vs Q E hr h => ?_)
  · obtain ⟨n, wd, us, qs, rfl, _⟩ := h
    rfl
  · obtain ⟨n, wd, us, qs, rfl, hw, hI, hc, h0, hn, q⟩ := h
    refine ⟨_, pss_one (ps_ret (pe_call G1 hr (by rfl) T.g_p_with_word T.F_p_with_word.kp T.b_p_with_word .nil pass0 (pa_cons (pe_call G0 (hr.mono (by decide)) (by rfl) T.g_p_empty_sheet T.F_p_empty_sheet.kp T.b_p_empty_sheet .nil pass0 (pa_cons (pv 0) pa_nil)) (pa_cons (pv 1) pa_nil)))), ?_⟩
    refine ⟨_, rfl, n, rfl, hn, fun H1 t s1 nt et => ?_⟩
    refine ⟨.ref wd, rfl, t, wd, emp n, us, qs, n, rfl, .inr (.inl (.inl et)), emp_pair h0, hw.same s1, hI.same s1, hc, hn, fun H2 t2 s2 nt2 et2 => q H2 t2 (s1.trans s2) (s1.free nt2) et2⟩
end
end Pc
namespace Pc
open PySem PySem.Spec PyProof.Rows L2 RZ
section
variable {P : Program} {w : World} {K : PySem.W.Frag} {mg : Str → Option Value} {base : Heap}
/-! ### a call added -/
def spWithCall (K : PySem.W.Frag) : Sp := fun vs H Q _ => ∃ (a c : Addr) (fs : List Nat) (x y n : Nat), vs = [.ref a, .ref c] ∧ Sq K H a (nv fs) ∧ IsPair (2 * n) fs ∧ Sq K H c [.int x, .int y] ∧ x < y ∧ y < n ∧ n ≤ 1000 ∧
  ∀ (H' : Hp) (t : Addr), Same H H' → H t = none → H' t = some (.tup (nv (jn fs (n + x) (n + y)))) → Q (.ref t) H'
theorem ok_p_with_call (T : Env K mg) : FnOk P w K mg base CX0 5 T.f_p_with_call T.d_p_with_call ["sheet", "call"] (spWithCall K) := by
  have G1 : FnOk P w K mg base CX0 4 T.f_p_with_word T.d_p_with_word ["sheet", "word"] (spWithWord K) := ok_p_with_word T
  refine T.F_p_with_call.ok sc_p_with_call (fun vs H Q E h => ?_) (fun cdv A outer s H vs Q E hr h => ?_)
  · obtain ⟨a, c, fs, x, y, n, rfl, _⟩ := h
    rfl
  · obtain ⟨a, c, fs, x, y, n, rfl, ha, hP, hc, hxy, hy, hn, q⟩ := h
    refine ⟨_, pss_one (ps_ret (pe_call G1 hr (by rfl) T.g_p_with_word T.F_p_with_word.kp T.b_p_with_word .nil pass0 (pa_cons (pv 0) (pa_cons (pe_lst (pa_cons (pv 1) pa_nil)) pa_nil)))), ?_⟩
    refine ⟨.ref a, rfl, .ref c, rfl, by show 1 ≤ sizeLine; decide, fun l nl => ?_⟩
    have s0 : Same H (upd H l (.lst [.ref c])) := same_new nl
    refine ⟨a, l, fs, [.ref c], [(x, y)], n, rfl, ha.same s0, hP, .inl (.inl (.inl upd_same)), ⟨rfl, fun i v hv => ?_⟩, fun r hr' => ?_, hn, fun H' t s' nt et => q H' t (s0.trans s') (s0.free nt) et⟩
    · have hi : i < 1 := get_lt hv
      have : i = 0 := by omega
      subst this
      exact ⟨c, (x, y), (Option.some.inj hv).symm, rfl, hc.same s0⟩
    · rw [List.mem_singleton.mp hr']; exact ⟨hxy, hy⟩
end
end Pc
namespace Pc
open PySem PySem.Spec PyProof.Rows L2 RZ
/-- x //= c -/
def ipHalf : TIp := fun x y H Q => ∃ i j, x = .int i ∧ y = .int j ∧ (0 < j ∧ j < 1073741824) ∧ Q (.int (i / j)) H
theorem ip_half {X : Cx} : PIp X .FloorDiv ipHalf := by
  intro pins s σ H x y v u Q I r1 r2 h
  obtain ⟨i, j, e1, e2, hj, q⟩ := h
  subst e1 e2
  obtain ⟨t, rfl⟩ := r1
  obtain ⟨t', rfl⟩ := r2
  refine PyProof.Rows.ifloordiv_int (by omega) ?_ (.inl (PyProof.noPylong_small (by omega)))
  rw [Int.fdiv_eq_ediv_of_nonneg i (by omega)]
  exact ⟨.int _, H, I.tok _, ⟨_, rfl⟩, q⟩
theorem bl_dec (a b : Bool) : decide (V.bl a = V.bl b) = (a == b) := by cases a <;> cases b <;> rfl
end Pc
namespace Pc
theorem iteY {b : Bool} {A B : Prop} (h : b = true) (a : A) : if b = true then A else B := by rw [if_pos h]; exact a
theorem iteX {b : Bool} {A B : Prop} (h : b = false) (a : B) : if b = true then A else B := by rw [h, if_neg Bool.false_ne_true]; exact a
end Pc
namespace Pc
open PySem PySem.Spec PyProof.Rows L2 RZ
/-! ### data of small size, by its depth -/
def Sz : Nat → Nat
  | 0 => 61
  | 1 => 6303
  | 2 => 630503
  | _ => 15762628
abbrev Fi (j : Nat) (d : PyData) : Prop := Fine j (Sz j) d
theorem Sz_le : ∀ j, Sz j ≤ Sz (j + 1)
  | 0 => by decide
  | 1 => by decide
  | 2 => by decide
  | _ + 3 => Nat.le_refl _
theorem Fine.up {j : Nat} {d : PyData} (h : Fi j d) : Fi (j + 1) d := h.mono (Nat.le_succ _) (Sz_le j)
theorem Fine.sh {j : Nat} {d : PyData} (h : Fi j d) (hj : j ≤ 60 := by decide) : SeqAt.shaped d = true := Fine.shaped h (by omega)
theorem fi_int {i : Int} (h : i.natAbs < 2 ^ 60) : Fi 0 (.int i) := fine_int h
theorem fi_bl {b : Bool} : Fi 0 (.bool b) := ⟨rfl, rfl, Nat.le_refl _, trivial, by cases b <;> decide⟩
theorem fi_non : Fi 0 .none := ⟨rfl, rfl, Nat.le_refl _, trivial, by decide⟩
theorem fi_tup {l : List Nat} {m : Nat} (hl : IsPair m l) (hm : m ≤ 100) : Fi 1 (td l) := (fine_tup (n := 100) (fun i hi => by have := hl.lt i hi; omega) (by rw [hl.len]; omega) (by decide)).mono (Nat.le_refl _) (by decide)
/-- numbers of small size, not many -/
def Fw (l : List Nat) : Prop := l.length ≤ 100 ∧ ∀ i ∈ l, i < 2 ^ 60
theorem fb {l : List Nat} {m : Nat} (hl : IsPair m l) (hm : m ≤ 100) : Fw l := ⟨by rw [hl.len]; exact hm, fun i hi => by have := hl.lt i hi; omega⟩
theorem fi_tup' {l : List Nat} (h : Fw l) : Fi 1 (td l) := (fine_tup (n := 100) h.2 h.1 (by decide)).mono (Nat.le_refl _) (by decide)
theorem fi_lst {l : List Nat} (h : Fw l) : Fi 1 (.list (nd l)) := (fine_list (k := 0) (m := 61) (n := 100) (fine_nd h.2) (by rw [nd_length]; exact h.1) (by decide)).mono (Nat.le_refl _) (by decide)
theorem fi_prs {qs : List (Nat × Nat)} (h : qs.length ≤ 1000 ∧ ∀ p ∈ qs, p.1 < 2 ^ 60 ∧ p.2 < 2 ^ 60) : Fi 2 (.list (qs.map pd)) := (fine_pds (n := 1000) h.2 h.1 (by decide)).mono (Nat.le_refl _) (by decide)
theorem fa_nil {j : Nat} : ∀ d ∈ ([] : List PyData), Fi j d := fun _ h => absurd h List.not_mem_nil
theorem fa_cons {j : Nat} {d : PyData} {ds : List PyData} (h : Fi j d) (r : ∀ x ∈ ds, Fi j x) : ∀ x ∈ d :: ds, Fi j x := fun x hx => (List.mem_cons.mp hx).elim (fun e => by rw [e]; exact h) (r x)
def Few (j n : Nat) : Prop := n * (Sz j + 2) + 3 ≤ Sz (j + 1) ∧ n ≤ 100000
instance (j n : Nat) : Decidable (Few j n) := by unfold Few; infer_instance
theorem fi_list {j : Nat} {ds : List PyData} (h : ∀ d ∈ ds, Fi j d) (hn : n = ds.length := by rfl) (hf : Few j n := by decide) : Fi (j + 1) (.list ds) := (fine_list (k := j) (m := Sz j) (n := n) h (by rw [hn]; exact Nat.le_refl _) hf.2).mono (Nat.le_refl _) hf.1
theorem fi_tuple {j : Nat} {ds : List PyData} (h : ∀ d ∈ ds, Fi j d) (hn : n = ds.length := by rfl) (hf : Few j n := by decide) : Fi (j + 1) (.tuple ds) := (fine_tuple (k := j) (m := Sz j) (n := n) h (by rw [hn]; exact Nat.le_refl _) hf.2).mono (Nat.le_refl _) hf.1
theorem fi_ne {j : Nat} {d : PyData} (h : Fi j d) : (!PyData.eqv d d) = false := by
  rw [PySem.SeqAt.eqv_refl _ h.lay]; rfl
theorem fi_eq {j : Nat} {d : PyData} (h : Fi j d) : PyData.eqv d d = true := PySem.SeqAt.eqv_refl _ h.lay
/-! ### arguments by name, in another order -/
def pm10 {α : Type} : List α → List α
  | [a, b] => [b, a]
  | l => l
theorem rel_pm10 {zs : List V} {ws : List Value} (_ : zs.length = 2) (r : Vals zs ws) : Vals (pm10 zs) (pm10 ws) := by
  match zs, ws, r with
  | [], _, .nil => exact .nil
  | [_], _, .cons h .nil => exact .cons h .nil
  | [_, _], _, .cons h1 (.cons h2 .nil) => exact .cons h2 (.cons h1 .nil)
  | _ :: _ :: _ :: _, _, .cons h1 (.cons h2 (.cons h3 r)) => exact .cons h1 (.cons h2 (.cons h3 r))
def pm0 {α : Type} (l : List α) : List α := l
theorem rel_pm0 {zs : List V} {ws : List Value} (_ : zs.length = 1) (r : Vals zs ws) : Vals (pm0 zs) (pm0 ws) := r
end Pc
namespace Pc
open PySem PySem.Spec PyProof.Rows L2 RZ
theorem calls_app {n : Nat} {qs rs : List (Nat × Nat)} (h : Calls n qs) (g : Calls n rs) : Calls n (qs ++ rs) := fun q hq => (List.mem_append.mp hq).elim (h q) (g q)
end Pc
namespace Pc
open PySem PySem.Spec PyProof.Rows L2 RZ
/-- the slots, written out -/
theorem st_eq {t : TS} {D : L2.Ends} {σ : L2.St} {H : Hp} (σ' : L2.St) (h : t D σ' H) (e : σ = σ') : t D σ H := by rw [e]; exact h
end Pc
namespace Pc
open PySem PySem.Spec PyProof.Rows L2 RZ
theorem st_set {i : Nat} {v : V} {σ : L2.St} {H : Hp} {Q : L2.St → Hp → Prop} (σ' : L2.St) (h : Q σ' H) (e : σ.set i (some v) = σ') : gName i v σ H Q := by
  unfold gName
  rw [e]; exact h
end Pc
namespace Pc
open PySem PySem.Spec PyProof.Rows L2 RZ
theorem fi_same {x y : V} (e : x = y) : (!decide (x = y)) = false := by rw [decide_eq_true e]; rfl
theorem fi_is {x y : V} (e : x = y) : decide (x = y) = true := decide_eq_true e
end Pc
namespace Pc
open PySem PySem.Spec PyProof.Rows L2 RZ
theorem st_kept {D : L2.Ends} {i : Nat} {a C d : Addr} {σ1 : L2.St} {H : Hp} (σ' : L2.St) (h : D.nx σ' (upd H a (exk a (.ref C) (some d)))) (e : σ1.set i none = σ') :
    ({ nx := fun σ'' H'' => D.nx (σ''.set i none) (upd H'' a (exk a (.ref C) (some d))), rt := fun _ _ => False } : L2.Ends).nx σ1 H := by
  show D.nx (σ1.set i none) _
  rw [e]; exact h
end Pc
namespace Pc
open PySem PySem.Spec PyProof.Rows L2 RZ
theorem st_setH {i : Nat} {v : V} {σ : L2.St} {H : Hp} {Q : L2.St → Hp → Prop} (σ' : L2.St) (H' : Hp) (h : Q σ' H') (e : σ.set i (some v) = σ') (eh : H = H') : gName i v σ H Q := by
  unfold gName
  rw [e, eh]; exact h
end Pc
namespace Pc
open PySem PySem.Spec PyProof.Rows L2 RZ
/-! ### one of some defs, called -/
def FOk (X : Cx) (CX : CXT) (f : Addr) (sp : Sp) : Prop := ∃ (k : Nat) (fd : FuncData) (ps : List Str), FnOk X.prog X.w X.K X.mg X.base CX k f fd ps sp ∧ Room k X.A ∧ PySem.W.keepIn X.K (.ref f) = true ∧ Binds X.K fd ps []
def tCallF (cs : List (Addr × Sp)) (E : L2.St → XK) (tf : TE) (t : TA) : TE := fun σ H Q => tf σ H fun v H1 => ∃ (f : Addr) (sp : Sp), (f, sp) ∈ cs ∧ v = .ref f ∧ t σ H1 fun vs H2 => sp vs H2 Q (E σ)
theorem fall_nil {X : Cx} {CX : CXT} : ∀ c ∈ ([] : List (Addr × Sp)), FOk X CX c.1 c.2 := fun _ h => absurd h List.not_mem_nil
theorem fall_cons {X : Cx} {CX : CXT} {f : Addr} {sp : Sp} {cs : List (Addr × Sp)} (h : FOk X CX f sp) (r : ∀ c ∈ cs, FOk X CX c.1 c.2) : ∀ c ∈ (f, sp) :: cs, FOk X CX c.1 c.2 := fun c hc => (List.mem_cons.mp hc).elim (fun e => by rw [e]; exact h) (r c)
theorem pe_callF {X : Cx} {CX : CXT} {cs : List (Addr × Sp)} {E : L2.St → XK} {fe e : Expr} {es : List Expr} {tf : TE} {t : TA} {pos : Pos} (hall : ∀ c ∈ cs, FOk X CX c.1 c.2) (hx : ∀ σ, PassesAt CX X σ (E σ)) (hf : PE X fe tf) (ha : PA X (e :: es) t)
    (ht : eval (.Call fe (e :: es) [] pos) X.env = (do callWith pos (← eval fe X.env) [] (backTo pos (starEach (e :: es) X.env)) (backToKw pos (keywordEach [] X.env))) := by rfl)
    (he : starEach (e :: es) X.env = (false, eval e X.env) :: starEach es X.env := by rfl) (hpl : (backTo pos (starEach es X.env)).any (·.1) = false := by rfl) : PE X (.Call fe (e :: es) [] pos) (tCallF cs E tf t) := by
  refine ⟨fun pins s σ H Q I h => ?_⟩
  refine Call_ (thn (hf.run pins s σ H _ I h) fun u s1 ⟨y, H1, I1, ry, f, sp, hm, ey, q⟩ => ?_) ht
  subst ey
  obtain rfl : u = Value.ref f := ry
  obtain ⟨k, fd, ps, F, hr, hk, hb⟩ := hall _ hm
  refine PySem.W.callWith_K (h₀ := X.base) I1.ok.mod.kin hk (thn (ha.run pos pins s1 σ H1 _ I1 q) fun us s2 ⟨vs, H2, I2, r, q2⟩ => ⟨I2.kIn, ?_⟩) he hpl
  exact run_fnS F hr hb (hx σ) I2 r q2
/-- C(e, ..), the arguments never come -/
theorem pe_callN {X : Cx} {f : Addr} {x : Str} {p pos : Pos} {e : Expr} {es : List Expr} {t : TA} (hg : Gl X x) (hm : X.mg x = some (.ref f)) (hk : PySem.W.keepIn X.K (.ref f) = true) (ha : PA X (e :: es) t) (hdb : (x == ("__debug__" : Str)) = false := by decide)
    (he : starEach (e :: es) X.env = (false, eval e X.env) :: starEach es X.env := by rfl) (hpl : (backTo pos (starEach es X.env)).any (·.1) = false := by rfl) :
    PE X (.Call (.Name x p) (e :: es) [] pos) (fun σ H _ => t σ H fun _ _ => False) := by
  refine ⟨fun pins s σ H Q I h => ?_⟩
  refine wpAny_Call_Name_kw (ld_glob I hg hm ?_ hdb)
  exact PySem.W.callWith_K (h₀ := X.base) I.ok.mod.kin hk (thn (ha.run pos pins s σ H _ I h) fun us s1 ⟨vs, H1, I1, r, q⟩ => q.elim) he hpl
end Pc
namespace Pc
open PySem PySem.Spec PyProof.Rows L2 RZ
/-! ### integers that are not people -/
def outP (n u : Int) : Bool := !(decide (0 ≤ u) && decide (u < n))
theorem outP_yes {n u : Int} : outP n u = true ↔ ¬ (0 ≤ u ∧ u < n) := by
  unfold outP
  by_cases a : 0 ≤ u <;> by_cases b : u < n <;> simp [a, b] <;> omega
theorem outP_no {n u : Int} : outP n u = false ↔ 0 ≤ u ∧ u < n := by
  unfold outP
  by_cases a : 0 ≤ u <;> by_cases b : u < n <;> simp [a, b] <;> omega
def badP (n : Int) (p : Int × Int) : Option Int := if outP n p.1 = true then some p.1 else if outP n p.2 = true then some p.2 else none
def badW (n : Int) : List (Int × Int) → Option Int
  | [] => none
  | p :: r => match badP n p with
    | some u => some u
    | none => badW n r
/-- nothing is raised, or NoPerson with the first such integer -/
def Goes (C : Addr) (o : Option Int) (H : Hp) (Q : VK) (E : XK) : Prop := match o with
  | none => Q .non H
  | some u => Flies C "person" (.int u) H E
def ItemsZ (K : PySem.W.Frag) (H : Hp) (us : List V) (qs : List (Int × Int)) : Prop := us.length = qs.length ∧ ∀ (i : Nat) (v : V), us[i]? = some v → ∃ (c : Addr) (p : Int × Int), v = .ref c ∧ qs[i]? = some p ∧ Sq K H c [.int p.1, .int p.2]
theorem ItemsZ.same {K : PySem.W.Frag} {H H' : Hp} {us : List V} {qs : List (Int × Int)} (h : ItemsZ K H us qs) (s : Same H H') : ItemsZ K H' us qs :=
  ⟨h.1, fun i v hv => by obtain ⟨c, p, e, hp, hq⟩ := h.2 i v hv; exact ⟨c, p, e, hp, hq.same s⟩⟩
section
variable {P : Program} {w : World} {K : PySem.W.Frag} {mg : Str → Option Value} {base : Heap}
def spPersonE (C : Addr) : Sp := fun vs H Q E => ∃ n u : Int, vs = [.int n, .int u] ∧ Goes C (if outP n u = true then some u else none) H Q E
theorem oke_p_check_person (T : Env K mg) : FnOk P w K mg base (L2.CX P w) 3 T.f_p_check_person T.d_p_check_person ["size", "person"] (spPersonE T.C_NoPerson) := by
  refine T.F_p_check_person.okX sc_p_check_person (fun vs H Q E h => ?_) (fun cdv A outer s H vs Q E hr h => ?_)
  · obtain ⟨n, u, rfl, _⟩ := h
    rfl
  · obtain ⟨n, u, rfl, hF⟩ := h
    refine ⟨_, pss_one (ps_if (pt_not (pt_chain op_le op_lt pe_int (pv 1) (pv 0))) (pss_one (ps_raise rfl (takes_of rfl rfl rfl rfl) (pmk_e T.own_NoPerson bsL.fb T.iC_NoPerson T.tI_NoPerson (ok_i_NoPerson T) hr T.b_i_NoPerson pass0 (by rfl) T.gC_NoPerson (pa_cons (pv 1) pa_nil)))) pss_nil), ?_⟩
    refine ⟨_, rfl, 0, u, rfl, rfl, _, rfl, ?_⟩
    by_cases c : (0 : Int) ≤ u
    · rw [decide_eq_true c]
      refine iteT ⟨_, rfl, u, n, rfl, rfl, _, rfl, ?_⟩
      by_cases d : u < n
      · rw [if_neg (by rw [outP_no.mpr ⟨c, d⟩]; exact Bool.false_ne_true)] at hF
        rw [decide_eq_true d]
        exact iteX rfl hF
      · rw [if_pos (outP_yes.mpr fun z => d z.2)] at hF
        rw [decide_eq_false d]
        exact iteY rfl ⟨_, rfl, raised1 hF⟩
    · rw [if_pos (outP_yes.mpr fun z => c z.1)] at hF
      rw [decide_eq_false c]
      exact iteF ⟨_, rfl, iteY rfl ⟨_, rfl, raised1 hF⟩⟩
def spCallE (K : PySem.W.Frag) (C : Addr) : Sp := fun vs H Q E => ∃ (n : Int) (c : Addr) (p : Int × Int), vs = [.int n, .ref c] ∧ Sq K H c [.int p.1, .int p.2] ∧ Goes C (badP n p) H Q E
theorem oke_p_check_call (T : Env K mg) : FnOk P w K mg base (L2.CX P w) 4 T.f_p_check_call T.d_p_check_call ["size", "call"] (spCallE K T.C_NoPerson) := by
  have G1 : FnOk P w K mg base (L2.CX P w) 3 T.f_p_check_person T.d_p_check_person ["size", "person"] (spPersonE T.C_NoPerson) := oke_p_check_person T
  refine T.F_p_check_call.okX sc_p_check_call (fun vs H Q E h => ?_) (fun cdv A outer s H vs Q E hr h => ?_)
  · obtain ⟨n, c, p, rfl, _⟩ := h
    rfl
  · obtain ⟨n, c, p, rfl, hS, hF⟩ := h
    refine ⟨_, pss_one (ps_for (passes_of rfl) rfl (pi_seq (pv 1)) (pg_name (i := 2) sc_p_check_call.nd rfl (.inl rfl)) (pss_one (ps_expr (pe_callS G1 hr (by rfl) T.g_p_check_person T.F_p_check_person.kp T.b_p_check_person (fun σ => passAt (takes_of rfl rfl rfl rfl) σ) (pa_cons (pv 0) (pa_cons (pv 2) pa_nil)))))), ?_⟩
    refine ⟨.ref c, rfl, c, rfl, for_seq hS (fun i σ H' => H' = H ∧ (0 < i → outP n p.1 = false) ∧ (1 < i → outP n p.2 = false) ∧ ∃ y : Option V, σ = [some (.int n), some (.ref c), y]) ⟨rfl, fun z => absurd z (by omega), fun z => absurd z (by omega), none, rfl⟩ (fun i σ H' h => by rw [h.1]; exact Same.refl _) (fun i x σ H' hx h => ?_) (fun σ H' h => ?_)⟩
    · obtain ⟨rfl, b1, b2, y, rfl⟩ := h
      have hi : i < 2 := get_lt hx
      rcases (show i = 0 ∨ i = 1 by omega) with z | z
      · subst z
        cases Option.some.inj hx
        refine ⟨_, rfl, _, rfl, n, p.1, rfl, ?_⟩
        by_cases c1 : outP n p.1 = true
        · rw [if_pos c1]
          have : badP n p = some p.1 := if_pos c1
          rw [this] at hF
          exact hF
        · rw [if_neg c1]
          exact ⟨rfl, fun _ => Bool.eq_false_iff.mpr c1, fun z => absurd z (by omega), _, rfl⟩
      · subst z
        cases Option.some.inj hx
        refine ⟨_, rfl, _, rfl, n, p.2, rfl, ?_⟩
        have c0 := b1 (by omega)
        by_cases c1 : outP n p.2 = true
        · rw [if_pos c1]
          have : badP n p = some p.2 := by unfold badP; rw [if_neg (by rw [c0]; exact Bool.false_ne_true), if_pos c1]
          rw [this] at hF
          exact hF
        · rw [if_neg c1]
          exact ⟨rfl, fun _ => c0, fun _ => Bool.eq_false_iff.mpr c1, _, rfl⟩
    · obtain ⟨rfl, b1, b2, _⟩ := h
      have : badP n p = none := by unfold badP; rw [if_neg (by rw [b1 (by show 0 < 2; decide)]; exact Bool.false_ne_true), if_neg (by rw [b2 (by show 1 < 2; decide)]; exact Bool.false_ne_true)]
      rw [this] at hF
      exact hF
def spWordE (K : PySem.W.Frag) (C : Addr) : Sp := fun vs H Q E => ∃ (n : Int) (wd : Addr) (us : List V) (qs : List (Int × Int)), vs = [.int n, .ref wd] ∧ Sq K H wd us ∧ ItemsZ K H us qs ∧ Goes C (badW n qs) H Q E
theorem oke_p_check_word (T : Env K mg) : FnOk P w K mg base (L2.CX P w) 5 T.f_p_check_word T.d_p_check_word ["size", "word"] (spWordE K T.C_NoPerson) := by
  have G1 : FnOk P w K mg base (L2.CX P w) 4 T.f_p_check_call T.d_p_check_call ["size", "call"] (spCallE K T.C_NoPerson) := oke_p_check_call T
  refine T.F_p_check_word.okX sc_p_check_word (fun vs H Q E h => ?_) (fun cdv A outer s H vs Q E hr h => ?_)
  · obtain ⟨n, wd, us, qs, rfl, _⟩ := h
    rfl
  · obtain ⟨n, wd, us, qs, rfl, hS, hI, hF⟩ := h
    refine ⟨_, pss_one (ps_for (passes_of rfl) rfl (pi_seq (pv 1)) (pg_name (i := 2) sc_p_check_word.nd rfl (.inl rfl)) (pss_one (ps_expr (pe_callS G1 hr (by rfl) T.g_p_check_call T.F_p_check_call.kp T.b_p_check_call (fun σ => passAt (takes_of rfl rfl rfl rfl) σ) (pa_cons (pv 0) (pa_cons (pv 2) pa_nil)))))), ?_⟩
    refine ⟨.ref wd, rfl, wd, rfl, for_seq hS (fun i σ H' => H' = H ∧ badW n qs = badW n (qs.drop i) ∧ ∃ y : Option V, σ = [some (.int n), some (.ref wd), y]) ⟨rfl, rfl, none, rfl⟩ (fun i σ H' h => by rw [h.1]; exact Same.refl _) (fun i x σ H' hx h => ?_) (fun σ H' h => ?_)⟩
    · obtain ⟨rfl, hb, y, rfl⟩ := h
      obtain ⟨c, p, rfl, hp, hq⟩ := hI.2 i x hx
      have hd : qs.drop i = p :: qs.drop (i + 1) := by
        obtain ⟨hl, e⟩ := List.getElem?_eq_some_iff.mp hp
        rw [List.drop_eq_getElem_cons hl, e]
      refine ⟨_, rfl, _, rfl, n, c, p, rfl, hq, ?_⟩
      cases e : badP n p with
      | some u =>
        have : badW n qs = some u := by
          rw [hb, hd]
          show (match badP n p with | some u => some u | none => badW n (qs.drop (i + 1))) = some u
          rw [e]
        rw [this] at hF
        exact hF
      | none =>
        refine ⟨rfl, ?_, _, rfl⟩
        rw [hb, hd]
        show (match badP n p with | some u => some u | none => badW n (qs.drop (i + 1))) = _
        rw [e]
    · obtain ⟨rfl, hb, _⟩ := h
      rw [hI.1, List.drop_length] at hb
      rw [hb] at hF
      exact hF
end
end Pc
namespace Pc
open PySem PySem.Spec PyProof.Rows L2 RZ
section
variable {P : Program} {w : World} {K : PySem.W.Frag} {mg : Str → Option Value} {base : Heap}
/-! ### words with somebody who is not there -/
def spWithWordX (K : PySem.W.Frag) (C : Addr) : Sp := fun vs H _ E => ∃ (a wd : Addr) (fs : List Nat) (us : List V) (qs : List (Int × Int)) (n : Nat) (x : Int), vs = [.ref a, .ref wd] ∧ Sq K H a (nv fs) ∧ fs.length = 2 * n ∧ Sq K H wd us ∧ ItemsZ K H us qs ∧ badW n qs = some x ∧ Flies C "person" (.int x) H E
theorem okx_p_with_word (T : Env K mg) : FnOk P w K mg base (L2.CX P w) 6 T.f_p_with_word T.d_p_with_word ["sheet", "word"] (spWithWordX K T.C_NoPerson) := by
  have G0 : FnOk P w K mg base CX0 1 T.f_p_people_of T.d_p_people_of ["sheet"] (spPeople K) := ok_p_people_of T
  have G1 : FnOk P w K mg base (L2.CX P w) 5 T.f_p_check_word T.d_p_check_word ["size", "word"] (spWordE K T.C_NoPerson) := oke_p_check_word T
  refine T.F_p_with_word.okX sc_p_with_word (fun vs H Q E h => ?_) (fun cdv A outer s H vs Q E hr h => ?_)
  · obtain ⟨a, wd, fs, us, qs, n, x, rfl, _⟩ := h
    rfl
  · obtain ⟨a, wd, fs, us, qs, n, x, rfl, ha, hl, hw, hI, hb, hF⟩ := h
    refine ⟨_, pss_cons (ps_set (i := 2) sc_p_with_word.nd rfl (.inl rfl) (pe_call G0 (hr.mono (by decide)) (by rfl) T.g_p_people_of T.F_p_people_of.kp T.b_p_people_of .nil pass0 (pa_cons (pv 0) pa_nil))) <|
      pss_cons (ps_expr (pe_callS G1 hr (by rfl) T.g_p_check_word T.F_p_check_word.kp T.b_p_check_word (fun σ => passAt (takes_of rfl rfl rfl rfl) σ) (pa_cons (pv 2) (pa_cons (pv 1) pa_nil)))) pss_never, ?_⟩
    exact ⟨.ref a, rfl, a, fs, n, rfl, ha, hl, _, rfl, .ref wd, rfl, n, wd, us, qs, rfl, hw, hI, by rw [hb]; exact hF⟩
def spSheetOfX (K : PySem.W.Frag) (C : Addr) : Sp := fun vs H _ E => ∃ (n : Nat) (wd : Addr) (us : List V) (qs : List (Int × Int)) (x : Int), vs = [.int n, .ref wd] ∧ 0 < n ∧ n ≤ 1000 ∧ Sq K H wd us ∧ ItemsZ K H us qs ∧ badW n qs = some x ∧ Flies C "person" (.int x) H E
theorem okx_p_sheet_of (T : Env K mg) : FnOk P w K mg base (L2.CX P w) 7 T.f_p_sheet_of T.d_p_sheet_of ["size", "word"] (spSheetOfX K T.C_NoPerson) := by
  have G0 : FnOk P w K mg base CX0 1 T.f_p_empty_sheet T.d_p_empty_sheet ["size"] spEmpty := ok_p_empty_sheet T
  have G1 : FnOk P w K mg base (L2.CX P w) 6 T.f_p_with_word T.d_p_with_word ["sheet", "word"] (spWithWordX K T.C_NoPerson) := okx_p_with_word T
  refine T.F_p_sheet_of.okX sc_p_sheet_of (fun vs H Q E h => ?_) (fun cdv A outer s H vs Q E hr h => ?_)
  · obtain ⟨n, wd, us, qs, x, rfl, _⟩ := h
    rfl
  · obtain ⟨n, wd, us, qs, x, rfl, h0, hn, hw, hI, hb, hF⟩ := h
    refine ⟨_, pss_one (ps_ret (pe_callS G1 hr (by rfl) T.g_p_with_word T.F_p_with_word.kp T.b_p_with_word (fun σ => passAt (takes_of rfl rfl rfl rfl) σ) (pa_cons (pe_call G0 (hr.mono (by decide)) (by rfl) T.g_p_empty_sheet T.F_p_empty_sheet.kp T.b_p_empty_sheet .nil pass0 (pa_cons (pv 0) pa_nil)) (pa_cons (pv 1) pa_nil)))), ?_⟩
    refine ⟨_, rfl, n, rfl, hn, fun H1 t s1 nt et => ?_⟩
    exact ⟨.ref wd, rfl, t, wd, emp n, us, qs, n, x, rfl, .inr (.inl (.inl et)), (emp_pair h0).len, hw.same s1, hI.same s1, hb, hF.same s1⟩
def spWdX (K : PySem.W.Frag) (C : Addr) : Sp := fun vs H _ E => ∃ (p wd : Addr) (ps : List Nat) (us : List V) (qs : List (Int × Int)) (n : Nat) (x : Int), vs = [.ref p, .ref wd] ∧ Sq K H p (nv ps) ∧ ps.length = n ∧ Sq K H wd us ∧ ItemsZ K H us qs ∧ badW n qs = some x ∧ Flies C "person" (.int x) H E
theorem okx_p_called_all (T : Env K mg) : FnOk P w K mg base (L2.CX P w) 6 T.f_p_called_all T.d_p_called_all ["pairing", "word"] (spWdX K T.C_NoPerson) := by
  have G1 : FnOk P w K mg base (L2.CX P w) 5 T.f_p_check_word T.d_p_check_word ["size", "word"] (spWordE K T.C_NoPerson) := oke_p_check_word T
  refine T.F_p_called_all.okX sc_p_called_all (fun vs H Q E h => ?_) (fun cdv A outer s H vs Q E hr h => ?_)
  · obtain ⟨p, wd, ps, us, qs, n, x, rfl, _⟩ := h
    rfl
  · obtain ⟨p, wd, ps, us, qs, n, x, rfl, hp, hl, hw, hI, hb, hF⟩ := h
    refine ⟨_, pss_cons (ps_expr (pe_callS G1 hr (by rfl) T.g_p_check_word T.F_p_check_word.kp T.b_p_check_word (fun σ => passAt (takes_of rfl rfl rfl rfl) σ) (pa_cons (pe_callB call_len_seq (by rfl) T.n_len PySem.boot_len (pa_cons (pv 0) pa_nil)) (pa_cons (pv 1) pa_nil)))) pss_never, ?_⟩
    exact ⟨.ref p, rfl, p, _, rfl, hp, .ref wd, rfl, n, wd, us, qs, (by rw [nv_length, hl]), hw, hI, by rw [hb]; exact hF⟩
theorem okx_p_pairings_along (T : Env K mg) : FnOk P w K mg base (L2.CX P w) 6 T.f_p_pairings_along T.d_p_pairings_along ["pairing", "word"] (spWdX K T.C_NoPerson) := by
  have G1 : FnOk P w K mg base (L2.CX P w) 5 T.f_p_check_word T.d_p_check_word ["size", "word"] (spWordE K T.C_NoPerson) := oke_p_check_word T
  refine T.F_p_pairings_along.okX sc_p_pairings_along (fun vs H Q E h => ?_) (fun cdv A outer s H vs Q E hr h => ?_)
  · obtain ⟨p, wd, ps, us, qs, n, x, rfl, _⟩ := h
    rfl
  · obtain ⟨p, wd, ps, us, qs, n, x, rfl, hp, hl, hw, hI, hb, hF⟩ := h
    refine ⟨_, pss_cons (ps_expr (pe_callS G1 hr (by rfl) T.g_p_check_word T.F_p_check_word.kp T.b_p_check_word (fun σ => passAt (takes_of rfl rfl rfl rfl) σ) (pa_cons (pe_callB call_len_seq (by rfl) T.n_len PySem.boot_len (pa_cons (pv 0) pa_nil)) (pa_cons (pv 1) pa_nil)))) pss_never, ?_⟩
    exact ⟨.ref p, rfl, p, _, rfl, hp, .ref wd, rfl, n, wd, us, qs, (by rw [nv_length, hl]), hw, hI, by rw [hb]; exact hF⟩
theorem okx_p_idle_calls (T : Env K mg) : FnOk P w K mg base (L2.CX P w) 6 T.f_p_idle_calls T.d_p_idle_calls ["pairing", "word"] (spWdX K T.C_NoPerson) := by
  have G1 : FnOk P w K mg base (L2.CX P w) 5 T.f_p_check_word T.d_p_check_word ["size", "word"] (spWordE K T.C_NoPerson) := oke_p_check_word T
  refine T.F_p_idle_calls.okX sc_p_idle_calls (fun vs H Q E h => ?_) (fun cdv A outer s H vs Q E hr h => ?_)
  · obtain ⟨p, wd, ps, us, qs, n, x, rfl, _⟩ := h
    rfl
  · obtain ⟨p, wd, ps, us, qs, n, x, rfl, hp, hl, hw, hI, hb, hF⟩ := h
    refine ⟨_, pss_cons (ps_expr (pe_callS G1 hr (by rfl) T.g_p_check_word T.F_p_check_word.kp T.b_p_check_word (fun σ => passAt (takes_of rfl rfl rfl rfl) σ) (pa_cons (pe_callB call_len_seq (by rfl) T.n_len PySem.boot_len (pa_cons (pv 0) pa_nil)) (pa_cons (pv 1) pa_nil)))) pss_never, ?_⟩
    exact ⟨.ref p, rfl, p, _, rfl, hp, .ref wd, rfl, n, wd, us, qs, (by rw [nv_length, hl]), hw, hI, by rw [hb]; exact hF⟩
theorem itemsZ_one {H : Hp} {c : Addr} {y z : Int} (h : Sq K H c [.int y, .int z]) : ItemsZ K H [.ref c] [(y, z)] := ⟨rfl, fun i v hv => by
  have hi : i < 1 := get_lt hv
  obtain rfl : i = 0 := by omega
  exact ⟨c, _, (Option.some.inj hv).symm, rfl, h⟩⟩
theorem badW_hit {n : Int} {p : Int × Int} {x : Int} {rs : List (Int × Int)} (h : badP n p = some x) : badW n (p :: rs) = some x := by
  show (match badP n p with | some u => some u | none => badW n rs) = some x
  rw [h]
def spCdX (K : PySem.W.Frag) (C : Addr) : Sp := fun vs H _ E => ∃ (p c : Addr) (ps : List Nat) (n : Nat) (y z x : Int), vs = [.ref p, .ref c] ∧ Sq K H p (nv ps) ∧ ps.length = n ∧ Sq K H c [.int y, .int z] ∧ badP n (y, z) = some x ∧ Flies C "person" (.int x) H E
theorem okx_p_called (T : Env K mg) : FnOk P w K mg base (L2.CX P w) 7 T.f_p_called T.d_p_called ["pairing", "call"] (spCdX K T.C_NoPerson) := by
  have G1 : FnOk P w K mg base (L2.CX P w) 6 T.f_p_called_all T.d_p_called_all ["pairing", "word"] (spWdX K T.C_NoPerson) := okx_p_called_all T
  refine T.F_p_called.okX sc_p_called (fun vs H Q E h => ?_) (fun cdv A outer s H vs Q E hr h => ?_)
  · obtain ⟨p, c, ps, n, y, z, x, rfl, _⟩ := h
    rfl
  · obtain ⟨p, c, ps, n, y, z, x, rfl, hp, hl, hc, hb, hF⟩ := h
    refine ⟨_, pss_one (ps_ret (pe_callS G1 hr (by rfl) T.g_p_called_all T.F_p_called_all.kp T.b_p_called_all (fun σ => passAt (takes_of rfl rfl rfl rfl) σ) (pa_cons (pv 0) (pa_cons (pe_lst (pa_cons (pv 1) pa_nil)) pa_nil)))), ?_⟩
    refine ⟨.ref p, rfl, .ref c, rfl, (by show 1 ≤ sizeLine; decide), fun l nl => ?_⟩
    have sm : Same H (upd H l (.lst [.ref c])) := same_new nl
    exact ⟨p, l, ps, _, [(y, z)], n, x, rfl, hp.same sm, hl, .inl (.inl (.inl upd_same)), itemsZ_one (hc.same sm), badW_hit hb, hF.same sm⟩
def spWcX (K : PySem.W.Frag) (C : Addr) : Sp := fun vs H _ E => ∃ (p c : Addr) (ps : List Nat) (n : Nat) (y z x : Int), vs = [.ref p, .ref c] ∧ Sq K H p (nv ps) ∧ ps.length = 2 * n ∧ Sq K H c [.int y, .int z] ∧ badP n (y, z) = some x ∧ Flies C "person" (.int x) H E
theorem okx_p_with_call (T : Env K mg) : FnOk P w K mg base (L2.CX P w) 7 T.f_p_with_call T.d_p_with_call ["sheet", "call"] (spWcX K T.C_NoPerson) := by
  have G1 : FnOk P w K mg base (L2.CX P w) 6 T.f_p_with_word T.d_p_with_word ["sheet", "word"] (spWithWordX K T.C_NoPerson) := okx_p_with_word T
  refine T.F_p_with_call.okX sc_p_with_call (fun vs H Q E h => ?_) (fun cdv A outer s H vs Q E hr h => ?_)
  · obtain ⟨p, c, ps, n, y, z, x, rfl, _⟩ := h
    rfl
  · obtain ⟨p, c, ps, n, y, z, x, rfl, hp, hl, hc, hb, hF⟩ := h
    refine ⟨_, pss_one (ps_ret (pe_callS G1 hr (by rfl) T.g_p_with_word T.F_p_with_word.kp T.b_p_with_word (fun σ => passAt (takes_of rfl rfl rfl rfl) σ) (pa_cons (pv 0) (pa_cons (pe_lst (pa_cons (pv 1) pa_nil)) pa_nil)))), ?_⟩
    refine ⟨.ref p, rfl, .ref c, rfl, (by show 1 ≤ sizeLine; decide), fun l nl => ?_⟩
    have sm : Same H (upd H l (.lst [.ref c])) := same_new nl
    exact ⟨p, l, ps, _, [(y, z)], n, x, rfl, hp.same sm, hl, .inl (.inl (.inl upd_same)), itemsZ_one (hc.same sm), badW_hit hb, hF.same sm⟩
end
end Pc
namespace Pc
open PySem PySem.Spec PyProof.Rows L2 RZ
theorem pass0At {X : Cx} {σ : L2.St} {E : XK} : PassesAt CX0 X σ E := fun _ _ _ _ _ _ h => h.elim
section
variable {P : Program} {w : World} {K : PySem.W.Frag} {mg : Str → Option Value} {base : Heap}
def spAskedX (K : PySem.W.Frag) (C : Addr) : Sp := fun vs H _ E => ∃ (i : Int) (p wd : Addr) (ps : List Nat) (us : List V) (qs : List (Int × Int)) (n : Nat) (x : Int), vs = [.int i, .ref p, .ref wd] ∧ Sq K H p (nv ps) ∧ ps.length = n ∧ 2 ≤ n ∧ n ≤ 1000 ∧ SqL K H wd us ∧ ItemsZ K H us qs ∧ badW n qs = some x ∧ 0 ≤ i ∧ i < 6 ∧ (i = 0 ∨ i = 4 → ∃ q r, qs = q :: r ∧ badP n q = some x) ∧ Flies C "person" (.int x) H E
theorem okx_asked (T : Env K mg) : FnOk P w K mg base (L2.CX P w) 8 T.f_asked T.d_asked ["_law_sort", "_law_crowd", "_law_cries"] (spAskedX K T.C_NoPerson) := by
  have GC : FnOk P w K mg base (L2.CX P w) 7 T.f_p_called T.d_p_called ["pairing", "call"] (spCdX K T.C_NoPerson) := okx_p_called T
  have GW : FnOk P w K mg base (L2.CX P w) 7 T.f_p_with_call T.d_p_with_call ["sheet", "call"] (spWcX K T.C_NoPerson) := okx_p_with_call T
  have GS : FnOk P w K mg base (L2.CX P w) 7 T.f_p_sheet_of T.d_p_sheet_of ["size", "word"] (spSheetOfX K T.C_NoPerson) := okx_p_sheet_of T
  have GL : FnOk P w K mg base CX0 1 T.f_sheet_of T.d_sheet_of ["_law_count", "_law_cries"] (spSheetOf K) := ok_sheet_of T
  refine T.F_asked.okX sc_asked (fun vs H Q E h => ?_) (fun cdv A outer s H vs Q E hr h => ?_)
  · obtain ⟨i, p, wd, ps, us, qs, n, x, rfl, _⟩ := h
    rfl
  · obtain ⟨i, p, wd, ps, us, qs, n, x, rfl, hp, hl, hn2, hn, hw, hI, hb, h0, h6, h04, hF⟩ := h
    refine ⟨_, pss_cons (ps_if (pt_cmpR op_eq (pv 0) pe_int (nomark _)) (pss_one (ps_ret (pe_callS GC hr (by rfl) T.g_p_called T.F_p_called.kp T.b_p_called (fun σ => passAt (takes_of rfl rfl rfl rfl) σ) (pa_cons (pv 1) (pa_cons (pe_ix ix_list (pv 2) pe_int (fun _ _ => rfl)) pa_nil))))) pss_nil) <|
      pss_cons (ps_if (pt_cmpR op_lt (pv 0) pe_int (nomark _)) (pss_one (ps_ret (pe_callF (cs := [(T.f_p_called_all, spWdX K T.C_NoPerson), (T.f_p_pairings_along, spWdX K T.C_NoPerson), (T.f_p_idle_calls, spWdX K T.C_NoPerson)]) (fall_cons (sp := spWdX K T.C_NoPerson) ⟨7, _, _, (okx_p_called_all T).mono (by decide), hr, T.F_p_called_all.kp, T.b_p_called_all⟩ (fall_cons (sp := spWdX K T.C_NoPerson) ⟨7, _, _, (okx_p_pairings_along T).mono (by decide), hr, T.F_p_pairings_along.kp, T.b_p_pairings_along⟩ (fall_cons (sp := spWdX K T.C_NoPerson) ⟨7, _, _, (okx_p_idle_calls T).mono (by decide), hr, T.F_p_idle_calls.kp, T.b_p_idle_calls⟩ fall_nil))) (fun σ => passAt (takes_of rfl rfl rfl rfl) σ) (pe_ix ix_list (pe_lst (pa_cons (pe_glob (v := .ref T.f_p_called_all) (by rfl) T.g_p_called_all rfl) (pa_cons (pe_glob (v := .ref T.f_p_pairings_along) (by rfl) T.g_p_pairings_along rfl) (pa_cons (pe_glob (v := .ref T.f_p_idle_calls) (by rfl) T.g_p_idle_calls rfl) pa_nil)))) (pe_op op_sub (pv 0) pe_int) (fun _ _ => rfl)) (pa_cons (pv 1) (pa_cons (pv 2) pa_nil))))) pss_nil) <|
      pss_one (ps_ret (pe_ifExp (pt_cmpR op_eq (pv 0) pe_int (nomark _)) (pe_callS GW hr (by rfl) T.g_p_with_call T.F_p_with_call.kp T.b_p_with_call (fun σ => passAt (takes_of rfl rfl rfl rfl) σ) (pa_cons (pe_call GL (hr.mono (by decide)) (by rfl) T.g_sheet_of T.F_sheet_of.kp T.b_sheet_of .nil pass0 (pa_cons (pe_callB call_len_seq (by rfl) T.n_len PySem.boot_len (pa_cons (pv 1) pa_nil)) (pa_cons (pe_lst pa_nil) pa_nil))) (pa_cons (pe_ix ix_list (pv 2) pe_int (fun _ _ => rfl)) pa_nil))) (pe_callS GS hr (by rfl) T.g_p_sheet_of T.F_p_sheet_of.kp T.b_p_sheet_of (fun σ => passAt (takes_of rfl rfl rfl rfl) σ) (pa_cons (pe_callB call_len_seq (by rfl) T.n_len PySem.boot_len (pa_cons (pv 1) pa_nil)) (pa_cons (pv 2) pa_nil))))), ?_⟩
    have first : i = 0 ∨ i = 4 → ∃ (c : Addr) (y z : Int), us[0]? = some (.ref c) ∧ Sq K H c [.int y, .int z] ∧ badP n (y, z) = some x := fun z => by
      obtain ⟨q, r, rfl, hq⟩ := h04 z
      obtain ⟨v, hv⟩ := get_some (l := us) (i := 0) (by rw [hI.1]; exact Nat.succ_pos _)
      obtain ⟨c, p', rfl, e, hc⟩ := hI.2 0 v hv
      cases Option.some.inj e
      exact ⟨c, _, _, hv, hc, hq⟩
    refine ⟨_, rfl, rfl, _, rfl, ?_⟩
    by_cases c0 : i = 0
    · subst c0
      obtain ⟨c, y, z, hu, hc, hq⟩ := first (.inl rfl)
      exact iteY rfl ⟨_, rfl, _, rfl, wd, us, _, _, rfl, rfl, hw, atI_nat hu, p, c, ps, n, y, z, x, rfl, hp, hl, hc, hq, hF⟩
    refine iteX (decide_eq_false (fun z => c0 (V.int.inj z))) ⟨_, rfl, _, _, rfl, rfl, _, rfl, ?_⟩
    by_cases c1 : i < 4
    · refine iteY (decide_eq_true c1) ?_
      rcases (show i = 1 ∨ i = 2 ∨ i = 3 by omega) with rfl | rfl | rfl
      · exact ⟨(by show 3 ≤ sizeLine; decide), fun l nl => ⟨_, rfl, _, _, rfl, rfl, l, _, _, V.ref T.f_p_called_all, rfl, rfl, .inl (.inl upd_same), rfl, T.f_p_called_all, spWdX K T.C_NoPerson, (.head _), rfl, _, rfl, _, rfl, p, wd, ps, us, qs, n, x, rfl, hp.same (same_new nl), hl, .inl ((same_new nl).seq hw), hI.same (same_new nl), hb, hF.same (same_new nl)⟩⟩
      · exact ⟨(by show 3 ≤ sizeLine; decide), fun l nl => ⟨_, rfl, _, _, rfl, rfl, l, _, _, V.ref T.f_p_pairings_along, rfl, rfl, .inl (.inl upd_same), rfl, T.f_p_pairings_along, spWdX K T.C_NoPerson, (.tail _ (.head _)), rfl, _, rfl, _, rfl, p, wd, ps, us, qs, n, x, rfl, hp.same (same_new nl), hl, .inl ((same_new nl).seq hw), hI.same (same_new nl), hb, hF.same (same_new nl)⟩⟩
      · exact ⟨(by show 3 ≤ sizeLine; decide), fun l nl => ⟨_, rfl, _, _, rfl, rfl, l, _, _, V.ref T.f_p_idle_calls, rfl, rfl, .inl (.inl upd_same), rfl, T.f_p_idle_calls, spWdX K T.C_NoPerson, (.tail _ (.tail _ (.head _))), rfl, _, rfl, _, rfl, p, wd, ps, us, qs, n, x, rfl, hp.same (same_new nl), hl, .inl ((same_new nl).seq hw), hI.same (same_new nl), hb, hF.same (same_new nl)⟩⟩
    refine iteX (decide_eq_false c1) ⟨_, rfl, rfl, _, rfl, ?_⟩
    by_cases c4 : i = 4
    · subst c4
      obtain ⟨c, y, z, hu, hc, hq⟩ := first (.inr rfl)
      refine iteY rfl ⟨_, rfl, p, _, rfl, hp, (by show 0 ≤ sizeLine; decide), fun l nl => ?_⟩
      have s1 : Same H (upd H l (.lst [])) := same_new nl
      refine ⟨n, l, [], [], [], (by rw [nv_length, hl]; rfl), .inl (.inl upd_same), rfl, .nil, (fun _ z => absurd z List.not_mem_nil), hn2, hn, fun H2 t s2 nt et => ?_⟩
      exact ⟨_, rfl, wd, us, _, _, rfl, rfl, s2.seq (s1.seq hw), atI_nat hu, t, c, _, n, y, z, x, rfl, .inr (.inl (.inl et)), (emp_pair (by omega)).len, (hc.same s1).same s2, hq, (hF.same s1).same s2⟩
    refine iteX (decide_eq_false (fun z => c4 (V.int.inj z))) ?_
    exact ⟨_, rfl, p, _, rfl, hp, _, rfl, n, wd, us, qs, x, (by rw [nv_length, hl]), by omega, hn, .inl hw, hI, hb, hF⟩
def spAskedV (K : PySem.W.Frag) : Sp := fun vs H Q _ => ∃ (i : Int) (p wd : Addr) (ps : List Nat) (us : List V) (qs : List (Nat × Nat)) (n : Nat), vs = [.int i, .ref p, .ref wd] ∧ Sq K H p (nv ps) ∧ IsPair n ps ∧ 2 ≤ n ∧ n ≤ 1000 ∧ SqL K H wd us ∧ Items K H us qs ∧ Calls n qs ∧ 0 < qs.length ∧ qs.length ≤ 10000 ∧ 0 ≤ i ∧ i < 6 ∧ ∀ v H', Same H H' → Q v H'
theorem ok_asked (T : Env K mg) : FnOk P w K mg base CX0 8 T.f_asked T.d_asked ["_law_sort", "_law_crowd", "_law_cries"] (spAskedV K) := by
  have GC : FnOk P w K mg base CX0 7 T.f_p_called T.d_p_called ["pairing", "call"] (spCalled K) := (ok_p_called T).mono (by decide)
  have GW : FnOk P w K mg base CX0 7 T.f_p_with_call T.d_p_with_call ["sheet", "call"] (spWithCall K) := (ok_p_with_call T).mono (by decide)
  have GS : FnOk P w K mg base CX0 7 T.f_p_sheet_of T.d_p_sheet_of ["size", "word"] (spPSheetOf K) := (ok_p_sheet_of T).mono (by decide)
  have GL : FnOk P w K mg base CX0 1 T.f_sheet_of T.d_sheet_of ["_law_count", "_law_cries"] (spSheetOf K) := ok_sheet_of T
  refine T.F_asked.ok sc_asked (fun vs H Q E h => ?_) (fun cdv A outer s H vs Q E hr h => ?_)
  · obtain ⟨i, p, wd, ps, us, qs, n, rfl, _⟩ := h
    rfl
  · obtain ⟨i, p, wd, ps, us, qs, n, rfl, hp, hP, hn2, hn, hw, hI, hC, hq0, hq1, h0, h6, q⟩ := h
    refine ⟨_, pss_cons (ps_if (pt_cmpR op_eq (pv 0) pe_int (nomark _)) (pss_one (ps_ret (pe_call GC hr (by rfl) T.g_p_called T.F_p_called.kp T.b_p_called .nil pass0 (pa_cons (pv 1) (pa_cons (pe_ix ix_list (pv 2) pe_int (fun _ _ => rfl)) pa_nil))))) pss_nil) <|
      pss_cons (ps_if (pt_cmpR op_lt (pv 0) pe_int (nomark _)) (pss_one (ps_ret (pe_callF (CX := CX0) (cs := [(T.f_p_called_all, spCalledAll K), (T.f_p_pairings_along, spAlong K), (T.f_p_idle_calls, spIdle K)]) (fall_cons (sp := spCalledAll K) ⟨7, _, _, (ok_p_called_all T).mono (by decide), hr, T.F_p_called_all.kp, T.b_p_called_all⟩ (fall_cons (sp := spAlong K) ⟨7, _, _, (ok_p_pairings_along T).mono (by decide), hr, T.F_p_pairings_along.kp, T.b_p_pairings_along⟩ (fall_cons (sp := spIdle K) ⟨7, _, _, (ok_p_idle_calls T).mono (by decide), hr, T.F_p_idle_calls.kp, T.b_p_idle_calls⟩ fall_nil))) (fun σ => pass0At (E := E0)) (pe_ix ix_list (pe_lst (pa_cons (pe_glob (v := .ref T.f_p_called_all) (by rfl) T.g_p_called_all rfl) (pa_cons (pe_glob (v := .ref T.f_p_pairings_along) (by rfl) T.g_p_pairings_along rfl) (pa_cons (pe_glob (v := .ref T.f_p_idle_calls) (by rfl) T.g_p_idle_calls rfl) pa_nil)))) (pe_op op_sub (pv 0) pe_int) (fun _ _ => rfl)) (pa_cons (pv 1) (pa_cons (pv 2) pa_nil))))) pss_nil) <|
      pss_one (ps_ret (pe_ifExp (pt_cmpR op_eq (pv 0) pe_int (nomark _)) (pe_call GW hr (by rfl) T.g_p_with_call T.F_p_with_call.kp T.b_p_with_call .nil pass0 (pa_cons (pe_call GL (hr.mono (by decide)) (by rfl) T.g_sheet_of T.F_sheet_of.kp T.b_sheet_of .nil pass0 (pa_cons (pe_callB call_len_seq (by rfl) T.n_len PySem.boot_len (pa_cons (pv 1) pa_nil)) (pa_cons (pe_lst pa_nil) pa_nil))) (pa_cons (pe_ix ix_list (pv 2) pe_int (fun _ _ => rfl)) pa_nil))) (pe_call GS hr (by rfl) T.g_p_sheet_of T.F_p_sheet_of.kp T.b_p_sheet_of .nil pass0 (pa_cons (pe_callB call_len_seq (by rfl) T.n_len PySem.boot_len (pa_cons (pv 1) pa_nil)) (pa_cons (pv 2) pa_nil))))), ?_⟩
    obtain ⟨v0, hv0⟩ := get_some (l := us) (i := 0) (by rw [hI.1]; exact hq0)
    obtain ⟨c, r, rfl, er, hc⟩ := hI.2 0 v0 hv0
    have hr' := hC r (List.mem_of_getElem? er)
    refine ⟨_, rfl, rfl, _, rfl, ?_⟩
    by_cases c0 : i = 0
    · subst c0
      exact iteY rfl ⟨_, rfl, _, rfl, wd, us, _, _, rfl, rfl, hw, atI_nat hv0, p, c, r.1, r.2, ps, n, rfl, hp, hc, hP, hr'.1, hr'.2, hn, fun H' t s1 _ _ => q _ _ s1⟩
    refine iteX (decide_eq_false (fun z => c0 (V.int.inj z))) ⟨_, rfl, _, _, rfl, rfl, _, rfl, ?_⟩
    by_cases c1 : i < 4
    · refine iteY (decide_eq_true c1) ?_
      rcases (show i = 1 ∨ i = 2 ∨ i = 3 by omega) with rfl | rfl | rfl
      · exact ⟨(by show 3 ≤ sizeLine; decide), fun l nl => ⟨_, rfl, _, _, rfl, rfl, l, _, _, V.ref T.f_p_called_all, rfl, rfl, .inl (.inl upd_same), rfl, T.f_p_called_all, spCalledAll K, (.head _), rfl, _, rfl, _, rfl, p, wd, us, qs, ps, n, rfl, hp.same (same_new nl), .inl ((same_new nl).seq hw), hI.same (same_new nl), hP, hC, hn, fun H' t s1 _ _ => q _ _ ((same_new nl).trans s1)⟩⟩
      · exact ⟨(by show 3 ≤ sizeLine; decide), fun l nl => ⟨_, rfl, _, _, rfl, rfl, l, _, _, V.ref T.f_p_pairings_along, rfl, rfl, .inl (.inl upd_same), rfl, T.f_p_pairings_along, spAlong K, (.tail _ (.head _)), rfl, _, rfl, _, rfl, p, wd, us, qs, ps, n, rfl, hp.same (same_new nl), .inl ((same_new nl).seq hw), hI.same (same_new nl), hP, hC, hn, hq1, fun H' t as s1 _ _ _ => q _ _ ((same_new nl).trans s1)⟩⟩
      · exact ⟨(by show 3 ≤ sizeLine; decide), fun l nl => ⟨_, rfl, _, _, rfl, rfl, l, _, _, V.ref T.f_p_idle_calls, rfl, rfl, .inl (.inl upd_same), rfl, T.f_p_idle_calls, spIdle K, (.tail _ (.tail _ (.head _))), rfl, _, rfl, _, rfl, p, wd, us, qs, ps, n, rfl, hp.same (same_new nl), .inl ((same_new nl).seq hw), hI.same (same_new nl), hP, hC, hn, hq1, fun H' t s1 _ _ => q _ _ ((same_new nl).trans s1)⟩⟩
    refine iteX (decide_eq_false c1) ⟨_, rfl, rfl, _, rfl, ?_⟩
    by_cases c4 : i = 4
    · subst c4
      refine iteY rfl ⟨_, rfl, p, _, rfl, hp, (by show 0 ≤ sizeLine; decide), fun l nl => ?_⟩
      have s1 : Same H (upd H l (.lst [])) := same_new nl
      refine ⟨n, l, [], [], [], (by rw [nv_length, hP.len]; rfl), .inl (.inl upd_same), rfl, .nil, (fun _ z => absurd z List.not_mem_nil), hn2, hn, fun H2 t s2 nt et => ?_⟩
      exact ⟨_, rfl, wd, us, _, _, rfl, rfl, s2.seq (s1.seq hw), atI_nat hv0, t, c, _, r.1, r.2, n, rfl, .inr (.inl (.inl et)), emp_pair (by omega), (hc.same s1).same s2, hr'.1, hr'.2, hn, fun H3 t3 s3 _ _ => q _ _ ((s1.trans s2).trans s3)⟩
    refine iteX (decide_eq_false (fun z => c4 (V.int.inj z))) ?_
    exact ⟨_, rfl, p, _, rfl, hp, _, rfl, n, wd, us, qs, (by rw [nv_length, hP.len]; rfl), .inl hw, hI, hC, by omega, hn, fun H3 t3 s3 _ _ => q _ _ s3⟩
end
end Pc
namespace Pc
open PySem PySem.Spec PyProof.Rows L2 RZ
section
variable {P : Program} {w : World} {K : PySem.W.Frag} {mg : Str → Option Value} {base : Heap}
def spRefX (K : PySem.W.Frag) : Sp := fun vs H Q _ => ∃ (i : Int) (p wd : Addr) (ps : List Nat) (us : List V) (qs : List (Int × Int)) (n : Nat) (x : Int), vs = [.int i, .ref p, .ref wd] ∧ Sq K H p (nv ps) ∧ ps.length = n ∧ 2 ≤ n ∧ n ≤ 1000 ∧ SqL K H wd us ∧ ItemsZ K H us qs ∧ badW n qs = some x ∧ 0 ≤ i ∧ i < 6 ∧ (i = 0 ∨ i = 4 → ∃ q r, qs = q :: r ∧ badP n q = some x) ∧ ∀ H', Same H H' → Q (.int x) H'
theorem ok_refusedX (T : Env K mg) : FnOk P w K mg base CX0 9 T.f_refused T.d_refused ["_law_sort", "_law_crowd", "_law_cries"] (spRefX K) := by
  have GA : FnOk P w K mg base (L2.CX P w) 8 T.f_asked T.d_asked ["_law_sort", "_law_crowd", "_law_cries"] (spAskedX K T.C_NoPerson) := okx_asked T
  refine T.F_refused.ok sc_refused (fun vs H Q E h => ?_) (fun cdv A outer s H vs Q E hr h => ?_)
  · obtain ⟨i, p, wd, ps, us, qs, n, x, rfl, _⟩ := h
    rfl
  · obtain ⟨i, p, wd, ps, us, qs, n, x, rfl, hp, hl, hn2, hn, hw, hI, hb, h0, h6, h04, q⟩ := h
    refine ⟨_, pss_cons (ps_set (i := 3) sc_refused.nd rfl (.inl rfl) pe_non) <|
      pss_cons (ps_try_kept (i := 4) (cs := [.ref T.C_NoPerson, .ref T.C_NoNumber, .ref T.C_NotShortest, .ref T.C_OtherSize]) rfl rfl rfl sc_refused.nd rfl rfl (.cons ⟨_, _, rfl, by rfl, by decide, .inl T.gC_NoPerson⟩ (.cons ⟨_, _, rfl, by rfl, by decide, .inl T.gC_NoNumber⟩ (.cons ⟨_, _, rfl, by rfl, by decide, .inl T.gC_NotShortest⟩ (.cons ⟨_, _, rfl, by rfl, by decide, .inl T.gC_OtherSize⟩ .nil)))) (by show 4 ≤ 1000; decide)
        (fun W pn xe tk _ => pss_one (ps_expr (pe_callS GA hr (by rfl) T.g_asked T.F_asked.kp T.b_asked (fun σ => passAt tk σ) (pa_cons (pv 0) (pa_cons (pv 1) (pa_cons (pv 2) pa_nil))))))
        (fun a oe pn => pss_one (ps_set (i := 3) sc_refused.nd rfl (.inl rfl) (pv 4)))) <|
      pss_cons (ps_if (pt_cmp (pc_isN (pv 3))) (pss_one (ps_ret pe_non)) pss_nil) <|
      pss_cons (ps_set (i := 5) sc_refused.nd rfl (.inl rfl) (pe_and (pe_callB call_isk (by rfl) T.n_isinstance (by decide +kernel) (pa_cons (pv 3) (pa_cons (pe_glob (v := .ref T.C_NoPerson) (by rfl) T.gC_NoPerson rfl) pa_nil))) (pe_one (pe_callB call_isk (by rfl) T.n_isinstance (by decide +kernel) (pa_cons (pv 3) (pa_cons (pe_bltn (v := .ty "LookupError") (by rfl) T.n_LookupError (by decide +kernel) rfl) pa_nil)))))) <|
      pss_cons (ps_if (PW.pt (pw_or (pt_not (pt_val (pv 5))) (pw_or1 (pt_val (pe_callB call_iskT (by rfl) T.n_isinstance (by decide +kernel) (pa_cons (pv 3) (pa_cons (pe_tup (pa_cons (pe_bltn (v := .ty "IndexError") (by rfl) T.n_IndexError (by decide +kernel) rfl) (pa_cons (pe_bltn (v := .ty "KeyError") (by rfl) T.n_KeyError (by decide +kernel) rfl) (pa_cons (pe_glob (v := .ref T.C_NoNumber) (by rfl) T.gC_NoNumber rfl) (pa_cons (pe_bltn (v := .ty "ValueError") (by rfl) T.n_ValueError (by decide +kernel) rfl) pa_nil))))) pa_nil))))))) (pss_one (ps_ret pe_str)) pss_nil) <|
      pss_one (ps_ret (pe_kf (pv 3))), ?_⟩
    refine st_set [some (.int i), some (.ref p), some (.ref wd), some .non, none, none] ?_ rfl
    refine ⟨_, rfl, _, rfl, _, rfl, i, p, wd, ps, us, qs, n, x, rfl, hp, hl, hn2, hn, hw, hI, hb, h0, h6, h04, kept1 (hits_of [true, false, false, false] rfl (.cons T.ee_NoPerson (.cons T.ex_NoPerson_NoNumber (.cons T.ex_NoPerson_NotShortest (.cons T.ex_NoPerson_OtherSize .nil))))) fun d H2 z s2 nd ed nx ne => ⟨_, rfl, ?_⟩⟩
    have hK : Kept (upd H2 z (exk z (.ref T.C_NoPerson) (some d))) z T.C_NoPerson (some d) := .mk1 ed nx
    have s3 : Same H (upd H2 z (exk z (.ref T.C_NoPerson) (some d))) := s2.trans (same_new nx)
    replace ed := same_new (o := exk z (.ref T.C_NoPerson) (some d)) nx _ _ ed
    refine st_set [some (.int i), some (.ref p), some (.ref wd), some (.ref z), some (.ref z), none] ?_ rfl
    refine st_kept [some (.int i), some (.ref p), some (.ref wd), some (.ref z), none, none] ?_ rfl
    refine ⟨_, rfl, _, rfl, iteX rfl ?_⟩
    refine ⟨_, rfl, z, _, _, _, _, _, rfl, hK, T.kpt_NoPerson, .own _, T.kk_NoPerson, _, rfl, iteY rfl ?_⟩
    refine ⟨_, rfl, z, _, _, _, _, _, rfl, hK, T.kpt_NoPerson, .ty _, T.kb_NoPerson_LookupError, ?_⟩
    refine st_set [some (.int i), some (.ref p), some (.ref wd), some (.ref z), none, some (.bl true)] ?_ rfl
    refine ⟨_, rfl, true, rfl, iteN ?_⟩
    refine ⟨_, rfl, (by show 4 ≤ sizeLine; decide), fun l nl => ⟨z, _, _, l, _, _, _, rfl, hK.same (same_new nl), T.kpt_NoPerson, upd_same, (.cons (.ty _) (.cons (.ty _) (.cons (.own _) (.cons (.ty _) .nil)))), (kit_cons T.kb_NoPerson_IndexError (kit_cons T.kb_NoPerson_KeyError (kit_cons T.ki_NoPerson_NoNumber (kit_cons T.kb_NoPerson_ValueError kit_nil)))), _, rfl, iteX rfl ?_⟩⟩
    exact ⟨_, rfl, z, _, _, _, _, rfl, (hK.same (same_new nl)).1, T.kpt_NoPerson, T.no_NoPerson, same_new nl _ _ ed, rfl, q _ (s3.trans (same_new nl))⟩
def spRefV (K : PySem.W.Frag) : Sp := fun vs H Q _ => ∃ (i : Int) (p wd : Addr) (ps : List Nat) (us : List V) (qs : List (Nat × Nat)) (n : Nat), vs = [.int i, .ref p, .ref wd] ∧ Sq K H p (nv ps) ∧ IsPair n ps ∧ 2 ≤ n ∧ n ≤ 1000 ∧ SqL K H wd us ∧ Items K H us qs ∧ Calls n qs ∧ 0 < qs.length ∧ qs.length ≤ 10000 ∧ 0 ≤ i ∧ i < 6 ∧ ∀ H', Same H H' → Q .non H'
theorem ok_refusedV (T : Env K mg) : FnOk P w K mg base CX0 9 T.f_refused T.d_refused ["_law_sort", "_law_crowd", "_law_cries"] (spRefV K) := by
  have GA : FnOk P w K mg base CX0 8 T.f_asked T.d_asked ["_law_sort", "_law_crowd", "_law_cries"] (spAskedV K) := ok_asked T
  refine T.F_refused.ok sc_refused (fun vs H Q E h => ?_) (fun cdv A outer s H vs Q E hr h => ?_)
  · obtain ⟨i, p, wd, ps, us, qs, n, rfl, _⟩ := h
    rfl
  · obtain ⟨i, p, wd, ps, us, qs, n, rfl, hp, hP, hn2, hn, hw, hI, hC, hq0, hq1, h0, h6, q⟩ := h
    refine ⟨_, pss_cons (ps_set (i := 3) sc_refused.nd rfl (.inl rfl) pe_non) <|
      pss_cons (ps_try_kept (i := 4) (cs := [.ref T.C_NoPerson, .ref T.C_NoNumber, .ref T.C_NotShortest, .ref T.C_OtherSize]) rfl rfl rfl sc_refused.nd rfl rfl (.cons ⟨_, _, rfl, by rfl, by decide, .inl T.gC_NoPerson⟩ (.cons ⟨_, _, rfl, by rfl, by decide, .inl T.gC_NoNumber⟩ (.cons ⟨_, _, rfl, by rfl, by decide, .inl T.gC_NotShortest⟩ (.cons ⟨_, _, rfl, by rfl, by decide, .inl T.gC_OtherSize⟩ .nil)))) (by show 4 ≤ 1000; decide)
        (fun W pn xe tk _ => pss_one (ps_expr (pe_call GA hr (by rfl) T.g_asked T.F_asked.kp T.b_asked .nil pass0 (pa_cons (pv 0) (pa_cons (pv 1) (pa_cons (pv 2) pa_nil))))))
        (fun a oe pn => pss_one (ps_set (i := 3) sc_refused.nd rfl (.inl rfl) (pv 4)))) <|
      pss_cons (ps_if (pt_cmp (pc_isN (pv 3))) (pss_one (ps_ret pe_non)) pss_nil) <|
      pss_cons (ps_set (i := 5) sc_refused.nd rfl (.inl rfl) (pe_and (pe_callB call_isk (by rfl) T.n_isinstance (by decide +kernel) (pa_cons (pv 3) (pa_cons (pe_glob (v := .ref T.C_NoPerson) (by rfl) T.gC_NoPerson rfl) pa_nil))) (pe_one (pe_callB call_isk (by rfl) T.n_isinstance (by decide +kernel) (pa_cons (pv 3) (pa_cons (pe_bltn (v := .ty "LookupError") (by rfl) T.n_LookupError (by decide +kernel) rfl) pa_nil)))))) <|
      pss_cons (ps_if (PW.pt (pw_or (pt_not (pt_val (pv 5))) (pw_or1 (pt_val (pe_callB call_iskT (by rfl) T.n_isinstance (by decide +kernel) (pa_cons (pv 3) (pa_cons (pe_tup (pa_cons (pe_bltn (v := .ty "IndexError") (by rfl) T.n_IndexError (by decide +kernel) rfl) (pa_cons (pe_bltn (v := .ty "KeyError") (by rfl) T.n_KeyError (by decide +kernel) rfl) (pa_cons (pe_glob (v := .ref T.C_NoNumber) (by rfl) T.gC_NoNumber rfl) (pa_cons (pe_bltn (v := .ty "ValueError") (by rfl) T.n_ValueError (by decide +kernel) rfl) pa_nil))))) pa_nil))))))) (pss_one (ps_ret pe_str)) pss_nil) <|
      pss_one (ps_ret (pe_kf (pv 3))), ?_⟩
    refine st_set [some (.int i), some (.ref p), some (.ref wd), some .non, none, none] ?_ rfl
    refine ⟨_, rfl, _, rfl, _, rfl, i, p, wd, ps, us, qs, n, rfl, hp, hP, hn2, hn, hw, hI, hC, hq0, hq1, h0, h6, fun v H' s1 => ?_⟩
    exact ⟨_, rfl, _, rfl, iteY rfl (q _ s1)⟩
end
end Pc
namespace Pc
open PySem PySem.Spec PyProof.Rows L2 RZ
section
variable {P : Program} {w : World} {K : PySem.W.Frag} {mg : Str → Option Value} {base : Heap}
theorem badP_fst {n a b : Int} (h : ¬ (0 ≤ a ∧ a < n)) : badP n (a, b) = some a := by
  unfold badP; rw [if_pos (outP_yes.mpr h)]
theorem badP_snd {n a b : Int} (h : 0 ≤ a ∧ a < n) (g : ¬ (0 ≤ b ∧ b < n)) : badP n (a, b) = some b := by
  unfold badP; rw [if_neg (by rw [outP_no.mpr h]; exact Bool.false_ne_true), if_pos (outP_yes.mpr g)]
def spWrong : Sp := fun vs H Q _ => ∃ (b : Addr) (k n : Nat), vs = [.ref b, .int n] ∧ Box (k + 10) H b ∧ 2 ≤ n ∧ n ≤ 100 ∧
  ∀ (H' : Hp) (t c : Addr) (y z x : Int), H' t = some (.tup [.ref c, .int x]) → H' c = some (.tup [.int y, .int z]) → badP n (y, z) = some x → x.natAbs ≤ 1000000000000 → Keep b H H' → Box k H' b → Q (.ref t) H'
theorem ok_wrong_call (T : Env K mg) : FnOk P w K mg base CX0 4 T.f_wrong_call T.d_wrong_call ["_law_box_here", "_law_count"] spWrong := by
  have GT : FnOk P w K mg base CX0 1 T.f_take T.d_take ["_law_box_here", "_law_span"] spTake := ok_take T
  have GO : FnOk P w K mg base CX0 2 T.f_of T.d_of ["_law_box_here", "_law_some"] (spOf K) := ok_of T
  have GA : FnOk P w K mg base CX0 2 T.f_any_call T.d_any_call ["_law_box_here", "_law_count"] spAnyCall := ok_any_call T
  refine T.F_wrong_call.ok sc_wrong_call (fun vs H Q E h => ?_) (fun cdv A outer s H vs Q E hr h => ?_)
  · obtain ⟨b, k, n, rfl, _⟩ := h
    rfl
  · obtain ⟨b, k, N, rfl, hB, hN2, hN, q⟩ := h
    have h1 := hr.mono (show 1 ≤ 3 by decide)
    have h2 := hr.mono (show 2 ≤ 3 by decide)
    have kH : Keep b H H := Keep.refl _ _
    refine ⟨_, pss_cons (ps_asg (pe_call GA h2 (by rfl) T.g_any_call T.F_any_call.kp T.b_any_call .nil pass0 (pa_cons (pv 0) (pa_cons (pv 1) pa_nil))) (pg_tup rfl (pgs_cons (pg_name (i := 2) sc_wrong_call.nd rfl (.inl rfl)) (pgs_cons (pg_name (i := 3) sc_wrong_call.nd rfl (.inl rfl)) pgs_nil)))) <|
      pss_cons (ps_set (i := 4) sc_wrong_call.nd rfl (.inl rfl) (pe_call GO h2 (by rfl) T.g_of T.F_of.kp T.b_of .nil pass0 (pa_cons (pv 0) (pa_cons (pe_lst (pa_cons (pv 1) (pa_cons (pe_op op_add (pe_op op_add (pv 1) pe_int) (pe_call GT h1 (by rfl) T.g_take T.F_take.kp T.b_take .nil pass0 (pa_cons (pv 0) (pa_cons pe_int pa_nil)))) (pa_cons (pe_op op_pow pe_int pe_int) pa_nil)))) pa_nil)))) <|
      pss_cons (ps_set (i := 5) sc_wrong_call.nd rfl (.inl rfl) (pe_call GO h2 (by rfl) T.g_of T.F_of.kp T.b_of .nil pass0 (pa_cons (pv 0) (pa_cons (pe_lst (pa_cons (pe_un un_neg pe_int) (pa_cons (pe_op op_sub (pe_un un_neg pe_int) (pe_call GT h1 (by rfl) T.g_take T.F_take.kp T.b_take .nil pass0 (pa_cons (pv 0) (pa_cons pe_int pa_nil)))) (pa_cons (pe_un un_neg (pe_op op_pow pe_int pe_int)) pa_nil)))) pa_nil)))) <|
      pss_cons (ps_set (i := 6) sc_wrong_call.nd rfl (.inl rfl) (pe_call GT h1 (by rfl) T.g_take T.F_take.kp T.b_take .nil pass0 (pa_cons (pv 0) (pa_cons pe_int pa_nil)))) <|
      pss_one (ps_ret (pe_ix ix_list (pe_lst (pa_cons (pe_tup (pa_cons (pe_tup (pa_cons (pv 2) (pa_cons (pv 4) pa_nil))) (pa_cons (pv 4) pa_nil))) (pa_cons (pe_tup (pa_cons (pe_tup (pa_cons (pv 5) (pa_cons (pv 3) pa_nil))) (pa_cons (pv 5) pa_nil))) (pa_cons (pe_tup (pa_cons (pe_tup (pa_cons (pv 5) (pa_cons (pv 4) pa_nil))) (pa_cons (pv 5) pa_nil))) (pa_cons (pe_tup (pa_cons (pe_tup (pa_cons (pv 4) (pa_cons (pe_op op_add (pv 4) pe_int) pa_nil))) (pa_cons (pv 4) pa_nil))) pa_nil))))) (pv 6) (fun _ _ => rfl))), ?_⟩
    refine ⟨_, rfl, _, rfl, b, k + 8, N, rfl, hB.mono (by omega), hN2, by omega, fun H1 t2 lo hi hlh hhn n5 e_t2 k3 hB4 => ?_⟩
    obtain ⟨y_hy6, hy6⟩ := hB.lst
    clear hB
    have hB := hB4
    replace kH := kH.trans k3
    refine ⟨t2, _, rfl, .inl (.inl e_t2), rfl, _, _, rfl, _, _, rfl, rfl, ?_⟩
    clear e_t2
    first | refine st_set [some (.ref b), some (.int ((N : Int))), some (.int ((lo : Int))), some (.int ((hi : Int))), none, none, none] ?_ rfl | refine st_eq [some (.ref b), some (.int ((N : Int))), some (.int ((lo : Int))), some (.int ((hi : Int))), none, none, none] ?_ rfl
    refine ⟨_, rfl, _, rfl, _, rfl, _, _, rfl, rfl, _, rfl, b, k + 7, 9, rfl, hB.mono (by omega), by decide, by decide, fun r7 H8 ra9 rb10 hB11 k12 => ?_⟩
    obtain ⟨y_hy13, hy13⟩ := hB.lst
    clear hB
    have hB := hB11
    replace kH := kH.trans k12
    refine ⟨_, _, rfl, rfl, 10, 12, rfl, rfl, ⟨by decide, by decide, by decide⟩, (by show 3 ≤ sizeLine; decide), fun l14 nl14 => ?_⟩
    have ne_l14 : l14 ≠ b := (hB.ne_new nl14).symm
    have s15 : Same H8 (upd H8 l14 (.lst [.int ((N : Int)), .int ((((N : Int) + 1) + r7)), .int (((10 : Int) ^ Int.toNat 12))])) := same_new nl14
    have e_l14 : upd H8 l14 (.lst [.int ((N : Int)), .int ((((N : Int) + 1) + r7)), .int (((10 : Int) ^ Int.toNat 12))]) l14 = some (.lst [.int ((N : Int)), .int ((((N : Int) + 1) + r7)), .int (((10 : Int) ^ Int.toNat 12))]) := upd_same
    revert s15 e_l14; generalize upd H8 l14 (.lst [.int ((N : Int)), .int ((((N : Int) + 1) + r7)), .int (((10 : Int) ^ Int.toNat 12))]) = H16; intro s15 e_l14
    replace hB := hB.same s15
    replace kH := kH.trans (Keep.of_same s15)
    refine ⟨b, l14, k + 6, _, rfl, hB.mono (by omega), ne_l14, e_l14, (by show 0 < 3; decide), (by show 3 ≤ 1000; decide), fun H17 ix18 vx19 hv20 k21 hB22 => ?_⟩
    obtain ⟨y_hy23, hy23⟩ := hB.lst
    replace e_l14 := k21 _ _ ne_l14 e_l14
    clear hB
    have hB := hB22
    replace kH := kH.trans k21
    have e12 : ((10 : Int) ^ Int.toNat 12) = 1000000000000 := by decide
    obtain ⟨F, rfl, hF1, hF2⟩ : ∃ z : Int, vx19 = .int z ∧ (N : Int) ≤ z ∧ z ≤ 1000000000000 := by
      have hj : ix18 < 3 := get_lt hv20
      rw [e12] at hv20
      rcases (show ix18 = 0 ∨ ix18 = 1 ∨ ix18 = 2 by omega) with z | z | z <;> subst z
      · exact ⟨_, (Option.some.inj hv20).symm, by omega, by omega⟩
      · exact ⟨_, (Option.some.inj hv20).symm, by omega, by omega⟩
      · exact ⟨_, (Option.some.inj hv20).symm, by omega, by omega⟩
    clear hv20
    first | refine st_set [some (.ref b), some (.int ((N : Int))), some (.int ((lo : Int))), some (.int ((hi : Int))), some (.int (F)), none, none] ?_ rfl | refine st_eq [some (.ref b), some (.int ((N : Int))), some (.int ((lo : Int))), some (.int ((hi : Int))), some (.int (F)), none, none] ?_ rfl
    refine ⟨_, rfl, _, rfl, _, rfl, _, rfl, b, k + 5, 9, rfl, hB.mono (by omega), by decide, by decide, fun r24 H25 ra26 rb27 hB28 k29 => ?_⟩
    obtain ⟨y_hy30, hy30⟩ := hB.lst
    clear hB
    have hB := hB28
    replace kH := kH.trans k29
    refine ⟨_, _, rfl, rfl, 10, 12, rfl, rfl, ⟨by decide, by decide, by decide⟩, _, rfl, (by show 3 ≤ sizeLine; decide), fun l31 nl31 => ?_⟩
    have ne_l31 : l31 ≠ b := (hB.ne_new nl31).symm
    have s32 : Same H25 (upd H25 l31 (.lst [.int ((-1)), .int (((-1) - r24)), .int ((-((10 : Int) ^ Int.toNat 12)))])) := same_new nl31
    have e_l31 : upd H25 l31 (.lst [.int ((-1)), .int (((-1) - r24)), .int ((-((10 : Int) ^ Int.toNat 12)))]) l31 = some (.lst [.int ((-1)), .int (((-1) - r24)), .int ((-((10 : Int) ^ Int.toNat 12)))]) := upd_same
    revert s32 e_l31; generalize upd H25 l31 (.lst [.int ((-1)), .int (((-1) - r24)), .int ((-((10 : Int) ^ Int.toNat 12)))]) = H33; intro s32 e_l31
    replace hB := hB.same s32
    replace kH := kH.trans (Keep.of_same s32)
    refine ⟨b, l31, k + 4, _, rfl, hB.mono (by omega), ne_l31, e_l31, (by show 0 < 3; decide), (by show 3 ≤ 1000; decide), fun H34 ix35 vx36 hv37 k38 hB39 => ?_⟩
    obtain ⟨y_hy40, hy40⟩ := hB.lst
    replace e_l31 := k38 _ _ ne_l31 e_l31
    clear hB
    have hB := hB39
    replace kH := kH.trans k38
    obtain ⟨G, rfl, hG1, hG2⟩ : ∃ z : Int, vx36 = .int z ∧ z < 0 ∧ -1000000000000 ≤ z := by
      have hj : ix35 < 3 := get_lt hv37
      rw [e12] at hv37
      rcases (show ix35 = 0 ∨ ix35 = 1 ∨ ix35 = 2 by omega) with z | z | z <;> subst z
      · exact ⟨_, (Option.some.inj hv37).symm, by omega, by omega⟩
      · exact ⟨_, (Option.some.inj hv37).symm, by omega, by omega⟩
      · exact ⟨_, (Option.some.inj hv37).symm, by omega, by omega⟩
    clear hv37
    first | refine st_set [some (.ref b), some (.int ((N : Int))), some (.int ((lo : Int))), some (.int ((hi : Int))), some (.int (F)), some (.int (G)), none] ?_ rfl | refine st_eq [some (.ref b), some (.int ((N : Int))), some (.int ((lo : Int))), some (.int ((hi : Int))), some (.int (F)), some (.int (G)), none] ?_ rfl
    refine ⟨_, rfl, b, k + 3, 4, rfl, hB.mono (by omega), by decide, by decide, fun r41 H42 ra43 rb44 hB45 k46 => ?_⟩
    obtain ⟨y_hy47, hy47⟩ := hB.lst
    clear hB
    have hB := hB45
    replace kH := kH.trans k46
    first | refine st_set [some (.ref b), some (.int ((N : Int))), some (.int ((lo : Int))), some (.int ((hi : Int))), some (.int (F)), some (.int (G)), some (.int (r41))] ?_ rfl | refine st_eq [some (.ref b), some (.int ((N : Int))), some (.int ((lo : Int))), some (.int ((hi : Int))), some (.int (F)), some (.int (G)), some (.int (r41))] ?_ rfl
    refine ⟨_, rfl, _, rfl, (by show 2 ≤ sizeLine; decide), fun l48 nl48 => ?_⟩
    have s49 : Same H42 (upd H42 l48 (.tup [.int ((lo : Int)), .int (F)])) := same_new nl48
    have e_l48 : upd H42 l48 (.tup [.int ((lo : Int)), .int (F)]) l48 = some (.tup [.int ((lo : Int)), .int (F)]) := upd_same
    revert s49 e_l48; generalize upd H42 l48 (.tup [.int ((lo : Int)), .int (F)]) = H50; intro s49 e_l48
    replace hB := hB.same s49
    replace kH := kH.trans (Keep.of_same s49)
    refine ⟨_, rfl, (by show 2 ≤ sizeLine; decide), fun l51 nl51 => ?_⟩
    have s52 : Same H50 (upd H50 l51 (.tup [.ref l48, .int (F)])) := same_new nl51
    have e_l51 : upd H50 l51 (.tup [.ref l48, .int (F)]) l51 = some (.tup [.ref l48, .int (F)]) := upd_same
    revert s52 e_l51; generalize upd H50 l51 (.tup [.ref l48, .int (F)]) = H53; intro s52 e_l51
    replace e_l48 := s52 _ _ e_l48
    replace hB := hB.same s52
    replace kH := kH.trans (Keep.of_same s52)
    refine ⟨_, rfl, _, rfl, (by show 2 ≤ sizeLine; decide), fun l54 nl54 => ?_⟩
    have s55 : Same H53 (upd H53 l54 (.tup [.int (G), .int ((hi : Int))])) := same_new nl54
    have e_l54 : upd H53 l54 (.tup [.int (G), .int ((hi : Int))]) l54 = some (.tup [.int (G), .int ((hi : Int))]) := upd_same
    revert s55 e_l54; generalize upd H53 l54 (.tup [.int (G), .int ((hi : Int))]) = H56; intro s55 e_l54
    replace e_l48 := s55 _ _ e_l48
    replace e_l51 := s55 _ _ e_l51
    replace hB := hB.same s55
    replace kH := kH.trans (Keep.of_same s55)
    refine ⟨_, rfl, (by show 2 ≤ sizeLine; decide), fun l57 nl57 => ?_⟩
    have s58 : Same H56 (upd H56 l57 (.tup [.ref l54, .int (G)])) := same_new nl57
    have e_l57 : upd H56 l57 (.tup [.ref l54, .int (G)]) l57 = some (.tup [.ref l54, .int (G)]) := upd_same
    revert s58 e_l57; generalize upd H56 l57 (.tup [.ref l54, .int (G)]) = H59; intro s58 e_l57
    replace e_l48 := s58 _ _ e_l48
    replace e_l51 := s58 _ _ e_l51
    replace e_l54 := s58 _ _ e_l54
    replace hB := hB.same s58
    replace kH := kH.trans (Keep.of_same s58)
    refine ⟨_, rfl, _, rfl, (by show 2 ≤ sizeLine; decide), fun l60 nl60 => ?_⟩
    have s61 : Same H59 (upd H59 l60 (.tup [.int (G), .int (F)])) := same_new nl60
    have e_l60 : upd H59 l60 (.tup [.int (G), .int (F)]) l60 = some (.tup [.int (G), .int (F)]) := upd_same
    revert s61 e_l60; generalize upd H59 l60 (.tup [.int (G), .int (F)]) = H62; intro s61 e_l60
    replace e_l48 := s61 _ _ e_l48
    replace e_l51 := s61 _ _ e_l51
    replace e_l54 := s61 _ _ e_l54
    replace e_l57 := s61 _ _ e_l57
    replace hB := hB.same s61
    replace kH := kH.trans (Keep.of_same s61)
    refine ⟨_, rfl, (by show 2 ≤ sizeLine; decide), fun l63 nl63 => ?_⟩
    have s64 : Same H62 (upd H62 l63 (.tup [.ref l60, .int (G)])) := same_new nl63
    have e_l63 : upd H62 l63 (.tup [.ref l60, .int (G)]) l63 = some (.tup [.ref l60, .int (G)]) := upd_same
    revert s64 e_l63; generalize upd H62 l63 (.tup [.ref l60, .int (G)]) = H65; intro s64 e_l63
    replace e_l48 := s64 _ _ e_l48
    replace e_l51 := s64 _ _ e_l51
    replace e_l54 := s64 _ _ e_l54
    replace e_l57 := s64 _ _ e_l57
    replace e_l60 := s64 _ _ e_l60
    replace hB := hB.same s64
    replace kH := kH.trans (Keep.of_same s64)
    refine ⟨_, rfl, _, rfl, _, _, rfl, rfl, (by show 2 ≤ sizeLine; decide), fun l66 nl66 => ?_⟩
    have s67 : Same H65 (upd H65 l66 (.tup [.int (F), .int ((F + 1))])) := same_new nl66
    have e_l66 : upd H65 l66 (.tup [.int (F), .int ((F + 1))]) l66 = some (.tup [.int (F), .int ((F + 1))]) := upd_same
    revert s67 e_l66; generalize upd H65 l66 (.tup [.int (F), .int ((F + 1))]) = H68; intro s67 e_l66
    replace e_l48 := s67 _ _ e_l48
    replace e_l51 := s67 _ _ e_l51
    replace e_l54 := s67 _ _ e_l54
    replace e_l57 := s67 _ _ e_l57
    replace e_l60 := s67 _ _ e_l60
    replace e_l63 := s67 _ _ e_l63
    replace hB := hB.same s67
    replace kH := kH.trans (Keep.of_same s67)
    refine ⟨_, rfl, (by show 2 ≤ sizeLine; decide), fun l69 nl69 => ?_⟩
    have s70 : Same H68 (upd H68 l69 (.tup [.ref l66, .int (F)])) := same_new nl69
    have e_l69 : upd H68 l69 (.tup [.ref l66, .int (F)]) l69 = some (.tup [.ref l66, .int (F)]) := upd_same
    revert s70 e_l69; generalize upd H68 l69 (.tup [.ref l66, .int (F)]) = H71; intro s70 e_l69
    replace e_l48 := s70 _ _ e_l48
    replace e_l51 := s70 _ _ e_l51
    replace e_l54 := s70 _ _ e_l54
    replace e_l57 := s70 _ _ e_l57
    replace e_l60 := s70 _ _ e_l60
    replace e_l63 := s70 _ _ e_l63
    replace e_l66 := s70 _ _ e_l66
    replace hB := hB.same s70
    replace kH := kH.trans (Keep.of_same s70)
    refine ⟨(by show 4 ≤ sizeLine; decide), fun l72 nl72 => ?_⟩
    have ne_l72 : l72 ≠ b := (hB.ne_new nl72).symm
    have s73 : Same H71 (upd H71 l72 (.lst [.ref l51, .ref l57, .ref l63, .ref l69])) := same_new nl72
    have e_l72 : upd H71 l72 (.lst [.ref l51, .ref l57, .ref l63, .ref l69]) l72 = some (.lst [.ref l51, .ref l57, .ref l63, .ref l69]) := upd_same
    revert s73 e_l72; generalize upd H71 l72 (.lst [.ref l51, .ref l57, .ref l63, .ref l69]) = H74; intro s73 e_l72
    replace e_l48 := s73 _ _ e_l48
    replace e_l51 := s73 _ _ e_l51
    replace e_l54 := s73 _ _ e_l54
    replace e_l57 := s73 _ _ e_l57
    replace e_l60 := s73 _ _ e_l60
    replace e_l63 := s73 _ _ e_l63
    replace e_l66 := s73 _ _ e_l66
    replace e_l69 := s73 _ _ e_l69
    replace hB := hB.same s73
    replace kH := kH.trans (Keep.of_same s73)
    refine ⟨_, rfl, ?_⟩
    rcases (show r41 = 0 ∨ r41 = 1 ∨ r41 = 2 ∨ r41 = 3 by omega) with z | z | z | z <;> subst z
    · exact ⟨l72, _, _, V.ref l51, rfl, rfl, .inl (.inl e_l72), rfl, q _ l51 l48 _ _ _ e_l51 e_l48 (badP_snd ⟨by omega, by omega⟩ (by omega)) (by omega) kH (hB.mono (by omega))⟩
    · exact ⟨l72, _, _, V.ref l57, rfl, rfl, .inl (.inl e_l72), rfl, q _ l57 l54 _ _ _ e_l57 e_l54 (badP_fst (by omega)) (by omega) kH (hB.mono (by omega))⟩
    · exact ⟨l72, _, _, V.ref l63, rfl, rfl, .inl (.inl e_l72), rfl, q _ l63 l60 _ _ _ e_l63 e_l60 (badP_fst (by omega)) (by omega) kH (hB.mono (by omega))⟩
    · exact ⟨l72, _, _, V.ref l69, rfl, rfl, .inl (.inl e_l72), rfl, q _ l69 l66 _ _ _ e_l69 e_l66 (badP_fst (by omega)) (by omega) kH (hB.mono (by omega))⟩
end
end Pc
namespace Pc
open PySem PySem.Spec PyProof.Rows L2 RZ
/-! ### words that are spoilt (also in lib46: never both) -/
def zz (p : Nat × Nat) : Int × Int := ((p.1 : Int), (p.2 : Int))
theorem itemsZ_prs {K : PySem.W.Frag} {H : Hp} {as : List Addr} {qs : List (Nat × Nat)} (h : Prs H as qs) : ItemsZ K H (as.map V.ref) (qs.map zz) := ⟨by rw [List.length_map, List.length_map]; exact h.length, fun i v hv => by
  rw [List.getElem?_map] at hv
  cases e : as[i]? with
  | none => rw [e] at hv; cases hv
  | some c =>
    rw [e] at hv
    obtain ⟨p, h1, h2⟩ := prs_get h e
    exact ⟨c, zz p, (Option.some.inj hv).symm, by rw [List.getElem?_map, h1]; rfl, .inr (.inl (.inl h2))⟩⟩
theorem itemsZ_app {K : PySem.W.Frag} {H : Hp} {us vs : List V} {qs rs : List (Int × Int)} (h : ItemsZ K H us qs) (g : ItemsZ K H vs rs) : ItemsZ K H (us ++ vs) (qs ++ rs) := ⟨by rw [List.length_append, List.length_append, h.1, g.1], fun i v hv => by
  by_cases c : i < us.length
  · rw [List.getElem?_append_left c] at hv
    obtain ⟨a, p, e1, e2, e3⟩ := h.2 i v hv
    exact ⟨a, p, e1, by rw [List.getElem?_append_left (by rw [← h.1]; exact c)]; exact e2, e3⟩
  · rw [List.getElem?_append_right (by omega)] at hv
    obtain ⟨a, p, e1, e2, e3⟩ := g.2 _ v hv
    exact ⟨a, p, e1, by rw [List.getElem?_append_right (by rw [← h.1]; omega), ← h.1]; exact e2, e3⟩⟩
theorem itemsZ_two {K : PySem.W.Frag} {H : Hp} {a b : Addr} {x y x' y' : Int} (ha : H a = some (.tup [.int x, .int y])) (hb : H b = some (.tup [.int x', .int y'])) : ItemsZ K H [.ref a, .ref b] [(x, y), (x', y')] := ⟨rfl, fun i v hv => by
  have hi : i < 2 := get_lt hv
  rcases (show i = 0 ∨ i = 1 by omega) with rfl | rfl
  · exact ⟨a, _, (Option.some.inj hv).symm, rfl, .inr (.inl (.inl ha))⟩
  · exact ⟨b, _, (Option.some.inj hv).symm, rfl, .inr (.inl (.inl hb))⟩⟩
theorem badP_zz {n : Nat} {p : Nat × Nat} (h1 : p.1 < n) (h2 : p.2 < n) : badP n (zz p) = none := by
  unfold badP zz
  rw [if_neg (by rw [outP_no.mpr ⟨by show (0 : Int) ≤ (p.1 : Int); omega, by show (p.1 : Int) < (n : Int); omega⟩]; exact Bool.false_ne_true), if_neg (by rw [outP_no.mpr ⟨by show (0 : Int) ≤ (p.2 : Int); omega, by show (p.2 : Int) < (n : Int); omega⟩]; exact Bool.false_ne_true)]
theorem badW_zz {n : Nat} {rs : List (Int × Int)} : ∀ {qs : List (Nat × Nat)}, Calls n qs → badW n (qs.map zz ++ rs) = badW n rs
  | [], _ => rfl
  | p :: qs, h => by
    have hp := h p List.mem_cons_self
    show (match badP n (zz p) with | some u => some u | none => badW n (qs.map zz ++ rs)) = _
    rw [badP_zz (by omega) (by omega)]
    exact badW_zz (qs := qs) fun q hq => h q (List.mem_cons_of_mem _ hq)
end Pc
namespace Pc
open PySem PySem.Spec PyProof.Rows L2 RZ
section
variable {P : Program} {w : World} {K : PySem.W.Frag} {mg : Str → Option Value} {base : Heap}
def spRight : Sp := fun vs H Q _ => ∃ (b : Addr) (n : Nat), vs = [.ref b] ∧ Box (n + 1000) H b ∧ ∀ H', Keep b H H' → Box n H' b → Q (.bl true) H'
theorem ok_right (T : Env K mg) : FnOk P w K mg base CX0 10 T.f_right T.d_right ["_law_box_here"] spRight := by
  have GT : FnOk P w K mg base CX0 1 T.f_take T.d_take ["_law_box_here", "_law_span"] spTake := ok_take T
  have GE : FnOk P w K mg base CX0 5 T.f_same T.d_same ["_law_found", "_law_due"] (spSame K 4) := (ok_same T 4).mono (by decide)
  have GA : FnOk P w K mg base CX0 2 T.f_any_call T.d_any_call ["_law_box_here", "_law_count"] spAnyCall := ok_any_call T
  have GW : FnOk P w K mg base CX0 4 T.f_wrong_call T.d_wrong_call ["_law_box_here", "_law_count"] spWrong := ok_wrong_call T
  have GS : FnOk P w K mg base CX0 3 T.f_some_calls T.d_some_calls ["_law_box_here", "_law_count", "_law_most"] spSomeCalls := ok_some_calls T
  have GR : FnOk P w K mg base CX0 3 T.f_random T.d_random ["_law_box_here", "_law_count"] spRandom := ok_random T
  have GX : FnOk P w K mg base CX0 9 T.f_refused T.d_refused ["_law_sort", "_law_crowd", "_law_cries"] (spRefX K) := ok_refusedX T
  have GV : FnOk P w K mg base CX0 9 T.f_refused T.d_refused ["_law_sort", "_law_crowd", "_law_cries"] (spRefV K) := ok_refusedV T
  refine T.F_right.ok sc_right (fun vs H Q E h => ?_) (fun cdv A outer s H vs Q E hr h => ?_)
  · obtain ⟨b, n, rfl, _⟩ := h
    rfl
  · obtain ⟨b, n, rfl, hB, q⟩ := h
    have h1 := hr.mono (show 1 ≤ 9 by decide)
    have h2 := hr.mono (show 2 ≤ 9 by decide)
    have h3 := hr.mono (show 3 ≤ 9 by decide)
    have h4 := hr.mono (show 4 ≤ 9 by decide)
    have h5 := hr.mono (show 5 ≤ 9 by decide)
    have h6 := hr.mono (show 6 ≤ 9 by decide)
    have h7 := hr.mono (show 7 ≤ 9 by decide)
    have h8 := hr.mono (show 8 ≤ 9 by decide)
    have kH : Keep b H H := Keep.refl _ _
    refine ⟨_, pss_cons (ps_set (i := 1) sc_right.nd rfl (.inl rfl) (pe_op op_add pe_int (pe_op op_mul pe_int (pe_call GT h1 (by rfl) T.g_take T.F_take.kp T.b_take .nil pass0 (pa_cons (pv 0) (pa_cons pe_int pa_nil)))))) <|
      pss_cons (ps_set (i := 2) sc_right.nd rfl (.inr rfl) (pe_call GR h3 (by rfl) T.g_random T.F_random.kp T.b_random .nil pass0 (pa_cons (pv 0) (pa_cons (pv 1) pa_nil)))) <|
      pss_cons (ps_for PassesOwn.never rfl (pi_range1 (by rfl) T.n_range (pa_cons pe_int pa_nil)) (pg_name (i := 3) sc_right.nd rfl (.inl rfl)) (pss_cons (ps_asg (pe_call GW h4 (by rfl) T.g_wrong_call T.F_wrong_call.kp T.b_wrong_call .nil pass0 (pa_cons (pv 0) (pa_cons (pv 1) pa_nil))) (pg_tup rfl (pgs_cons (pg_name (i := 4) sc_right.nd rfl (.inr rfl)) (pgs_cons (pg_name (i := 5) sc_right.nd rfl (.inl rfl)) pgs_nil)))) <|
      pss_cons (ps_set (i := 6) sc_right.nd rfl (.inr rfl) (pe_slice sl_list (pe_lst (pa_cons (pe_call GA h2 (by rfl) T.g_any_call T.F_any_call.kp T.b_any_call .nil pass0 (pa_cons (pv 0) (pa_cons (pv 1) pa_nil))) (pa_cons (pe_ix ix_seq (pe_call GW h4 (by rfl) T.g_wrong_call T.F_wrong_call.kp T.b_wrong_call .nil pass0 (pa_cons (pv 0) (pa_cons (pv 1) pa_nil))) pe_int (fun _ _ => rfl)) pa_nil))) po_none (po_some (pe_call GT h1 (by rfl) T.g_take T.F_take.kp T.b_take .nil pass0 (pa_cons (pv 0) (pa_cons pe_int pa_nil)))))) <|
      pss_cons (ps_set (i := 7) sc_right.nd rfl (.inr rfl) (pe_op op_cat (pe_call GS h3 (by rfl) T.g_some_calls T.F_some_calls.kp T.b_some_calls .nil pass0 (pa_cons (pv 0) (pa_cons (pv 1) (pa_cons pe_int pa_nil)))) (pe_lst (pa_cons (pe_call GA h2 (by rfl) T.g_any_call T.F_any_call.kp T.b_any_call .nil pass0 (pa_cons (pv 0) (pa_cons (pv 1) pa_nil))) pa_nil)))) <|
      pss_cons (ps_setLc (i := 8) (own := [("_law_sort", 9)]) (g := gName 9) (tt := tYes) (te := tCall (spRefX K) [] (fun _ _ _ => False) (tCons (tVar 9) (tCons (tVar 2) (tCons _ tNil)))) rfl sc_right.nd rfl rfl (sw_true rfl rfl rfl (by decide +kernel)) (pi_range1 (by rfl) T.n_range (pa_cons pe_int pa_nil)) (blkOk_by (N := N_right) (sc := defScope s_right) (by decide +kernel)) (fun _ _ _ _ _ => pg_name (i := 9) sc_right.nd rfl (.inl rfl)) (fun _ _ _ _ _ => pts_nil) (fun _ _ _ _ _ => (pe_call GX hr (by rfl) T.g_refused T.F_refused.kp T.b_refused .nil pass0 (pa_cons (pv 9) (pa_cons (pv 2) (pa_cons (pe_op op_cat (pe_lst (pa_cons (pv 4) pa_nil)) (pv 6)) pa_nil)))))) <|
      pss_cons (ps_if (pt_not (pt_val (pe_call GE h5 (by rfl) T.g_same T.F_same.kp T.b_same .nil pass0 (pa_cons (pv 8) (pa_cons (pe_op op_rep (pe_lst (pa_cons (pv 5) pa_nil)) pe_int) pa_nil))))) (pss_one (ps_ret pe_bl)) pss_nil) <|
      pss_cons (ps_setLc (i := 8) (own := [("_law_sort", 9)]) (g := gName 9) (tt := tYes) (te := tCall (spRefX K) [] (fun _ _ _ => False) (tCons (tVar 9) (tCons (tVar 2) (tCons _ tNil)))) rfl sc_right.nd rfl rfl (sw_true rfl rfl rfl (by decide +kernel)) (pi_tup (pe_tup (pa_cons pe_int (pa_cons pe_int (pa_cons pe_int (pa_cons pe_int pa_nil)))))) (blkOk_by (N := N_right) (sc := defScope s_right) (by decide +kernel)) (fun _ _ _ _ _ => pg_name (i := 9) sc_right.nd rfl (.inl rfl)) (fun _ _ _ _ _ => pts_nil) (fun _ _ _ _ _ => (pe_call GX hr (by rfl) T.g_refused T.F_refused.kp T.b_refused .nil pass0 (pa_cons (pv 9) (pa_cons (pv 2) (pa_cons (pe_op op_cat (pe_op op_cat (pv 7) (pe_lst (pa_cons (pv 4) pa_nil))) (pv 6)) pa_nil)))))) <|
      pss_cons (ps_if (pt_not (pt_val (pe_call GE h5 (by rfl) T.g_same T.F_same.kp T.b_same .nil pass0 (pa_cons (pv 8) (pa_cons (pe_op op_rep (pe_lst (pa_cons (pv 5) pa_nil)) pe_int) pa_nil))))) (pss_one (ps_ret pe_bl)) pss_nil) <|
      pss_one (ps_if (pt_not (pt_val (pe_call GE h5 (by rfl) T.g_same T.F_same.kp T.b_same .nil pass0 (pa_cons (pe_lc (own := [("_law_sort", 9)]) (g := gName 9) (tt := tYes) (te := tCall (spRefV K) [] (fun _ _ _ => False) (tCons (tVar 9) (tCons (tVar 2) (tCons (tVar 7) tNil)))) rfl sc_right.nd (pi_range1 (by rfl) T.n_range (pa_cons pe_int pa_nil)) (blkOk_by (N := N_right) (sc := defScope s_right) (by decide +kernel)) (fun _ _ _ _ _ => pg_name (i := 9) sc_right.nd rfl (.inl rfl)) (fun _ _ _ _ _ => pts_nil) (fun _ _ _ _ _ => (pe_call GV hr (by rfl) T.g_refused T.F_refused.kp T.b_refused .nil pass0 (pa_cons (pv 9) (pa_cons (pv 2) (pa_cons (pv 7) pa_nil)))))) (pa_cons (pe_op op_rep (pe_lst (pa_cons pe_non pa_nil)) pe_int) pa_nil))))) (pss_one (ps_ret pe_bl)) pss_nil))) <|
      pss_one (ps_ret pe_bl), ?_⟩
    refine ⟨_, rfl, b, n + 999, 6, rfl, hB.mono (by omega), by decide, by decide, fun r1 H2 ra3 rb4 hB5 k6 => ?_⟩
    obtain ⟨y_hy7, hy7⟩ := hB.lst
    clear hB
    have hB := hB5
    replace kH := kH.trans k6
    refine ⟨_, _, rfl, rfl, .inl ⟨by omega, by omega⟩, _, _, rfl, rfl, ?_⟩
    have hn : 2 + 2 * r1.toNat ≤ 12 := by omega
    have hn2 : 2 ≤ 2 + 2 * r1.toNat := by omega
    have hev : (2 + 2 * r1.toNat) % 2 = 0 := by omega
    rw [show (fun i j => V.int (i + j)) 2 ((fun i j => i * j) 2 r1) = V.int ((2 + 2 * r1.toNat : Nat) : Int) from congrArg V.int (show (2 + 2 * r1 : Int) = _ by omega)]
    revert hn hn2 hev; generalize 2 + 2 * r1.toNat = N; intro hn hn2 hev
    first | refine st_set [some (.ref b), some (.int (N : Nat)), none, none, none, none, none, none, none, none] ?_ rfl | refine st_eq [some (.ref b), some (.int (N : Nat)), none, none, none, none, none, none, none, none] ?_ rfl
    refine ⟨_, rfl, _, rfl, b, n + 987, N, rfl, hB.mono (by omega), by omega, by omega, fun H8 t9 ps10 hp11 k12 hB13 n14 e_t9 => ?_⟩
    obtain ⟨y_hy15, hy15⟩ := hB.lst
    clear hB
    have hB := hB13
    replace kH := kH.trans k12
    first | refine st_set [some (.ref b), some (.int (N : Nat)), some (.ref t9), none, none, none, none, none, none, none] ?_ rfl | refine st_eq [some (.ref b), some (.int (N : Nat)), some (.ref t9), none, none, none, none, none, none, none] ?_ rfl
    refine ⟨5, rfl, by decide, by decide, ?_⟩
    refine for_range (n := 5) (fun i0 σ H' => Keep b H H' ∧ Box (n + (687 + 60 * (5 - i0))) H' b ∧ H' t9 = some (.tup (nv (ps10))) ∧ ∃ (y_turn y_wrong y_due y_later y_fine y_told : Option V), σ = [some (.ref b), some (.int (N : Nat)), some (.ref t9), y_turn, y_wrong, y_due, y_later, y_fine, y_told, none]) ⟨kH, hB.mono (by omega), e_t9, none, none, none, none, none, none, rfl⟩ (fun i0 σ Hi hi0 hPv => ?_) (fun σ Hi hPv => ?_)
    · obtain ⟨kH, hB, e_t9, y_turn, y_wrong, y_due, y_later, y_fine, y_told, rfl⟩ := hPv
      obtain ⟨m16, hm16⟩ : ∃ z, z = n + (687 + 60 * (5 - (i0 + 1))) := ⟨_, rfl⟩
      replace hB : Box (m16 + 60) Hi b := hB.mono (by omega)
      refine ⟨_, rfl, _, rfl, b, m16 + 50, N, rfl, hB.mono (by omega), by omega, by omega, fun H17 t18 c19 y20 z21 x22 e_t18 e_c19 hbad23 hx24 k25 hB26 => ?_⟩
      obtain ⟨y_hy27, hy27⟩ := hB.lst
      replace e_t9 := k25.tup hy27 e_t9
      clear hB
      have hB := hB26
      replace kH := kH.trans k25
      refine ⟨t18, _, rfl, .inl (.inl e_t18), rfl, _, _, rfl, _, _, rfl, rfl, ?_⟩
      first | refine st_set [some (.ref b), some (.int (N : Nat)), some (.ref t9), some (.int (((0 : Int) + (i0 : Nat)))), some (.ref c19), some (.int (x22)), y_later, y_fine, y_told, none] ?_ rfl | refine st_eq [some (.ref b), some (.int (N : Nat)), some (.ref t9), some (.int (((0 : Int) + (i0 : Nat)))), some (.ref c19), some (.int (x22)), y_later, y_fine, y_told, none] ?_ rfl
      refine ⟨_, rfl, _, rfl, b, m16 + 48, N, rfl, hB.mono (by omega), by omega, by omega, fun H28 t29 x30 y31 h_x30 h_y31 n32 e_t29 k33 hB34 => ?_⟩
      obtain ⟨y_hy35, hy35⟩ := hB.lst
      replace e_t9 := k33.tup hy35 e_t9
      replace e_c19 := k33.tup hy35 e_c19
      clear hB
      have hB := hB34
      replace kH := kH.trans k33
      refine ⟨_, rfl, _, rfl, b, m16 + 38, N, rfl, hB.mono (by omega), by omega, by omega, fun H36 t37 c38 y39 z40 x41 e_t37 e_c38 hbad42 hx43 k44 hB45 => ?_⟩
      obtain ⟨y_hy46, hy46⟩ := hB.lst
      replace e_t9 := k44.tup hy46 e_t9
      replace e_c19 := k44.tup hy46 e_c19
      replace e_t29 := k44.tup hy46 e_t29
      clear hB
      have hB := hB45
      replace kH := kH.trans k44
      refine .inr (.inl ⟨t37, _, 0, V.ref c38, rfl, rfl, .inl (.inl e_t37), rfl, ?_⟩)
      refine ⟨(by show 2 ≤ sizeLine; decide), fun l47 nl47 => ?_⟩
      have ne_l47 : l47 ≠ b := (hB.ne_new nl47).symm
      have s48 : Same H36 (upd H36 l47 (.lst [.ref t29, .ref c38])) := same_new nl47
      have e_l47 : upd H36 l47 (.lst [.ref t29, .ref c38]) l47 = some (.lst [.ref t29, .ref c38]) := upd_same
      revert s48 e_l47; generalize upd H36 l47 (.lst [.ref t29, .ref c38]) = H49; intro s48 e_l47
      replace e_t9 := s48 _ _ e_t9
      replace e_c19 := s48 _ _ e_c19
      replace e_t29 := s48 _ _ e_t29
      replace e_c38 := s48 _ _ e_c38
      replace hB := hB.same s48
      replace kH := kH.trans (Keep.of_same s48)
      refine ⟨_, rfl, b, m16 + 37, 3, rfl, hB.mono (by omega), by decide, by decide, fun r50 H51 ra52 rb53 hB54 k55 => ?_⟩
      obtain ⟨y_hy56, hy56⟩ := hB.lst
      replace e_t9 := k55.tup hy56 e_t9
      replace e_c19 := k55.tup hy56 e_c19
      replace e_t29 := k55.tup hy56 e_t29
      replace e_c38 := k55.tup hy56 e_c38
      replace e_l47 := k55 _ _ ne_l47 e_l47
      clear hB
      have hB := hB54
      replace kH := kH.trans k55
      refine ⟨_, rfl, l47, _, rfl, .inl (.inl e_l47), fun l57 nl57 => ?_⟩
      obtain ⟨us, hus, hud⟩ : ∃ us : List V, cutV [V.ref t29, V.ref c38] none (some r50) = us ∧ (us = [] ∨ us = [.ref t29] ∨ us = [.ref t29, .ref c38]) := by
        rcases (show r50 = 0 ∨ r50 = 1 ∨ r50 = 2 by omega) with z | z | z <;> subst z
        · exact ⟨_, rfl, .inl rfl⟩
        · exact ⟨_, rfl, .inr (.inl rfl)⟩
        · exact ⟨_, rfl, .inr (.inr rfl)⟩
      rw [hus]
      clear hus
      have hul : us.length ≤ 2 := by rcases hud with z | z | z <;> rw [z] <;> simp
      have ne_l57 : l57 ≠ b := (hB.ne_new nl57).symm
      have s58 : Same H51 (upd H51 l57 (.lst us)) := same_new nl57
      have e_l57 : upd H51 l57 (.lst us) l57 = some (.lst us) := upd_same
      revert s58 e_l57; generalize upd H51 l57 (.lst us) = H59; intro s58 e_l57
      replace e_t9 := s58 _ _ e_t9
      replace e_c19 := s58 _ _ e_c19
      replace e_t29 := s58 _ _ e_t29
      replace e_c38 := s58 _ _ e_c38
      replace e_l47 := s58 _ _ e_l47
      replace hB := hB.same s58
      replace kH := kH.trans (Keep.of_same s58)
      first | refine st_set [some (.ref b), some (.int (N : Nat)), some (.ref t9), some (.int (((0 : Int) + (i0 : Nat)))), some (.ref c19), some (.int (x22)), some (.ref l57), y_fine, y_told, none] ?_ rfl | refine st_eq [some (.ref b), some (.int (N : Nat)), some (.ref t9), some (.int (((0 : Int) + (i0 : Nat)))), some (.ref c19), some (.int (x22)), some (.ref l57), y_fine, y_told, none] ?_ rfl
      refine ⟨_, rfl, _, rfl, b, m16 + 17, N, 5, rfl, hB.mono (by omega), by omega, by omega, by decide, fun H60 t61 as62 qs63 hc64 hl65 n66 e_t61 hA_t61 k67 hB68 => ?_⟩
      have ne_t61 : t61 ≠ b := (hB.ne_new n66).symm
      obtain ⟨y_hy69, hy69⟩ := hB.lst
      replace e_t9 := k67.tup hy69 e_t9
      replace e_c19 := k67.tup hy69 e_c19
      replace e_t29 := k67.tup hy69 e_t29
      replace e_c38 := k67.tup hy69 e_c38
      replace e_l57 := k67 _ _ ne_l57 e_l57
      clear hB
      have hB := hB68
      replace kH := kH.trans k67
      refine ⟨_, rfl, _, rfl, b, m16 + 15, N, rfl, hB.mono (by omega), by omega, by omega, fun H70 t71 x72 y73 h_x72 h_y73 n74 e_t71 k75 hB76 => ?_⟩
      obtain ⟨y_hy77, hy77⟩ := hB.lst
      replace e_t9 := k75.tup hy77 e_t9
      replace e_c19 := k75.tup hy77 e_c19
      replace e_t29 := k75.tup hy77 e_t29
      replace e_c38 := k75.tup hy77 e_c38
      replace e_l57 := k75 _ _ ne_l57 e_l57
      replace e_t61 := k75 _ _ ne_t61 e_t61
      replace hA_t61 := prs_keep k75 hy77 hA_t61
      clear hB
      have hB := hB76
      replace kH := kH.trans k75
      refine ⟨(by show 1 ≤ sizeLine; decide), fun l78 nl78 => ?_⟩
      have ne_l78 : l78 ≠ b := (hB.ne_new nl78).symm
      have s79 : Same H70 (upd H70 l78 (.lst [.ref t71])) := same_new nl78
      have e_l78 : upd H70 l78 (.lst [.ref t71]) l78 = some (.lst [.ref t71]) := upd_same
      revert s79 e_l78; generalize upd H70 l78 (.lst [.ref t71]) = H80; intro s79 e_l78
      replace e_t9 := s79 _ _ e_t9
      replace e_c19 := s79 _ _ e_c19
      replace e_t29 := s79 _ _ e_t29
      replace e_c38 := s79 _ _ e_c38
      replace e_l57 := s79 _ _ e_l57
      replace e_t61 := s79 _ _ e_t61
      replace hA_t61 := prs_same s79 hA_t61
      replace e_t71 := s79 _ _ e_t71
      replace hB := hB.same s79
      replace kH := kH.trans (Keep.of_same s79)
      refine ⟨t61, l78, _, _, rfl, rfl, e_t61, e_l78, (by rw [List.length_map, hA_t61.length]; exact Nat.le_of_lt (small1000 (by show qs63.length + 1 ≤ 1000; omega))), fun l81 nl81 => ?_⟩
      rw [show as62.map V.ref ++ [V.ref t71] = (as62 ++ [t71]).map V.ref by rw [List.map_append]; rfl]
      have ne_l81 : l81 ≠ b := (hB.ne_new nl81).symm
      have s82 : Same H80 (upd H80 l81 (.lst ((as62 ++ [t71]).map V.ref))) := same_new nl81
      have e_l81 : upd H80 l81 (.lst ((as62 ++ [t71]).map V.ref)) l81 = some (.lst ((as62 ++ [t71]).map V.ref)) := upd_same
      revert s82 e_l81; generalize upd H80 l81 (.lst ((as62 ++ [t71]).map V.ref)) = H83; intro s82 e_l81
      replace e_t9 := s82 _ _ e_t9
      replace e_c19 := s82 _ _ e_c19
      replace e_t29 := s82 _ _ e_t29
      replace e_c38 := s82 _ _ e_c38
      replace e_l57 := s82 _ _ e_l57
      replace e_t61 := s82 _ _ e_t61
      replace hA_t61 := prs_same s82 hA_t61
      replace e_t71 := s82 _ _ e_t71
      replace e_l78 := s82 _ _ e_l78
      replace hB := hB.same s82
      replace kH := kH.trans (Keep.of_same s82)
      have hA_l81 : Prs H83 (as62 ++ [t71]) (qs63 ++ [(x72, y73)]) := prs_append hA_t61 (.cons e_t71 .nil)
      have hcf : Calls N (qs63 ++ [(x72, y73)]) := calls_app hc64 (fun q hq => by cases List.mem_singleton.mp hq; exact ⟨h_x72, h_y73⟩)
      have hfl : (qs63 ++ [(x72, y73)]).length ≤ 6 ∧ 0 < (qs63 ++ [(x72, y73)]).length := by rw [List.length_append, List.length_singleton]; omega
      first | refine st_set [some (.ref b), some (.int (N : Nat)), some (.ref t9), some (.int (((0 : Int) + (i0 : Nat)))), some (.ref c19), some (.int (x22)), some (.ref l57), some (.ref l81), y_told, none] ?_ rfl | refine st_eq [some (.ref b), some (.int (N : Nat)), some (.ref t9), some (.int (((0 : Int) + (i0 : Nat)))), some (.ref c19), some (.int (x22)), some (.ref l57), some (.ref l81), y_told, none] ?_ rfl
      obtain ⟨qsL, hIL⟩ : ∃ qsL, ItemsZ K H83 us qsL := by
        rcases hud with z | z | z <;> rw [z]
        · exact ⟨[], rfl, fun i v hv => by simp at hv⟩
        · exact ⟨_, itemsZ_one (.inr (.inl (.inl e_t29)))⟩
        · exact ⟨_, itemsZ_two e_t29 e_c38⟩
      refine ⟨6, rfl, by decide, by decide, fun Da nDa => ?_⟩
      refine lc_range (n := 6) (fun i H' => Same H83 H' ∧ H' Da = some (.lst (List.replicate i (.int x22)))) ⟨same_new nDa, upd_same⟩ (fun i H' hi hPv => ?_) (fun H' hPv => ?_)
      · obtain ⟨sm, eD⟩ := hPv
        refine ⟨rfl, yes_if ⟨_, rfl, _, rfl, _, rfl, (by show 1 ≤ sizeLine; decide), fun l nl => ⟨_, rfl, l, l57, _, _, rfl, rfl, upd_same, same_new nl _ _ (sm _ _ e_l57), (by show 1 + us.length ≤ sizeLine; exact Nat.le_of_lt (small1000 (by omega))), fun l2 nl2 => ?_⟩⟩⟩
        have sA := (sm.trans (same_new (o := .lst [V.ref c19]) nl)).trans (same_new (o := .lst ([V.ref c19] ++ us)) nl2)
        refine ⟨(0 : Int) + (i : Nat), t9, l2, ps10, _, [(y20, z21)] ++ qsL, N, x22, rfl, .inr (.inl (.inl (sA _ _ e_t9))), hp11.len, by omega, by omega, .inl (.inl upd_same), itemsZ_app (itemsZ_one (.inr (.inl (.inl (sA _ _ e_c19))))) (hIL.same sA), badW_hit hbad23, by omega, by omega, fun _ => ⟨_, _, rfl, hbad23⟩, fun H6 s6 => ⟨_, s6 _ _ (same_new nl2 _ _ (same_new nl _ _ eD)), ?_, fun z o hz => ?_, ?_⟩⟩
        · rw [List.length_replicate]; exact small1000 (by omega)
        · rw [upd_ne (ne_of_none hz nDa)]; exact s6 _ _ (sA _ _ hz)
        · rw [upd_same, List.replicate_succ']
      obtain ⟨s84, e_Da⟩ := hPv
      replace e_Da : H' Da = some (.lst [V.int x22, V.int x22, V.int x22, V.int x22, V.int x22, V.int x22]) := e_Da
      revert s84 e_Da; generalize H' = H85; intro s84 e_Da
      replace e_t9 := s84 _ _ e_t9
      replace e_c19 := s84 _ _ e_c19
      replace e_l57 := s84 _ _ e_l57
      replace e_l81 := s84 _ _ e_l81
      replace hA_l81 := prs_same s84 hA_l81
      replace hIL := hIL.same s84
      replace hB := hB.same s84
      replace kH := kH.trans (Keep.of_same s84)
      first | refine st_set [some (.ref b), some (.int (N : Nat)), some (.ref t9), some (.int (((0 : Int) + (i0 : Nat)))), some (.ref c19), some (.int (x22)), some (.ref l57), some (.ref l81), some (.ref Da), none] ?_ rfl | refine st_eq [some (.ref b), some (.int (N : Nat)), some (.ref t9), some (.int (((0 : Int) + (i0 : Nat)))), some (.ref c19), some (.int (x22)), some (.ref l57), some (.ref l81), some (.ref Da), none] ?_ rfl
      refine ⟨_, rfl, _, rfl, (by show 1 ≤ sizeLine; decide), fun l86 nl86 => ?_⟩
      have ne_l86 : l86 ≠ b := (hB.ne_new nl86).symm
      have s87 : Same H85 (upd H85 l86 (.lst [.int (x22)])) := same_new nl86
      have e_l86 : upd H85 l86 (.lst [.int (x22)]) l86 = some (.lst [.int (x22)]) := upd_same
      revert s87 e_l86; generalize upd H85 l86 (.lst [.int (x22)]) = H88; intro s87 e_l86
      replace e_t9 := s87 _ _ e_t9
      replace e_c19 := s87 _ _ e_c19
      replace e_l57 := s87 _ _ e_l57
      replace e_l81 := s87 _ _ e_l81
      replace hA_l81 := prs_same s87 hA_l81
      replace e_Da := s87 _ _ e_Da
      replace hIL := hIL.same s87
      replace hB := hB.same s87
      replace kH := kH.trans (Keep.of_same s87)
      refine ⟨l86, 6, _, rfl, rfl, e_l86, by decide, by decide, (by show 1 * 6 ≤ sizeLine; decide), fun l89 nl89 => ?_⟩
      rw [show (List.replicate (Int.toNat 6) [V.int x22]).flatten = [V.int x22, V.int x22, V.int x22, V.int x22, V.int x22, V.int x22] from rfl]
      have ne_l89 : l89 ≠ b := (hB.ne_new nl89).symm
      have s90 : Same H88 (upd H88 l89 (.lst [.int (x22), .int (x22), .int (x22), .int (x22), .int (x22), .int (x22)])) := same_new nl89
      have e_l89 : upd H88 l89 (.lst [.int (x22), .int (x22), .int (x22), .int (x22), .int (x22), .int (x22)]) l89 = some (.lst [.int (x22), .int (x22), .int (x22), .int (x22), .int (x22), .int (x22)]) := upd_same
      revert s90 e_l89; generalize upd H88 l89 (.lst [.int (x22), .int (x22), .int (x22), .int (x22), .int (x22), .int (x22)]) = H91; intro s90 e_l89
      replace e_t9 := s90 _ _ e_t9
      replace e_c19 := s90 _ _ e_c19
      replace e_l57 := s90 _ _ e_l57
      replace e_l81 := s90 _ _ e_l81
      replace hA_l81 := prs_same s90 hA_l81
      replace e_Da := s90 _ _ e_Da
      replace e_l86 := s90 _ _ e_l86
      replace hIL := hIL.same s90
      replace hB := hB.same s90
      replace kH := kH.trans (Keep.of_same s90)
      have fk92 : Fi 1 (.list [.int (x22), .int (x22), .int (x22), .int (x22), .int (x22), .int (x22)]) := fi_list (j := 0) (n := 6) (fa_cons (fi_int (by omega)) (fa_cons (fi_int (by omega)) (fa_cons (fi_int (by omega)) (fa_cons (fi_int (by omega)) (fa_cons (fi_int (by omega)) (fa_cons (fi_int (by omega)) fa_nil)))))) rfl (by decide)
      refine ⟨_, _, _, rfl, .lst (.inl (.inl e_Da)) (.cons (.int _) (.cons (.int _) (.cons (.int _) (.cons (.int _) (.cons (.int _) (.cons (.int _) .nil)))))), .lst (.inl (.inl e_l89)) (.cons (.int _) (.cons (.int _) (.cons (.int _) (.cons (.int _) (.cons (.int _) (.cons (.int _) .nil)))))), Nat.lt_succ_of_le (Nat.le_trans fk92.depth (by decide)), fk92.nar, fun H93 s94 => ?_⟩
      replace e_t9 := s94 _ _ e_t9
      replace e_c19 := s94 _ _ e_c19
      replace e_l57 := s94 _ _ e_l57
      replace e_l81 := s94 _ _ e_l81
      replace hA_l81 := prs_same s94 hA_l81
      replace e_Da := s94 _ _ e_Da
      replace e_l86 := s94 _ _ e_l86
      replace e_l89 := s94 _ _ e_l89
      replace hIL := hIL.same s94
      replace hB := hB.same s94
      replace kH := kH.trans (Keep.of_same s94)
      refine ⟨true, rfl, iteN ?_⟩
      refine ⟨(by show 4 ≤ sizeLine; decide), fun l95 nl95 => ?_⟩
      have s96 : Same H93 (upd H93 l95 (.tup [.int (1), .int (2), .int (3), .int (5)])) := same_new nl95
      have e_l95 : upd H93 l95 (.tup [.int (1), .int (2), .int (3), .int (5)]) l95 = some (.tup [.int (1), .int (2), .int (3), .int (5)]) := upd_same
      revert s96 e_l95; generalize upd H93 l95 (.tup [.int (1), .int (2), .int (3), .int (5)]) = H97; intro s96 e_l95
      replace e_t9 := s96 _ _ e_t9
      replace e_c19 := s96 _ _ e_c19
      replace e_l57 := s96 _ _ e_l57
      replace e_l81 := s96 _ _ e_l81
      replace hA_l81 := prs_same s96 hA_l81
      replace hIL := hIL.same s96
      replace hB := hB.same s96
      replace kH := kH.trans (Keep.of_same s96)
      refine ⟨l95, rfl, ⟨_, .inl (.inl e_l95)⟩, fun Db nDb => ?_⟩
      refine lc_tup (xs := [V.int 1, V.int 2, V.int 3, V.int 5]) (fun i H' => Same H97 H' ∧ H' Db = some (.lst (List.replicate i (.int x22)))) ⟨same_new nDb, upd_same⟩ (fun i H' _ h => .inl (.inl (h.1 _ _ e_l95))) (fun i v H' hv hPv => ?_) (fun H' hPv => ?_)
      · obtain ⟨sm, eD⟩ := hPv
        have hi : i < 4 := get_lt hv
        obtain ⟨u, rfl, hu⟩ : ∃ u : Int, v = .int u ∧ 0 ≤ u ∧ u < 6 ∧ ¬ (u = 0 ∨ u = 4) := by
          rcases (show i = 0 ∨ i = 1 ∨ i = 2 ∨ i = 3 by omega) with z | z | z | z <;> subst z <;> exact ⟨_, (Option.some.inj hv).symm, by omega, by omega, by omega⟩
        refine ⟨rfl, yes_if ⟨_, rfl, _, rfl, _, rfl, _, rfl, (by show 1 ≤ sizeLine; decide), fun l nl => ⟨l81, l, _, _, rfl, rfl, same_new nl _ _ (sm _ _ e_l81), upd_same, (by rw [List.length_map, hA_l81.length]; exact Nat.le_of_lt (small1000 (by show (_ : List (Nat × Nat)).length + 1 ≤ 1000; omega))), fun l2 nl2 => ⟨_, rfl, l2, l57, _, _, rfl, rfl, upd_same, same_new nl2 _ _ (same_new nl _ _ (sm _ _ e_l57)), (by rw [List.length_append, List.length_map, hA_l81.length]; exact Nat.le_of_lt (small1000 (by show (_ : List (Nat × Nat)).length + 1 + us.length ≤ 1000; omega))), fun l3 nl3 => ?_⟩⟩⟩⟩
        have sA := ((sm.trans (same_new (o := .lst [V.ref c19]) nl)).trans (same_new (o := .lst ((as62 ++ [t71]).map V.ref ++ [V.ref c19])) nl2)).trans (same_new (o := .lst ((as62 ++ [t71]).map V.ref ++ [V.ref c19] ++ us)) nl3)
        refine ⟨u, t9, l3, ps10, _, (qs63 ++ [(x72, y73)]).map zz ++ [(y20, z21)] ++ qsL, N, x22, rfl, .inr (.inl (.inl (sA _ _ e_t9))), hp11.len, by omega, by omega, .inl (.inl upd_same), itemsZ_app (itemsZ_app (itemsZ_prs (prs_same sA hA_l81)) (itemsZ_one (.inr (.inl (.inl (sA _ _ e_c19)))))) (hIL.same sA), (by rw [List.append_assoc, badW_zz hcf]; exact badW_hit hbad23), hu.1, hu.2.1, fun z => absurd z hu.2.2, fun H6 s6 => ⟨_, s6 _ _ (same_new nl3 _ _ (same_new nl2 _ _ (same_new nl _ _ eD))), ?_, fun z o hz => ?_, ?_⟩⟩
        · rw [List.length_replicate]; exact small1000 (by omega)
        · rw [upd_ne (ne_of_none hz nDb)]; exact s6 _ _ (sA _ _ hz)
        · rw [upd_same, List.replicate_succ']
      clear e_l95
      obtain ⟨s98, e_Db⟩ := hPv
      replace e_Db : H' Db = some (.lst [V.int x22, V.int x22, V.int x22, V.int x22]) := e_Db
      revert s98 e_Db; generalize H' = H99; intro s98 e_Db
      replace e_t9 := s98 _ _ e_t9
      replace e_c19 := s98 _ _ e_c19
      replace e_l57 := s98 _ _ e_l57
      replace e_l81 := s98 _ _ e_l81
      replace hA_l81 := prs_same s98 hA_l81
      replace hIL := hIL.same s98
      replace hB := hB.same s98
      replace kH := kH.trans (Keep.of_same s98)
      first | refine st_set [some (.ref b), some (.int (N : Nat)), some (.ref t9), some (.int (((0 : Int) + (i0 : Nat)))), some (.ref c19), some (.int (x22)), some (.ref l57), some (.ref l81), some (.ref Db), none] ?_ rfl | refine st_eq [some (.ref b), some (.int (N : Nat)), some (.ref t9), some (.int (((0 : Int) + (i0 : Nat)))), some (.ref c19), some (.int (x22)), some (.ref l57), some (.ref l81), some (.ref Db), none] ?_ rfl
      refine ⟨_, rfl, _, rfl, (by show 1 ≤ sizeLine; decide), fun l100 nl100 => ?_⟩
      have ne_l100 : l100 ≠ b := (hB.ne_new nl100).symm
      have s101 : Same H99 (upd H99 l100 (.lst [.int (x22)])) := same_new nl100
      have e_l100 : upd H99 l100 (.lst [.int (x22)]) l100 = some (.lst [.int (x22)]) := upd_same
      revert s101 e_l100; generalize upd H99 l100 (.lst [.int (x22)]) = H102; intro s101 e_l100
      replace e_t9 := s101 _ _ e_t9
      replace e_c19 := s101 _ _ e_c19
      replace e_l57 := s101 _ _ e_l57
      replace e_l81 := s101 _ _ e_l81
      replace hA_l81 := prs_same s101 hA_l81
      replace e_Db := s101 _ _ e_Db
      replace hIL := hIL.same s101
      replace hB := hB.same s101
      replace kH := kH.trans (Keep.of_same s101)
      refine ⟨l100, 4, _, rfl, rfl, e_l100, by decide, by decide, (by show 1 * 4 ≤ sizeLine; decide), fun l103 nl103 => ?_⟩
      rw [show (List.replicate (Int.toNat 4) [V.int x22]).flatten = [V.int x22, V.int x22, V.int x22, V.int x22] from rfl]
      have ne_l103 : l103 ≠ b := (hB.ne_new nl103).symm
      have s104 : Same H102 (upd H102 l103 (.lst [.int (x22), .int (x22), .int (x22), .int (x22)])) := same_new nl103
      have e_l103 : upd H102 l103 (.lst [.int (x22), .int (x22), .int (x22), .int (x22)]) l103 = some (.lst [.int (x22), .int (x22), .int (x22), .int (x22)]) := upd_same
      revert s104 e_l103; generalize upd H102 l103 (.lst [.int (x22), .int (x22), .int (x22), .int (x22)]) = H105; intro s104 e_l103
      replace e_t9 := s104 _ _ e_t9
      replace e_c19 := s104 _ _ e_c19
      replace e_l57 := s104 _ _ e_l57
      replace e_l81 := s104 _ _ e_l81
      replace hA_l81 := prs_same s104 hA_l81
      replace e_Db := s104 _ _ e_Db
      replace e_l100 := s104 _ _ e_l100
      replace hIL := hIL.same s104
      replace hB := hB.same s104
      replace kH := kH.trans (Keep.of_same s104)
      have fk106 : Fi 1 (.list [.int (x22), .int (x22), .int (x22), .int (x22)]) := fi_list (j := 0) (n := 4) (fa_cons (fi_int (by omega)) (fa_cons (fi_int (by omega)) (fa_cons (fi_int (by omega)) (fa_cons (fi_int (by omega)) fa_nil)))) rfl (by decide)
      refine ⟨_, _, _, rfl, .lst (.inl (.inl e_Db)) (.cons (.int _) (.cons (.int _) (.cons (.int _) (.cons (.int _) .nil)))), .lst (.inl (.inl e_l103)) (.cons (.int _) (.cons (.int _) (.cons (.int _) (.cons (.int _) .nil)))), Nat.lt_succ_of_le (Nat.le_trans fk106.depth (by decide)), fk106.nar, fun H107 s108 => ?_⟩
      replace e_t9 := s108 _ _ e_t9
      replace e_c19 := s108 _ _ e_c19
      replace e_l57 := s108 _ _ e_l57
      replace e_l81 := s108 _ _ e_l81
      replace hA_l81 := prs_same s108 hA_l81
      replace e_Db := s108 _ _ e_Db
      replace e_l100 := s108 _ _ e_l100
      replace e_l103 := s108 _ _ e_l103
      replace hIL := hIL.same s108
      replace hB := hB.same s108
      replace kH := kH.trans (Keep.of_same s108)
      refine ⟨true, rfl, iteN ?_⟩
      refine ⟨6, rfl, by decide, by decide, fun Dc nDc => ?_⟩
      refine lc_range (n := 6) (fun i H' => Same H107 H' ∧ H' Dc = some (.lst (List.replicate i .non))) ⟨same_new nDc, upd_same⟩ (fun i H' hi hPv => ?_) (fun H' hPv => ?_)
      · obtain ⟨sm, eD⟩ := hPv
        refine ⟨rfl, yes_if ⟨_, rfl, _, rfl, _, rfl, (0 : Int) + (i : Nat), t9, l81, ps10, _, (qs63 ++ [(x72, y73)]), N, rfl, .inr (.inl (.inl (sm _ _ e_t9))), hp11, by omega, by omega, .inl (.inl (sm _ _ e_l81)), items_of (prs_same sm hA_l81), hcf, hfl.2, by omega, by omega, by omega, fun H6 s6 => ⟨_, s6 _ _ eD, ?_, fun z o hz => ?_, ?_⟩⟩⟩
        · rw [List.length_replicate]; exact small1000 (by omega)
        · rw [upd_ne (ne_of_none hz nDc)]; exact s6 _ _ (sm _ _ hz)
        · rw [upd_same, List.replicate_succ']
      obtain ⟨s109, e_Dc⟩ := hPv
      replace e_Dc : H' Dc = some (.lst [V.non, V.non, V.non, V.non, V.non, V.non]) := e_Dc
      revert s109 e_Dc; generalize H' = H110; intro s109 e_Dc
      replace e_t9 := s109 _ _ e_t9
      replace e_l81 := s109 _ _ e_l81
      replace hA_l81 := prs_same s109 hA_l81
      replace hB := hB.same s109
      replace kH := kH.trans (Keep.of_same s109)
      refine ⟨(by show 1 ≤ sizeLine; decide), fun l111 nl111 => ?_⟩
      have ne_l111 : l111 ≠ b := (hB.ne_new nl111).symm
      have s112 : Same H110 (upd H110 l111 (.lst [.non])) := same_new nl111
      have e_l111 : upd H110 l111 (.lst [.non]) l111 = some (.lst [.non]) := upd_same
      revert s112 e_l111; generalize upd H110 l111 (.lst [.non]) = H113; intro s112 e_l111
      replace e_t9 := s112 _ _ e_t9
      replace e_l81 := s112 _ _ e_l81
      replace hA_l81 := prs_same s112 hA_l81
      replace e_Dc := s112 _ _ e_Dc
      replace hB := hB.same s112
      replace kH := kH.trans (Keep.of_same s112)
      refine ⟨l111, 6, _, rfl, rfl, e_l111, by decide, by decide, (by show 1 * 6 ≤ sizeLine; decide), fun l114 nl114 => ?_⟩
      rw [show (List.replicate (Int.toNat 6) [V.non]).flatten = [V.non, V.non, V.non, V.non, V.non, V.non] from rfl]
      have ne_l114 : l114 ≠ b := (hB.ne_new nl114).symm
      have s115 : Same H113 (upd H113 l114 (.lst [.non, .non, .non, .non, .non, .non])) := same_new nl114
      have e_l114 : upd H113 l114 (.lst [.non, .non, .non, .non, .non, .non]) l114 = some (.lst [.non, .non, .non, .non, .non, .non]) := upd_same
      revert s115 e_l114; generalize upd H113 l114 (.lst [.non, .non, .non, .non, .non, .non]) = H116; intro s115 e_l114
      replace e_t9 := s115 _ _ e_t9
      replace e_l81 := s115 _ _ e_l81
      replace hA_l81 := prs_same s115 hA_l81
      replace e_Dc := s115 _ _ e_Dc
      replace e_l111 := s115 _ _ e_l111
      replace hB := hB.same s115
      replace kH := kH.trans (Keep.of_same s115)
      have fk117 : Fi 1 (.list [.none, .none, .none, .none, .none, .none]) := fi_list (j := 0) (n := 6) (fa_cons (fi_non) (fa_cons (fi_non) (fa_cons (fi_non) (fa_cons (fi_non) (fa_cons (fi_non) (fa_cons (fi_non) fa_nil)))))) rfl (by decide)
      refine ⟨_, _, _, rfl, .lst (.inl (.inl e_Dc)) (.cons (.non) (.cons (.non) (.cons (.non) (.cons (.non) (.cons (.non) (.cons (.non) .nil)))))), .lst (.inl (.inl e_l114)) (.cons (.non) (.cons (.non) (.cons (.non) (.cons (.non) (.cons (.non) (.cons (.non) .nil)))))), Nat.lt_succ_of_le (Nat.le_trans fk117.depth (by decide)), fk117.nar, fun H118 s119 => ?_⟩
      replace e_t9 := s119 _ _ e_t9
      replace e_l81 := s119 _ _ e_l81
      replace hA_l81 := prs_same s119 hA_l81
      replace e_Dc := s119 _ _ e_Dc
      replace e_l111 := s119 _ _ e_l111
      replace e_l114 := s119 _ _ e_l114
      replace hB := hB.same s119
      replace kH := kH.trans (Keep.of_same s119)
      refine ⟨true, rfl, iteN ?_⟩
      exact ⟨kH, hB.mono (by omega), e_t9, _, _, _, _, _, _, rfl⟩
    obtain ⟨kH, hB, e_t9, y_turn, y_wrong, y_due, y_later, y_fine, y_told, rfl⟩ := hPv
    replace hB : Box (n + 687) Hi b := hB.mono (by omega)
    exact q _ kH (hB.mono (by omega))
end
end Pc
namespace Pc
open PySem PySem.Spec PyProof.Rows L2 RZ
section
variable {P : Program} {w : World} {K : PySem.W.Frag} {mg : Str → Option Value} {base : Heap}
/-! ### the law -/
def spLaw (K : PySem.W.Frag) : Sp := fun vs H Q _ => ∃ (a : Addr) (ns : List Int), vs = [.ref a] ∧ SqL K H a (ns.map V.int) ∧ ns.length ≤ 63 ∧ ∀ H', Q (.bl true) H'
theorem ok_law (T : Env K mg) {f : Addr} {fd : FuncData} (F : Fun K "law" "law" s_law f fd) : FnOk P w K mg base CX0 11 f fd ["_law_script"] (spLaw K) := by
  have GC : FnOk P w K mg base CX0 1 T.f_cells T.d_cells ["_law_script", "_law_most"] (spCells K) := ok_cells T
  have GB : FnOk P w K mg base CX0 1 T.f_box T.d_box ["_law_script", "_law_k"] (spBox K) := ok_box T
  have GR : FnOk P w K mg base CX0 10 T.f_right T.d_right ["_law_box_here"] spRight := ok_right T
  refine F.ok sc_law (fun vs H Q E h => ?_) (fun cdv A outer s H vs Q E hr h => ?_)
  · obtain ⟨a, ns, rfl, _⟩ := h
    rfl
  · obtain ⟨a, ns, rfl, hS, hn, q⟩ := h
    have h1 := hr.mono (show 1 ≤ 10 by decide)
    refine ⟨_, pss_cons (ps_set (i := 1) sc_law.nd rfl (.inl rfl) (pe_call GC h1 (by rfl) T.g_cells T.F_cells.kp T.b_cells .nil pass0 (pa_cons (pv 0) (pa_cons pe_int pa_nil)))) <|
      pss_cons (ps_for PassesOwn.never rfl (pi_range1 (by rfl) T.n_range (pa_cons (pe_callB call_len_seq (by rfl) T.n_len PySem.boot_len (pa_cons (pv 1) pa_nil)) pa_nil)) (pg_name (i := 2) sc_law.nd rfl (.inl rfl))
        (pss_cons (ps_set (i := 3) sc_law.nd rfl (.inr rfl) (pe_call GB h1 (by rfl) T.g_box T.F_box.kp T.b_box .nil pass0 (pa_cons (pv 1) (pa_cons (pv 2) pa_nil))))
        (pss_one (ps_if (pt_not (pt_val (pe_callB (cr_all rfl) (by rfl) T.n_all (by decide +kernel) (pa_cons
          (pe_lc (own := [("_law_turn", 4)]) (g := gName 4) (tt := tYes) rfl sc_law.nd (pi_range1 (by rfl) T.n_range (pa_cons pe_int pa_nil)) (blkOk_by (N := N_law) (sc := defScope s_law) (by decide +kernel))
            (fun _ _ _ _ _ => pg_name (i := 4) sc_law.nd rfl (.inl rfl)) (fun _ _ _ _ _ => pts_nil)
            (fun _ _ _ _ _ => pe_call GR hr (by rfl) T.g_right T.F_right.kp T.b_right .nil pass0 (pa_cons (pv 3) pa_nil))) pa_nil)))) (pss_one (ps_ret pe_bl)) pss_nil)))) <|
      pss_one (ps_ret pe_bl), ?_⟩
    refine ⟨.ref a, rfl, a, ns, 3, rfl, hS, hn, by decide, by decide, fun Hc p cs sc np ep hc1 hc2 => ?_⟩
    have hlen : (cs.map V.int).length = cs.length := List.length_map _
    refine ⟨.ref p, rfl, p, _, rfl, .inl (.inl (.inl ep)), _, rfl, by omega, by omega, ?_⟩
    have hj : ((cs.map V.int).length : Int).toNat = cs.length := by rw [hlen]; rfl
    rw [hj]
    refine for_range (fun i σ H' => H' p = some (.lst (cs.map V.int)) ∧ ∃ (y2 y3 y4 : Option V), σ = [some (.ref a), some (.ref p), y2, y3, y4]) ⟨ep, none, none, none, rfl⟩ (fun i σ H1 hi hPv => ?_) (fun σ H' hPv => q _)
    obtain ⟨ep1, y2, y3, y4, rfl⟩ := hPv
    refine ⟨.ref p, rfl, _, rfl, p, cs, i, ?_, .inl (.inl ep1), by omega, fun Hb b sb nb hBb => ?_⟩
    · show [V.ref p, V.int ((0 : Int) + (i : Nat))] = _
      rw [Int.zero_add]
    have epb := sb _ _ ep1
    have pb : p ≠ b := ne_of_none ep1 nb
    refine ⟨2, rfl, by decide, by decide, fun D nD => ?_⟩
    have bD : b ≠ D := hBb.ne_new nD
    have pD : p ≠ D := ne_of_none epb nD
    refine lc_range (n := 2) (fun j H' => H' p = some (.lst (cs.map V.int)) ∧ Box (1000 * (2 - j)) H' b ∧ H' D = some (.lst (List.replicate j (.bl true))))
      ⟨same_new nD _ _ epb, (hBb.same (same_new nD)).mono (by decide), upd_same⟩ (fun j H' hj hPv => ?_) (fun H' hPv => ?_)
    · obtain ⟨ep', hB', eD⟩ := hPv
      refine ⟨rfl, yes_if ⟨_, rfl, b, 1000 * (2 - (j + 1)), rfl, hB'.mono (by omega), fun H2 k2 hB2 => ⟨_, k2 _ _ bD.symm eD, ?_, ?_, ?_, ?_⟩⟩⟩
      · rw [List.length_replicate]; exact small1000 (by omega)
      · rw [upd_ne pD]; exact k2 _ _ pb ep'
      · exact hB2.keep (c := D) keep_upd bD
      · rw [upd_same, List.replicate_succ']
    · obtain ⟨ep', hB', eD⟩ := hPv
      refine ⟨D, List.replicate 2 true, rfl, by rw [List.map_replicate]; exact .inl (.inl eD), _, rfl, ?_⟩
      rw [all_rep]
      exact iteN ⟨ep', _, _, _, rfl⟩
end
end Pc
namespace Pc
open PySem PySem.Spec PyProof.Rows L2 RZ
theorem all_mk {l : PySem.W.OpenLaw} {w : World} {K : PySem.W.Frag} {h : Heap} {mg : Str → Option Value} {fa f_p_check_person f_p_check_call f_p_check_word f_p_join_two f_p_called f_p_called_all f_p_pairings_along f_p_idle_calls f_p_people_of f_p_empty_sheet f_p_with_word f_p_sheet_of f_p_with_call f_box f_take f_cells f_of f_strewn f_same f_paired f_random f_any_call f_some_calls f_sheet_of f_asked f_refused f_wrong_call f_right f_law C_NoPerson C_NoNumber C_NotShortest C_OtherSize f_i_NoPerson : Addr} (X : K.In h) (G : h.Ns mainGlobals mg) (hfa : mg "law" = some (.ref fa))
    {od_p_check_person an_p_check_person : Option Addr} {sl_p_check_person : Array (Option Value)} {oc_p_check_person kV_p_check_person dc_p_check_person pm_p_check_person cd_p_check_person ct_p_check_person : Value}
    {od_p_check_call an_p_check_call : Option Addr} {sl_p_check_call : Array (Option Value)} {oc_p_check_call kV_p_check_call dc_p_check_call pm_p_check_call cd_p_check_call ct_p_check_call : Value}
    {od_p_check_word an_p_check_word : Option Addr} {sl_p_check_word : Array (Option Value)} {oc_p_check_word kV_p_check_word dc_p_check_word pm_p_check_word cd_p_check_word ct_p_check_word : Value}
    {od_p_join_two an_p_join_two : Option Addr} {sl_p_join_two : Array (Option Value)} {oc_p_join_two kV_p_join_two dc_p_join_two pm_p_join_two cd_p_join_two ct_p_join_two : Value}
    {od_p_called an_p_called : Option Addr} {sl_p_called : Array (Option Value)} {oc_p_called kV_p_called dc_p_called pm_p_called cd_p_called ct_p_called : Value}
    {od_p_called_all an_p_called_all : Option Addr} {sl_p_called_all : Array (Option Value)} {oc_p_called_all kV_p_called_all dc_p_called_all pm_p_called_all cd_p_called_all ct_p_called_all : Value}
    {od_p_pairings_along an_p_pairings_along : Option Addr} {sl_p_pairings_along : Array (Option Value)} {oc_p_pairings_along kV_p_pairings_along dc_p_pairings_along pm_p_pairings_along cd_p_pairings_along ct_p_pairings_along : Value}
    {od_p_idle_calls an_p_idle_calls : Option Addr} {sl_p_idle_calls : Array (Option Value)} {oc_p_idle_calls kV_p_idle_calls dc_p_idle_calls pm_p_idle_calls cd_p_idle_calls ct_p_idle_calls : Value}
    {od_p_people_of an_p_people_of : Option Addr} {sl_p_people_of : Array (Option Value)} {oc_p_people_of kV_p_people_of dc_p_people_of pm_p_people_of cd_p_people_of ct_p_people_of : Value}
    {od_p_empty_sheet an_p_empty_sheet : Option Addr} {sl_p_empty_sheet : Array (Option Value)} {oc_p_empty_sheet kV_p_empty_sheet dc_p_empty_sheet pm_p_empty_sheet cd_p_empty_sheet ct_p_empty_sheet : Value}
    {od_p_with_word an_p_with_word : Option Addr} {sl_p_with_word : Array (Option Value)} {oc_p_with_word kV_p_with_word dc_p_with_word pm_p_with_word cd_p_with_word ct_p_with_word : Value}
    {od_p_sheet_of an_p_sheet_of : Option Addr} {sl_p_sheet_of : Array (Option Value)} {oc_p_sheet_of kV_p_sheet_of dc_p_sheet_of pm_p_sheet_of cd_p_sheet_of ct_p_sheet_of : Value}
    {od_p_with_call an_p_with_call : Option Addr} {sl_p_with_call : Array (Option Value)} {oc_p_with_call kV_p_with_call dc_p_with_call pm_p_with_call cd_p_with_call ct_p_with_call : Value}
    {od_box an_box : Option Addr} {sl_box : Array (Option Value)} {oc_box kV_box dc_box pm_box cd_box ct_box : Value}
    {od_take an_take : Option Addr} {sl_take : Array (Option Value)} {oc_take kV_take dc_take pm_take cd_take ct_take : Value}
    {od_cells an_cells : Option Addr} {sl_cells : Array (Option Value)} {oc_cells kV_cells dc_cells pm_cells cd_cells ct_cells : Value}
    {od_of an_of : Option Addr} {sl_of : Array (Option Value)} {oc_of kV_of dc_of pm_of cd_of ct_of : Value}
    {od_strewn an_strewn : Option Addr} {sl_strewn : Array (Option Value)} {oc_strewn kV_strewn dc_strewn pm_strewn cd_strewn ct_strewn : Value}
    {od_same an_same : Option Addr} {sl_same : Array (Option Value)} {oc_same kV_same dc_same pm_same cd_same ct_same : Value}
    {od_paired an_paired : Option Addr} {sl_paired : Array (Option Value)} {oc_paired kV_paired dc_paired pm_paired cd_paired ct_paired : Value}
    {od_random an_random : Option Addr} {sl_random : Array (Option Value)} {oc_random kV_random dc_random pm_random cd_random ct_random : Value}
    {od_any_call an_any_call : Option Addr} {sl_any_call : Array (Option Value)} {oc_any_call kV_any_call dc_any_call pm_any_call cd_any_call ct_any_call : Value}
    {od_some_calls an_some_calls : Option Addr} {sl_some_calls : Array (Option Value)} {oc_some_calls kV_some_calls dc_some_calls pm_some_calls cd_some_calls ct_some_calls : Value}
    {od_sheet_of an_sheet_of : Option Addr} {sl_sheet_of : Array (Option Value)} {oc_sheet_of kV_sheet_of dc_sheet_of pm_sheet_of cd_sheet_of ct_sheet_of : Value}
    {od_asked an_asked : Option Addr} {sl_asked : Array (Option Value)} {oc_asked kV_asked dc_asked pm_asked cd_asked ct_asked : Value}
    {od_refused an_refused : Option Addr} {sl_refused : Array (Option Value)} {oc_refused kV_refused dc_refused pm_refused cd_refused ct_refused : Value}
    {od_wrong_call an_wrong_call : Option Addr} {sl_wrong_call : Array (Option Value)} {oc_wrong_call kV_wrong_call dc_wrong_call pm_wrong_call cd_wrong_call ct_wrong_call : Value}
    {od_right an_right : Option Addr} {sl_right : Array (Option Value)} {oc_right kV_right dc_right pm_right cd_right ct_right : Value}
    {od_law an_law : Option Addr} {sl_law : Array (Option Value)} {oc_law kV_law dc_law pm_law cd_law ct_law : Value}
    {nm_NoPerson qn_NoPerson : Str} {Nn_NoPerson : Addr} {bs_NoPerson : List Value} {sn_NoPerson : List Str} {sub_NoPerson : List Value} {ab_NoPerson : Bool} {col_NoPerson : Option Bool} {dd_NoPerson : Option Addr} {m0_NoPerson m1_NoPerson m2_NoPerson m3_NoPerson m5_NoPerson : Option Value} {od_i_NoPerson an_i_NoPerson : Option Addr} {sl_i_NoPerson : Array (Option Value)} {oc_i_NoPerson kV_i_NoPerson dc_i_NoPerson pm_i_NoPerson cd_i_NoPerson ct_i_NoPerson : Value}
    (a_p_check_person : PySem.W.nsIn K mainGlobals "check_person" = some (some (.ref f_p_check_person))) (l_p_check_person : K.lookup f_p_check_person = some ⟨oc_p_check_person, od_p_check_person, .func (PySem.W.fnOf "check_person" "check_person" (defArgs s_p_check_person) (defBody s_p_check_person) (defScope s_p_check_person) .none kV_p_check_person dc_p_check_person pm_p_check_person an_p_check_person cd_p_check_person ct_p_check_person), sl_p_check_person⟩) (c_p_check_person : PySem.W.codeIn K cd_p_check_person "check_person" = true) (k_p_check_person : PySem.W.keepIn K (.ref f_p_check_person) = true)
    (a_p_check_call : PySem.W.nsIn K mainGlobals "check_call" = some (some (.ref f_p_check_call))) (l_p_check_call : K.lookup f_p_check_call = some ⟨oc_p_check_call, od_p_check_call, .func (PySem.W.fnOf "check_call" "check_call" (defArgs s_p_check_call) (defBody s_p_check_call) (defScope s_p_check_call) .none kV_p_check_call dc_p_check_call pm_p_check_call an_p_check_call cd_p_check_call ct_p_check_call), sl_p_check_call⟩) (c_p_check_call : PySem.W.codeIn K cd_p_check_call "check_call" = true) (k_p_check_call : PySem.W.keepIn K (.ref f_p_check_call) = true)
    (a_p_check_word : PySem.W.nsIn K mainGlobals "check_word" = some (some (.ref f_p_check_word))) (l_p_check_word : K.lookup f_p_check_word = some ⟨oc_p_check_word, od_p_check_word, .func (PySem.W.fnOf "check_word" "check_word" (defArgs s_p_check_word) (defBody s_p_check_word) (defScope s_p_check_word) .none kV_p_check_word dc_p_check_word pm_p_check_word an_p_check_word cd_p_check_word ct_p_check_word), sl_p_check_word⟩) (c_p_check_word : PySem.W.codeIn K cd_p_check_word "check_word" = true) (k_p_check_word : PySem.W.keepIn K (.ref f_p_check_word) = true)
    (a_p_join_two : PySem.W.nsIn K mainGlobals "join_two" = some (some (.ref f_p_join_two))) (l_p_join_two : K.lookup f_p_join_two = some ⟨oc_p_join_two, od_p_join_two, .func (PySem.W.fnOf "join_two" "join_two" (defArgs s_p_join_two) (defBody s_p_join_two) (defScope s_p_join_two) .none kV_p_join_two dc_p_join_two pm_p_join_two an_p_join_two cd_p_join_two ct_p_join_two), sl_p_join_two⟩) (c_p_join_two : PySem.W.codeIn K cd_p_join_two "join_two" = true) (k_p_join_two : PySem.W.keepIn K (.ref f_p_join_two) = true)
    (a_p_called : PySem.W.nsIn K mainGlobals "called" = some (some (.ref f_p_called))) (l_p_called : K.lookup f_p_called = some ⟨oc_p_called, od_p_called, .func (PySem.W.fnOf "called" "called" (defArgs s_p_called) (defBody s_p_called) (defScope s_p_called) .none kV_p_called dc_p_called pm_p_called an_p_called cd_p_called ct_p_called), sl_p_called⟩) (c_p_called : PySem.W.codeIn K cd_p_called "called" = true) (k_p_called : PySem.W.keepIn K (.ref f_p_called) = true)
    (a_p_called_all : PySem.W.nsIn K mainGlobals "called_all" = some (some (.ref f_p_called_all))) (l_p_called_all : K.lookup f_p_called_all = some ⟨oc_p_called_all, od_p_called_all, .func (PySem.W.fnOf "called_all" "called_all" (defArgs s_p_called_all) (defBody s_p_called_all) (defScope s_p_called_all) .none kV_p_called_all dc_p_called_all pm_p_called_all an_p_called_all cd_p_called_all ct_p_called_all), sl_p_called_all⟩) (c_p_called_all : PySem.W.codeIn K cd_p_called_all "called_all" = true) (k_p_called_all : PySem.W.keepIn K (.ref f_p_called_all) = true)
    (a_p_pairings_along : PySem.W.nsIn K mainGlobals "pairings_along" = some (some (.ref f_p_pairings_along))) (l_p_pairings_along : K.lookup f_p_pairings_along = some ⟨oc_p_pairings_along, od_p_pairings_along, .func (PySem.W.fnOf "pairings_along" "pairings_along" (defArgs s_p_pairings_along) (defBody s_p_pairings_along) (defScope s_p_pairings_along) .none kV_p_pairings_along dc_p_pairings_along pm_p_pairings_along an_p_pairings_along cd_p_pairings_along ct_p_pairings_along), sl_p_pairings_along⟩) (c_p_pairings_along : PySem.W.codeIn K cd_p_pairings_along "pairings_along" = true) (k_p_pairings_along : PySem.W.keepIn K (.ref f_p_pairings_along) = true)
    (a_p_idle_calls : PySem.W.nsIn K mainGlobals "idle_calls" = some (some (.ref f_p_idle_calls))) (l_p_idle_calls : K.lookup f_p_idle_calls = some ⟨oc_p_idle_calls, od_p_idle_calls, .func (PySem.W.fnOf "idle_calls" "idle_calls" (defArgs s_p_idle_calls) (defBody s_p_idle_calls) (defScope s_p_idle_calls) .none kV_p_idle_calls dc_p_idle_calls pm_p_idle_calls an_p_idle_calls cd_p_idle_calls ct_p_idle_calls), sl_p_idle_calls⟩) (c_p_idle_calls : PySem.W.codeIn K cd_p_idle_calls "idle_calls" = true) (k_p_idle_calls : PySem.W.keepIn K (.ref f_p_idle_calls) = true)
    (a_p_people_of : PySem.W.nsIn K mainGlobals "people_of" = some (some (.ref f_p_people_of))) (l_p_people_of : K.lookup f_p_people_of = some ⟨oc_p_people_of, od_p_people_of, .func (PySem.W.fnOf "people_of" "people_of" (defArgs s_p_people_of) (defBody s_p_people_of) (defScope s_p_people_of) .none kV_p_people_of dc_p_people_of pm_p_people_of an_p_people_of cd_p_people_of ct_p_people_of), sl_p_people_of⟩) (c_p_people_of : PySem.W.codeIn K cd_p_people_of "people_of" = true) (k_p_people_of : PySem.W.keepIn K (.ref f_p_people_of) = true)
    (a_p_empty_sheet : PySem.W.nsIn K mainGlobals "empty_sheet" = some (some (.ref f_p_empty_sheet))) (l_p_empty_sheet : K.lookup f_p_empty_sheet = some ⟨oc_p_empty_sheet, od_p_empty_sheet, .func (PySem.W.fnOf "empty_sheet" "empty_sheet" (defArgs s_p_empty_sheet) (defBody s_p_empty_sheet) (defScope s_p_empty_sheet) .none kV_p_empty_sheet dc_p_empty_sheet pm_p_empty_sheet an_p_empty_sheet cd_p_empty_sheet ct_p_empty_sheet), sl_p_empty_sheet⟩) (c_p_empty_sheet : PySem.W.codeIn K cd_p_empty_sheet "empty_sheet" = true) (k_p_empty_sheet : PySem.W.keepIn K (.ref f_p_empty_sheet) = true)
    (a_p_with_word : PySem.W.nsIn K mainGlobals "with_word" = some (some (.ref f_p_with_word))) (l_p_with_word : K.lookup f_p_with_word = some ⟨oc_p_with_word, od_p_with_word, .func (PySem.W.fnOf "with_word" "with_word" (defArgs s_p_with_word) (defBody s_p_with_word) (defScope s_p_with_word) .none kV_p_with_word dc_p_with_word pm_p_with_word an_p_with_word cd_p_with_word ct_p_with_word), sl_p_with_word⟩) (c_p_with_word : PySem.W.codeIn K cd_p_with_word "with_word" = true) (k_p_with_word : PySem.W.keepIn K (.ref f_p_with_word) = true)
    (a_p_sheet_of : PySem.W.nsIn K mainGlobals "sheet_of" = some (some (.ref f_p_sheet_of))) (l_p_sheet_of : K.lookup f_p_sheet_of = some ⟨oc_p_sheet_of, od_p_sheet_of, .func (PySem.W.fnOf "sheet_of" "sheet_of" (defArgs s_p_sheet_of) (defBody s_p_sheet_of) (defScope s_p_sheet_of) .none kV_p_sheet_of dc_p_sheet_of pm_p_sheet_of an_p_sheet_of cd_p_sheet_of ct_p_sheet_of), sl_p_sheet_of⟩) (c_p_sheet_of : PySem.W.codeIn K cd_p_sheet_of "sheet_of" = true) (k_p_sheet_of : PySem.W.keepIn K (.ref f_p_sheet_of) = true)
    (a_p_with_call : PySem.W.nsIn K mainGlobals "with_call" = some (some (.ref f_p_with_call))) (l_p_with_call : K.lookup f_p_with_call = some ⟨oc_p_with_call, od_p_with_call, .func (PySem.W.fnOf "with_call" "with_call" (defArgs s_p_with_call) (defBody s_p_with_call) (defScope s_p_with_call) .none kV_p_with_call dc_p_with_call pm_p_with_call an_p_with_call cd_p_with_call ct_p_with_call), sl_p_with_call⟩) (c_p_with_call : PySem.W.codeIn K cd_p_with_call "with_call" = true) (k_p_with_call : PySem.W.keepIn K (.ref f_p_with_call) = true)
    (a_box : PySem.W.nsIn K mainGlobals "_law_box" = some (some (.ref f_box))) (l_box : K.lookup f_box = some ⟨oc_box, od_box, .func (PySem.W.fnOf "_law_box" "_law_box" (defArgs s_box) (defBody s_box) (defScope s_box) .none kV_box dc_box pm_box an_box cd_box ct_box), sl_box⟩) (c_box : PySem.W.codeIn K cd_box "_law_box" = true) (k_box : PySem.W.keepIn K (.ref f_box) = true)
    (a_take : PySem.W.nsIn K mainGlobals "_law_take" = some (some (.ref f_take))) (l_take : K.lookup f_take = some ⟨oc_take, od_take, .func (PySem.W.fnOf "_law_take" "_law_take" (defArgs s_take) (defBody s_take) (defScope s_take) .none kV_take dc_take pm_take an_take cd_take ct_take), sl_take⟩) (c_take : PySem.W.codeIn K cd_take "_law_take" = true) (k_take : PySem.W.keepIn K (.ref f_take) = true)
    (a_cells : PySem.W.nsIn K mainGlobals "_law_cells" = some (some (.ref f_cells))) (l_cells : K.lookup f_cells = some ⟨oc_cells, od_cells, .func (PySem.W.fnOf "_law_cells" "_law_cells" (defArgs s_cells) (defBody s_cells) (defScope s_cells) .none kV_cells dc_cells pm_cells an_cells cd_cells ct_cells), sl_cells⟩) (c_cells : PySem.W.codeIn K cd_cells "_law_cells" = true) (k_cells : PySem.W.keepIn K (.ref f_cells) = true)
    (a_of : PySem.W.nsIn K mainGlobals "_law_of" = some (some (.ref f_of))) (l_of : K.lookup f_of = some ⟨oc_of, od_of, .func (PySem.W.fnOf "_law_of" "_law_of" (defArgs s_of) (defBody s_of) (defScope s_of) .none kV_of dc_of pm_of an_of cd_of ct_of), sl_of⟩) (c_of : PySem.W.codeIn K cd_of "_law_of" = true) (k_of : PySem.W.keepIn K (.ref f_of) = true)
    (a_strewn : PySem.W.nsIn K mainGlobals "_law_strewn" = some (some (.ref f_strewn))) (l_strewn : K.lookup f_strewn = some ⟨oc_strewn, od_strewn, .func (PySem.W.fnOf "_law_strewn" "_law_strewn" (defArgs s_strewn) (defBody s_strewn) (defScope s_strewn) .none kV_strewn dc_strewn pm_strewn an_strewn cd_strewn ct_strewn), sl_strewn⟩) (c_strewn : PySem.W.codeIn K cd_strewn "_law_strewn" = true) (k_strewn : PySem.W.keepIn K (.ref f_strewn) = true)
    (a_same : PySem.W.nsIn K mainGlobals "_law_same" = some (some (.ref f_same))) (l_same : K.lookup f_same = some ⟨oc_same, od_same, .func (PySem.W.fnOf "_law_same" "_law_same" (defArgs s_same) (defBody s_same) (defScope s_same) .none kV_same dc_same pm_same an_same cd_same ct_same), sl_same⟩) (c_same : PySem.W.codeIn K cd_same "_law_same" = true) (k_same : PySem.W.keepIn K (.ref f_same) = true)
    (a_paired : PySem.W.nsIn K mainGlobals "_law_paired" = some (some (.ref f_paired))) (l_paired : K.lookup f_paired = some ⟨oc_paired, od_paired, .func (PySem.W.fnOf "_law_paired" "_law_paired" (defArgs s_paired) (defBody s_paired) (defScope s_paired) .none kV_paired dc_paired pm_paired an_paired cd_paired ct_paired), sl_paired⟩) (c_paired : PySem.W.codeIn K cd_paired "_law_paired" = true) (k_paired : PySem.W.keepIn K (.ref f_paired) = true)
    (a_random : PySem.W.nsIn K mainGlobals "_law_random" = some (some (.ref f_random))) (l_random : K.lookup f_random = some ⟨oc_random, od_random, .func (PySem.W.fnOf "_law_random" "_law_random" (defArgs s_random) (defBody s_random) (defScope s_random) .none kV_random dc_random pm_random an_random cd_random ct_random), sl_random⟩) (c_random : PySem.W.codeIn K cd_random "_law_random" = true) (k_random : PySem.W.keepIn K (.ref f_random) = true)
    (a_any_call : PySem.W.nsIn K mainGlobals "_law_any_call" = some (some (.ref f_any_call))) (l_any_call : K.lookup f_any_call = some ⟨oc_any_call, od_any_call, .func (PySem.W.fnOf "_law_any_call" "_law_any_call" (defArgs s_any_call) (defBody s_any_call) (defScope s_any_call) .none kV_any_call dc_any_call pm_any_call an_any_call cd_any_call ct_any_call), sl_any_call⟩) (c_any_call : PySem.W.codeIn K cd_any_call "_law_any_call" = true) (k_any_call : PySem.W.keepIn K (.ref f_any_call) = true)
    (a_some_calls : PySem.W.nsIn K mainGlobals "_law_some_calls" = some (some (.ref f_some_calls))) (l_some_calls : K.lookup f_some_calls = some ⟨oc_some_calls, od_some_calls, .func (PySem.W.fnOf "_law_some_calls" "_law_some_calls" (defArgs s_some_calls) (defBody s_some_calls) (defScope s_some_calls) .none kV_some_calls dc_some_calls pm_some_calls an_some_calls cd_some_calls ct_some_calls), sl_some_calls⟩) (c_some_calls : PySem.W.codeIn K cd_some_calls "_law_some_calls" = true) (k_some_calls : PySem.W.keepIn K (.ref f_some_calls) = true)
    (a_sheet_of : PySem.W.nsIn K mainGlobals "_law_sheet_of" = some (some (.ref f_sheet_of))) (l_sheet_of : K.lookup f_sheet_of = some ⟨oc_sheet_of, od_sheet_of, .func (PySem.W.fnOf "_law_sheet_of" "_law_sheet_of" (defArgs s_sheet_of) (defBody s_sheet_of) (defScope s_sheet_of) .none kV_sheet_of dc_sheet_of pm_sheet_of an_sheet_of cd_sheet_of ct_sheet_of), sl_sheet_of⟩) (c_sheet_of : PySem.W.codeIn K cd_sheet_of "_law_sheet_of" = true) (k_sheet_of : PySem.W.keepIn K (.ref f_sheet_of) = true)
    (a_asked : PySem.W.nsIn K mainGlobals "_law_asked" = some (some (.ref f_asked))) (l_asked : K.lookup f_asked = some ⟨oc_asked, od_asked, .func (PySem.W.fnOf "_law_asked" "_law_asked" (defArgs s_asked) (defBody s_asked) (defScope s_asked) .none kV_asked dc_asked pm_asked an_asked cd_asked ct_asked), sl_asked⟩) (c_asked : PySem.W.codeIn K cd_asked "_law_asked" = true) (k_asked : PySem.W.keepIn K (.ref f_asked) = true)
    (a_refused : PySem.W.nsIn K mainGlobals "_law_refused" = some (some (.ref f_refused))) (l_refused : K.lookup f_refused = some ⟨oc_refused, od_refused, .func (PySem.W.fnOf "_law_refused" "_law_refused" (defArgs s_refused) (defBody s_refused) (defScope s_refused) .none kV_refused dc_refused pm_refused an_refused cd_refused ct_refused), sl_refused⟩) (c_refused : PySem.W.codeIn K cd_refused "_law_refused" = true) (k_refused : PySem.W.keepIn K (.ref f_refused) = true)
    (a_wrong_call : PySem.W.nsIn K mainGlobals "_law_wrong_call" = some (some (.ref f_wrong_call))) (l_wrong_call : K.lookup f_wrong_call = some ⟨oc_wrong_call, od_wrong_call, .func (PySem.W.fnOf "_law_wrong_call" "_law_wrong_call" (defArgs s_wrong_call) (defBody s_wrong_call) (defScope s_wrong_call) .none kV_wrong_call dc_wrong_call pm_wrong_call an_wrong_call cd_wrong_call ct_wrong_call), sl_wrong_call⟩) (c_wrong_call : PySem.W.codeIn K cd_wrong_call "_law_wrong_call" = true) (k_wrong_call : PySem.W.keepIn K (.ref f_wrong_call) = true)
    (a_right : PySem.W.nsIn K mainGlobals "_law_right" = some (some (.ref f_right))) (l_right : K.lookup f_right = some ⟨oc_right, od_right, .func (PySem.W.fnOf "_law_right" "_law_right" (defArgs s_right) (defBody s_right) (defScope s_right) .none kV_right dc_right pm_right an_right cd_right ct_right), sl_right⟩) (c_right : PySem.W.codeIn K cd_right "_law_right" = true) (k_right : PySem.W.keepIn K (.ref f_right) = true)
    (a_law : PySem.W.nsIn K mainGlobals "law" = some (some (.ref f_law))) (l_law : K.lookup f_law = some ⟨oc_law, od_law, .func (PySem.W.fnOf "law" "law" (defArgs s_law) (defBody s_law) (defScope s_law) .none kV_law dc_law pm_law an_law cd_law ct_law), sl_law⟩) (c_law : PySem.W.codeIn K cd_law "law" = true) (k_law : PySem.W.keepIn K (.ref f_law) = true)
    (aC_NoPerson : PySem.W.nsIn K mainGlobals "NoPerson" = some (some (.ref C_NoPerson)))
    (eC_NoPerson : PySem.W.subIn K (.ref C_NoPerson) (.type "BaseException") = some true)
    (tC_NoPerson : PySem.W.typeIn K (.ref C_NoPerson) = some (.type "type"))
    (is_NoPerson : PySem.W.isClsIn K C_NoPerson = true)
    (aC_NoNumber : PySem.W.nsIn K mainGlobals "NoNumber" = some (some (.ref C_NoNumber)))
    (eC_NoNumber : PySem.W.subIn K (.ref C_NoNumber) (.type "BaseException") = some true)
    (tC_NoNumber : PySem.W.typeIn K (.ref C_NoNumber) = some (.type "type"))
    (is_NoNumber : PySem.W.isClsIn K C_NoNumber = true)
    (aC_NotShortest : PySem.W.nsIn K mainGlobals "NotShortest" = some (some (.ref C_NotShortest)))
    (eC_NotShortest : PySem.W.subIn K (.ref C_NotShortest) (.type "BaseException") = some true)
    (tC_NotShortest : PySem.W.typeIn K (.ref C_NotShortest) = some (.type "type"))
    (is_NotShortest : PySem.W.isClsIn K C_NotShortest = true)
    (aC_OtherSize : PySem.W.nsIn K mainGlobals "OtherSize" = some (some (.ref C_OtherSize)))
    (eC_OtherSize : PySem.W.subIn K (.ref C_OtherSize) (.type "BaseException") = some true)
    (tC_OtherSize : PySem.W.typeIn K (.ref C_OtherSize) = some (.type "type"))
    (is_OtherSize : PySem.W.isClsIn K C_OtherSize = true)
    (xC_NoPerson : K.lookup C_NoPerson = some (excClassObj nm_NoPerson qn_NoPerson C_NoPerson Nn_NoPerson bs_NoPerson [.type "LookupError", .type "Exception", .type "BaseException", .type "object"] true sn_NoPerson sub_NoPerson ab_NoPerson col_NoPerson dd_NoPerson m0_NoPerson m1_NoPerson m2_NoPerson m3_NoPerson m5_NoPerson "LookupError.__new__"))
    (sa_NoPerson : PySem.W.findIn K (.ref C_NoPerson) "__setattr__" = some (some (.builtin "object.__setattr__")))
    (ga_NoPerson : PySem.W.findIn K (.ref C_NoPerson) "__getattribute__" = some (some (.builtin "BaseException.__getattribute__")))
    (gg_NoPerson : PySem.W.findIn K (.ref C_NoPerson) "__getattr__" = some none)
    (kC_NoPerson : PySem.W.keepIn K (.ref C_NoPerson) = true)
    (hC_NoPerson : PySem.W.hasDictIn K C_NoPerson = true)
    (cl_NoPerson : PySem.W.findIn K (.ref C_NoPerson) "__class__" = some (some (.builtin "object.__class__")))
    (mr_NoPerson : PySem.W.mroIn K C_NoPerson (.type "object") = some true)
    (iC_NoPerson : PySem.W.findIn K (.ref C_NoPerson) "__init__" = some (some (.ref f_i_NoPerson)))
    (tI_NoPerson : PySem.W.typeIn K (.ref f_i_NoPerson) = some (.type "function"))
    (lI_NoPerson : K.lookup f_i_NoPerson = some ⟨oc_i_NoPerson, od_i_NoPerson, .func (PySem.W.fnOf "__init__" "NoPerson.__init__" (defArgs s_i_NoPerson) (defBody s_i_NoPerson) (defScope s_i_NoPerson) .none kV_i_NoPerson dc_i_NoPerson pm_i_NoPerson an_i_NoPerson cd_i_NoPerson ct_i_NoPerson), sl_i_NoPerson⟩)
    (cI_NoPerson : PySem.W.codeIn K cd_i_NoPerson "NoPerson.__init__" = true)
    (kI_NoPerson : PySem.W.keepIn K (.ref f_i_NoPerson) = true)
    (su_NoPerson : PySem.W.subIn K (.ref C_NoPerson) (.ref C_NoPerson) = some true)
    (no_NoPerson : PySem.W.findIn K (.ref C_NoPerson) "person" = some none)
    (su_NoPerson_NoNumber : PySem.W.subIn K (.ref C_NoPerson) (.ref C_NoNumber) = some false)
    (su_NoPerson_NotShortest : PySem.W.subIn K (.ref C_NoPerson) (.ref C_NotShortest) = some false)
    (su_NoPerson_OtherSize : PySem.W.subIn K (.ref C_NoPerson) (.ref C_OtherSize) = some false)
    (sb_NoPerson_LookupError : PySem.W.subIn K (.ref C_NoPerson) (.type "LookupError") = some true)
    (sb_NoPerson_IndexError : PySem.W.subIn K (.ref C_NoPerson) (.type "IndexError") = some false)
    (sb_NoPerson_KeyError : PySem.W.subIn K (.ref C_NoPerson) (.type "KeyError") = some false)
    (sb_NoPerson_ValueError : PySem.W.subIn K (.ref C_NoPerson) (.type "ValueError") = some false)
    (vV_LookupError : PySem.W.findCls K (.type "LookupError") (.type "type") "__init__" = some (.val (.builtin "LookupError.__init__")))
    (spG : PySem.W.specialIn K (.builtin "object.__class__") "__get__" = some (some (.builtin "getset_descriptor.__get__")))
    (tkG : PySem.W.takesIn K (.builtin "object.__class__") = some true)
    (z_len : PySem.W.nsIn K mainGlobals "len" = some none) (z_list : PySem.W.nsIn K mainGlobals "list" = some none) (z_tuple : PySem.W.nsIn K mainGlobals "tuple" = some none) (z_enumerate : PySem.W.nsIn K mainGlobals "enumerate" = some none) (z_range : PySem.W.nsIn K mainGlobals "range" = some none) (z_abs : PySem.W.nsIn K mainGlobals "abs" = some none) (z_int : PySem.W.nsIn K mainGlobals "int" = some none) (z_isinstance : PySem.W.nsIn K mainGlobals "isinstance" = some none) (z_all : PySem.W.nsIn K mainGlobals "all" = some none) (z_zip : PySem.W.nsIn K mainGlobals "zip" = some none) (z_str : PySem.W.nsIn K mainGlobals "str" = some none) (z_bool : PySem.W.nsIn K mainGlobals "bool" = some none) (z_max : PySem.W.nsIn K mainGlobals "max" = some none) (z_LookupError : PySem.W.nsIn K mainGlobals "LookupError" = some none) (z_IndexError : PySem.W.nsIn K mainGlobals "IndexError" = some none) (z_KeyError : PySem.W.nsIn K mainGlobals "KeyError" = some none) (z_ValueError : PySem.W.nsIn K mainGlobals "ValueError" = some none) :
    ∃ fd : FuncData, (∀ (s : Shared) (v : Value), BindsTo s fd ⟨[v], []⟩ [("_law_script", v)]) ∧ ∀ base : Heap, K.In base → base.Ns mainGlobals mg → FnOk l.prog w K mg base CX0 11 fa fd ["_law_script"] (spLaw K) := by
  have e := hfa.symm.trans (PySem.W.mg_of X G a_law)
  cases e
  let T : Env K mg := {
    n_len := PySem.W.mg_none_of X G z_len,
    n_list := PySem.W.mg_none_of X G z_list,
    n_tuple := PySem.W.mg_none_of X G z_tuple,
    n_enumerate := PySem.W.mg_none_of X G z_enumerate,
    n_range := PySem.W.mg_none_of X G z_range,
    n_abs := PySem.W.mg_none_of X G z_abs,
    n_int := PySem.W.mg_none_of X G z_int,
    n_isinstance := PySem.W.mg_none_of X G z_isinstance,
    n_all := PySem.W.mg_none_of X G z_all,
    n_zip := PySem.W.mg_none_of X G z_zip,
    n_str := PySem.W.mg_none_of X G z_str,
    n_bool := PySem.W.mg_none_of X G z_bool,
    n_max := PySem.W.mg_none_of X G z_max,
    n_LookupError := PySem.W.mg_none_of X G z_LookupError,
    n_IndexError := PySem.W.mg_none_of X G z_IndexError,
    n_KeyError := PySem.W.mg_none_of X G z_KeyError,
    n_ValueError := PySem.W.mg_none_of X G z_ValueError,
    f_p_check_person := f_p_check_person, d_p_check_person := _, F_p_check_person := fun_mk (st := s_p_check_person) l_p_check_person c_p_check_person k_p_check_person, g_p_check_person := PySem.W.mg_of X G a_p_check_person,
    f_p_check_call := f_p_check_call, d_p_check_call := _, F_p_check_call := fun_mk (st := s_p_check_call) l_p_check_call c_p_check_call k_p_check_call, g_p_check_call := PySem.W.mg_of X G a_p_check_call,
    f_p_check_word := f_p_check_word, d_p_check_word := _, F_p_check_word := fun_mk (st := s_p_check_word) l_p_check_word c_p_check_word k_p_check_word, g_p_check_word := PySem.W.mg_of X G a_p_check_word,
    f_p_join_two := f_p_join_two, d_p_join_two := _, F_p_join_two := fun_mk (st := s_p_join_two) l_p_join_two c_p_join_two k_p_join_two, g_p_join_two := PySem.W.mg_of X G a_p_join_two,
    f_p_called := f_p_called, d_p_called := _, F_p_called := fun_mk (st := s_p_called) l_p_called c_p_called k_p_called, g_p_called := PySem.W.mg_of X G a_p_called,
    f_p_called_all := f_p_called_all, d_p_called_all := _, F_p_called_all := fun_mk (st := s_p_called_all) l_p_called_all c_p_called_all k_p_called_all, g_p_called_all := PySem.W.mg_of X G a_p_called_all,
    f_p_pairings_along := f_p_pairings_along, d_p_pairings_along := _, F_p_pairings_along := fun_mk (st := s_p_pairings_along) l_p_pairings_along c_p_pairings_along k_p_pairings_along, g_p_pairings_along := PySem.W.mg_of X G a_p_pairings_along,
    f_p_idle_calls := f_p_idle_calls, d_p_idle_calls := _, F_p_idle_calls := fun_mk (st := s_p_idle_calls) l_p_idle_calls c_p_idle_calls k_p_idle_calls, g_p_idle_calls := PySem.W.mg_of X G a_p_idle_calls,
    f_p_people_of := f_p_people_of, d_p_people_of := _, F_p_people_of := fun_mk (st := s_p_people_of) l_p_people_of c_p_people_of k_p_people_of, g_p_people_of := PySem.W.mg_of X G a_p_people_of,
    f_p_empty_sheet := f_p_empty_sheet, d_p_empty_sheet := _, F_p_empty_sheet := fun_mk (st := s_p_empty_sheet) l_p_empty_sheet c_p_empty_sheet k_p_empty_sheet, g_p_empty_sheet := PySem.W.mg_of X G a_p_empty_sheet,
    f_p_with_word := f_p_with_word, d_p_with_word := _, F_p_with_word := fun_mk (st := s_p_with_word) l_p_with_word c_p_with_word k_p_with_word, g_p_with_word := PySem.W.mg_of X G a_p_with_word,
    f_p_sheet_of := f_p_sheet_of, d_p_sheet_of := _, F_p_sheet_of := fun_mk (st := s_p_sheet_of) l_p_sheet_of c_p_sheet_of k_p_sheet_of, g_p_sheet_of := PySem.W.mg_of X G a_p_sheet_of,
    f_p_with_call := f_p_with_call, d_p_with_call := _, F_p_with_call := fun_mk (st := s_p_with_call) l_p_with_call c_p_with_call k_p_with_call, g_p_with_call := PySem.W.mg_of X G a_p_with_call,
    f_box := f_box, d_box := _, F_box := fun_mk (st := s_box) l_box c_box k_box, g_box := PySem.W.mg_of X G a_box,
    f_take := f_take, d_take := _, F_take := fun_mk (st := s_take) l_take c_take k_take, g_take := PySem.W.mg_of X G a_take,
    f_cells := f_cells, d_cells := _, F_cells := fun_mk (st := s_cells) l_cells c_cells k_cells, g_cells := PySem.W.mg_of X G a_cells,
    f_of := f_of, d_of := _, F_of := fun_mk (st := s_of) l_of c_of k_of, g_of := PySem.W.mg_of X G a_of,
    f_strewn := f_strewn, d_strewn := _, F_strewn := fun_mk (st := s_strewn) l_strewn c_strewn k_strewn, g_strewn := PySem.W.mg_of X G a_strewn,
    f_same := f_same, d_same := _, F_same := fun_mk (st := s_same) l_same c_same k_same, g_same := PySem.W.mg_of X G a_same,
    f_paired := f_paired, d_paired := _, F_paired := fun_mk (st := s_paired) l_paired c_paired k_paired, g_paired := PySem.W.mg_of X G a_paired,
    f_random := f_random, d_random := _, F_random := fun_mk (st := s_random) l_random c_random k_random, g_random := PySem.W.mg_of X G a_random,
    f_any_call := f_any_call, d_any_call := _, F_any_call := fun_mk (st := s_any_call) l_any_call c_any_call k_any_call, g_any_call := PySem.W.mg_of X G a_any_call,
    f_some_calls := f_some_calls, d_some_calls := _, F_some_calls := fun_mk (st := s_some_calls) l_some_calls c_some_calls k_some_calls, g_some_calls := PySem.W.mg_of X G a_some_calls,
    f_sheet_of := f_sheet_of, d_sheet_of := _, F_sheet_of := fun_mk (st := s_sheet_of) l_sheet_of c_sheet_of k_sheet_of, g_sheet_of := PySem.W.mg_of X G a_sheet_of,
    f_asked := f_asked, d_asked := _, F_asked := fun_mk (st := s_asked) l_asked c_asked k_asked, g_asked := PySem.W.mg_of X G a_asked,
    f_refused := f_refused, d_refused := _, F_refused := fun_mk (st := s_refused) l_refused c_refused k_refused, g_refused := PySem.W.mg_of X G a_refused,
    f_wrong_call := f_wrong_call, d_wrong_call := _, F_wrong_call := fun_mk (st := s_wrong_call) l_wrong_call c_wrong_call k_wrong_call, g_wrong_call := PySem.W.mg_of X G a_wrong_call,
    f_right := f_right, d_right := _, F_right := fun_mk (st := s_right) l_right c_right k_right, g_right := PySem.W.mg_of X G a_right,
    C_NoPerson := C_NoPerson, gC_NoPerson := PySem.W.mg_of X G aC_NoPerson,
    C_NoNumber := C_NoNumber, gC_NoNumber := PySem.W.mg_of X G aC_NoNumber,
    C_NotShortest := C_NotShortest, gC_NotShortest := PySem.W.mg_of X G aC_NotShortest,
    C_OtherSize := C_OtherSize, gC_OtherSize := PySem.W.mg_of X G aC_OtherSize,
    own_NoPerson := ⟨⟨nm_NoPerson, qn_NoPerson, Nn_NoPerson, bs_NoPerson, sn_NoPerson, sub_NoPerson, ab_NoPerson, col_NoPerson, dd_NoPerson, m0_NoPerson, m1_NoPerson, m2_NoPerson, m3_NoPerson, m5_NoPerson, xC_NoPerson⟩, over_of xC_NoPerson (by decide +kernel), sa_NoPerson, ga_NoPerson, gg_NoPerson, eC_NoPerson, tC_NoPerson, kC_NoPerson, hC_NoPerson, cl_NoPerson, mr_NoPerson⟩,
    kpt_NoPerson := ⟨ga_NoPerson, gg_NoPerson, eC_NoPerson, hC_NoPerson, cl_NoPerson, mr_NoPerson, spG, tkG⟩,
    f_i_NoPerson := f_i_NoPerson, d_i_NoPerson := _, F_i_NoPerson := fun_mk (st := s_i_NoPerson) lI_NoPerson cI_NoPerson kI_NoPerson, iC_NoPerson := iC_NoPerson, tI_NoPerson := tI_NoPerson, ee_NoPerson := exm_of' eC_NoPerson is_NoPerson tC_NoPerson su_NoPerson, kk_NoPerson := kit_own su_NoPerson is_NoPerson tC_NoPerson su_NoPerson,
    no_NoPerson := no_NoPerson,
    ex_NoPerson_NoNumber := exm_of' eC_NoNumber is_NoNumber tC_NoNumber su_NoPerson_NoNumber, ki_NoPerson_NoNumber := kit_own su_NoPerson is_NoNumber tC_NoNumber su_NoPerson_NoNumber,
    ex_NoPerson_NotShortest := exm_of' eC_NotShortest is_NotShortest tC_NotShortest su_NoPerson_NotShortest, ki_NoPerson_NotShortest := kit_own su_NoPerson is_NotShortest tC_NotShortest su_NoPerson_NotShortest,
    ex_NoPerson_OtherSize := exm_of' eC_OtherSize is_OtherSize tC_OtherSize su_NoPerson_OtherSize, ki_NoPerson_OtherSize := kit_own su_NoPerson is_OtherSize tC_OtherSize su_NoPerson_OtherSize,
    kb_NoPerson_LookupError := kit_blt (by decide +kernel) sb_NoPerson_LookupError,
    kb_NoPerson_IndexError := kit_blt (by decide +kernel) sb_NoPerson_IndexError,
    kb_NoPerson_KeyError := kit_blt (by decide +kernel) sb_NoPerson_KeyError,
    kb_NoPerson_ValueError := kit_blt (by decide +kernel) sb_NoPerson_ValueError,
    vV_LookupError := vV_LookupError }
  exact ⟨PySem.W.fnOf "law" "law" (defArgs s_law) (defBody s_law) (defScope s_law) .none kV_law dc_law pm_law an_law cd_law ct_law, fun s v => .of_eq rfl, fun base _ _ => ok_law T (fun_mk (st := s_law) l_law c_law k_law)⟩
end Pc
open PySem PySem.W PyProof.Rows
set_option maxHeartbeats 0 in
theorem PySem.Challenge.cw_partnercall_k05_people_who_are_not_there_holds : PySem.Challenge.rw_partnercall_k05_people_who_are_not_there.Holds := by
  w_on; o_law; k_head; (case hw => w_witness2)
  k_fill
  refine L2.walk_of (l := PySem.Challenge.rw_partnercall_k05_people_who_are_not_there) (n := 63) (k := 11) (x := "_law_script") (CX := fun _ => L2.CX0) (sp := fun w => Pc.spLaw _) rfl (by decide) rfl ⟨rfl, by decide, by decide⟩ (fun w h Y => PySem.W.kIn_of Y) ?F (fun _ _ a ns hl _ hS => ⟨a, ns, rfl, hS, hl, fun _ => rfl⟩) (fun _ _ _ _ _ h => h)
  case F =>
    intro w mg fa h KX G hmg
    refine' Pc.all_mk KX G hmg ?a_p_check_person ?l_p_check_person ?c_p_check_person ?k_p_check_person ?a_p_check_call ?l_p_check_call ?c_p_check_call ?k_p_check_call ?a_p_check_word ?l_p_check_word ?c_p_check_word ?k_p_check_word ?a_p_join_two ?l_p_join_two ?c_p_join_two ?k_p_join_two ?a_p_called ?l_p_called ?c_p_called ?k_p_called ?a_p_called_all ?l_p_called_all ?c_p_called_all ?k_p_called_all ?a_p_pairings_along ?l_p_pairings_along ?c_p_pairings_along ?k_p_pairings_along ?a_p_idle_calls ?l_p_idle_calls ?c_p_idle_calls ?k_p_idle_calls ?a_p_people_of ?l_p_people_of ?c_p_people_of ?k_p_people_of ?a_p_empty_sheet ?l_p_empty_sheet ?c_p_empty_sheet ?k_p_empty_sheet ?a_p_with_word ?l_p_with_word ?c_p_with_word ?k_p_with_word ?a_p_sheet_of ?l_p_sheet_of ?c_p_sheet_of ?k_p_sheet_of ?a_p_with_call ?l_p_with_call ?c_p_with_call ?k_p_with_call ?a_box ?l_box ?c_box ?k_box ?a_take ?l_take ?c_take ?k_take ?a_cells ?l_cells ?c_cells ?k_cells ?a_of ?l_of ?c_of ?k_of ?a_strewn ?l_strewn ?c_strewn ?k_strewn ?a_same ?l_same ?c_same ?k_same ?a_paired ?l_paired ?c_paired ?k_paired ?a_random ?l_random ?c_random ?k_random ?a_any_call ?l_any_call ?c_any_call ?k_any_call ?a_some_calls ?l_some_calls ?c_some_calls ?k_some_calls ?a_sheet_of ?l_sheet_of ?c_sheet_of ?k_sheet_of ?a_asked ?l_asked ?c_asked ?k_asked ?a_refused ?l_refused ?c_refused ?k_refused ?a_wrong_call ?l_wrong_call ?c_wrong_call ?k_wrong_call ?a_right ?l_right ?c_right ?k_right ?a_law ?l_law ?c_law ?k_law ?aC_NoPerson ?eC_NoPerson ?tC_NoPerson ?is_NoPerson ?aC_NoNumber ?eC_NoNumber ?tC_NoNumber ?is_NoNumber ?aC_NotShortest ?eC_NotShortest ?tC_NotShortest ?is_NotShortest ?aC_OtherSize ?eC_OtherSize ?tC_OtherSize ?is_OtherSize ?xC_NoPerson ?sa_NoPerson ?ga_NoPerson ?gg_NoPerson ?kC_NoPerson ?hC_NoPerson ?cl_NoPerson ?mr_NoPerson ?iC_NoPerson ?tI_NoPerson ?lI_NoPerson ?cI_NoPerson ?kI_NoPerson ?su_NoPerson ?no_NoPerson ?su_NoPerson_NoNumber ?su_NoPerson_NotShortest ?su_NoPerson_OtherSize ?sb_NoPerson_LookupError ?sb_NoPerson_IndexError ?sb_NoPerson_KeyError ?sb_NoPerson_ValueError ?vV_LookupError ?spG ?tkG ?z_len ?z_list ?z_tuple ?z_enumerate ?z_range ?z_abs ?z_int ?z_isinstance ?z_all ?z_zip ?z_str ?z_bool ?z_max ?z_LookupError ?z_IndexError ?z_KeyError ?z_ValueError
    (case a_p_check_person => k_is); (case l_p_check_person => k_is); (case c_p_check_person => k_is); (case k_p_check_person => k_is); (case a_p_check_call => k_is); (case l_p_check_call => k_is); (case c_p_check_call => k_is); (case k_p_check_call => k_is); (case a_p_check_word => k_is); (case l_p_check_word => k_is); (case c_p_check_word => k_is); (case k_p_check_word => k_is); (case a_p_join_two => k_is); (case l_p_join_two => k_is); (case c_p_join_two => k_is); (case k_p_join_two => k_is); (case a_p_called => k_is); (case l_p_called => k_is); (case c_p_called => k_is); (case k_p_called => k_is); (case a_p_called_all => k_is); (case l_p_called_all => k_is); (case c_p_called_all => k_is); (case k_p_called_all => k_is); (case a_p_pairings_along => k_is); (case l_p_pairings_along => k_is); (case c_p_pairings_along => k_is); (case k_p_pairings_along => k_is); (case a_p_idle_calls => k_is); (case l_p_idle_calls => k_is); (case c_p_idle_calls => k_is); (case k_p_idle_calls => k_is); (case a_p_people_of => k_is); (case l_p_people_of => k_is); (case c_p_people_of => k_is); (case k_p_people_of => k_is); (case a_p_empty_sheet => k_is); (case l_p_empty_sheet => k_is); (case c_p_empty_sheet => k_is); (case k_p_empty_sheet => k_is); (case a_p_with_word => k_is); (case l_p_with_word => k_is); (case c_p_with_word => k_is); (case k_p_with_word => k_is); (case a_p_sheet_of => k_is); (case l_p_sheet_of => k_is); (case c_p_sheet_of => k_is); (case k_p_sheet_of => k_is); (case a_p_with_call => k_is); (case l_p_with_call => k_is); (case c_p_with_call => k_is); (case k_p_with_call => k_is); (case a_box => k_is); (case l_box => k_is); (case c_box => k_is); (case k_box => k_is); (case a_take => k_is); (case l_take => k_is); (case c_take => k_is); (case k_take => k_is); (case a_cells => k_is); (case l_cells => k_is); (case c_cells => k_is); (case k_cells => k_is); (case a_of => k_is); (case l_of => k_is); (case c_of => k_is); (case k_of => k_is); (case a_strewn => k_is); (case l_strewn => k_is); (case c_strewn => k_is); (case k_strewn => k_is); (case a_same => k_is); (case l_same => k_is); (case c_same => k_is); (case k_same => k_is); (case a_paired => k_is); (case l_paired => k_is); (case c_paired => k_is); (case k_paired => k_is); (case a_random => k_is); (case l_random => k_is); (case c_random => k_is); (case k_random => k_is); (case a_any_call => k_is); (case l_any_call => k_is); (case c_any_call => k_is); (case k_any_call => k_is); (case a_some_calls => k_is); (case l_some_calls => k_is); (case c_some_calls => k_is); (case k_some_calls => k_is); (case a_sheet_of => k_is); (case l_sheet_of => k_is); (case c_sheet_of => k_is); (case k_sheet_of => k_is); (case a_asked => k_is); (case l_asked => k_is); (case c_asked => k_is); (case k_asked => k_is); (case a_refused => k_is); (case l_refused => k_is); (case c_refused => k_is); (case k_refused => k_is); (case a_wrong_call => k_is); (case l_wrong_call => k_is); (case c_wrong_call => k_is); (case k_wrong_call => k_is); (case a_right => k_is); (case l_right => k_is); (case c_right => k_is); (case k_right => k_is); (case a_law => k_is); (case l_law => k_is); (case c_law => k_is); (case k_law => k_is); (case aC_NoPerson => k_is); (case eC_NoPerson => k_is); (case tC_NoPerson => k_is); (case is_NoPerson => k_is); (case aC_NoNumber => k_is); (case eC_NoNumber => k_is); (case tC_NoNumber => k_is); (case is_NoNumber => k_is); (case aC_NotShortest => k_is); (case eC_NotShortest => k_is); (case tC_NotShortest => k_is); (case is_NotShortest => k_is); (case aC_OtherSize => k_is); (case eC_OtherSize => k_is); (case tC_OtherSize => k_is); (case is_OtherSize => k_is); (case xC_NoPerson => k_is); (case sa_NoPerson => k_is); (case ga_NoPerson => k_is); (case gg_NoPerson => k_is); (case kC_NoPerson => k_is); (case hC_NoPerson => k_is); (case cl_NoPerson => k_is); (case mr_NoPerson => k_is); (case iC_NoPerson => k_is); (case tI_NoPerson => k_is); (case lI_NoPerson => k_is); (case cI_NoPerson => k_is); (case kI_NoPerson => k_is); (case su_NoPerson => k_is); (case no_NoPerson => k_is); (case su_NoPerson_NoNumber => k_is); (case su_NoPerson_NotShortest => k_is); (case su_NoPerson_OtherSize => k_is); (case sb_NoPerson_LookupError => k_is); (case sb_NoPerson_IndexError => k_is); (case sb_NoPerson_KeyError => k_is); (case sb_NoPerson_ValueError => k_is); (case vV_LookupError => k_is); (case spG => k_is); (case tkG => k_is); (case z_len => k_is); (case z_list => k_is); (case z_tuple => k_is); (case z_enumerate => k_is); (case z_range => k_is); (case z_abs => k_is); (case z_int => k_is); (case z_isinstance => k_is); (case z_all => k_is); (case z_zip => k_is); (case z_str => k_is); (case z_bool => k_is); (case z_max => k_is); (case z_LookupError => k_is); (case z_IndexError => k_is); (case z_KeyError => k_is); (case z_ValueError => k_is)
