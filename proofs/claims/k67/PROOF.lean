import PyProof.Rows.All
import Wide.All
import OpenK.AllK
import Wide.FinOn
import HandS.ForMost
import HandS.IsInst
import HandS.Zip
import HandS.Style
import HandS.Walk
import HandS.Flow
import HandS.Conv
import HandS.RaiseMore
import HandS.NoneIn
import HandS.WordsList
import HandS.Deep
import HandS.Exc
import HandS.ExcOwn
import HandS.WordsExc
import HandS.ExcInit
import HandS.ExcIs
import KE.KExcIs
import KE.KExcInit
import KE.KTryMore
import HandS.SortRule
import HandS.SortInts
import HandS.Strs
import HandS.Wide
import PySem.Challenge.RW_partnercall_k67_other_numbers_and_people
set_option Elab.async false
set_option linter.all false
set_option maxRecDepth 100000
set_option maxHeartbeats 4000000
namespace RZ
end RZ
namespace Pc
open PySem PySem.Spec PyProof.Rows L2 RZ
/-! ### heaps -/
/-- all that was tracked, but for b, is as it was -/
def Keep (b : Addr) (H H' : Hp) : Prop := ∀ a o, a ≠ b → H a = some o → H' a = some o
theorem Keep.refl (b : Addr) (H : Hp) : Keep b H H := fun _ _ _ h => h
theorem Keep.trans {b : Addr} {H H1 H2 : Hp} (p : Keep b H H1) (q : Keep b H1 H2) : Keep b H H2 := fun a o n h => q a o n (p a o n h)
theorem Keep.of_same {b : Addr} {H H' : Hp} (s : Same H H') : Keep b H H' := fun a o _ h => s a o h
theorem same_new {H : Hp} {p : Addr} {o : HO} (h : H p = none) : Same H (upd H p o) := fun b x e => by
  rw [upd_ne (ne_of_none e h)]; exact e
theorem keep_upd {H : Hp} {b : Addr} {o : HO} : Keep b H (upd H b o) := fun a x n e => by
  rw [upd_ne n]; exact e
/-- a list, a tuple under Keep -/
theorem Keep.tup {b : Addr} {H H' : Hp} (k : Keep b H H') {a : Addr} {xs ys : List V} (hb : H b = some (.lst ys)) (h : H a = some (.tup xs)) : H' a = some (.tup xs) :=
  k a _ (fun e => by rw [e, hb] at h; cases h) h
/-! ### small numbers -/
theorem one0 (c : Prop) [Decidable c] : (0 : Int) ≤ (if c then 1 else 0) ∧ (if c then (1 : Int) else 0) ≤ 1 := by
  split <;> decide
theorem in64 {i : Int} (h : 0 ≤ i ∧ i ≤ 1) : -(2 ^ 64) < i ∧ i < 2 ^ 64 := ⟨by omega, by omega⟩
/-! ### the source of draws -/
/-- at b a source that serves n more draws -/
def Box (n : Nat) (H : Hp) (b : Addr) : Prop := ∃ x y z : Int, H b = some (.lst [.int x, .int y, .int z]) ∧ 0 ≤ x ∧ 0 ≤ y ∧ y < 2 ^ 62 ∧ 0 ≤ z ∧ z + n ≤ 1000000000
theorem Box.lst {n : Nat} {H : Hp} {b : Addr} (h : Box n H b) : ∃ ys, H b = some (.lst ys) := let ⟨_, _, _, e, _⟩ := h; ⟨_, e⟩
theorem Box.mono {n m : Nat} {H : Hp} {b : Addr} (h : Box n H b) (l : m ≤ n) : Box m H b := by
  obtain ⟨x, y, z, e, h1, h2, h3, h4, h5⟩ := h
  exact ⟨x, y, z, e, h1, h2, h3, h4, by omega⟩
theorem Box.same {n : Nat} {H H' : Hp} {b : Addr} (h : Box n H b) (s : Same H H') : Box n H' b := by
  obtain ⟨x, y, z, e, r⟩ := h
  exact ⟨x, y, z, s _ _ e, r⟩
theorem Box.keep {n : Nat} {H H' : Hp} {b c : Addr} (h : Box n H b) (k : Keep c H H') (d : b ≠ c) : Box n H' b := by
  obtain ⟨x, y, z, e, r⟩ := h
  exact ⟨x, y, z, k _ _ d e, r⟩
theorem Box.ne_new {n : Nat} {H : Hp} {b p : Addr} (h : Box n H b) (np : H p = none) : b ≠ p := by
  obtain ⟨x, y, z, e, r⟩ := h
  exact ne_of_none e np
theorem Box.ne_tup {n : Nat} {H : Hp} {b p : Addr} {xs : List V} (h : Box n H b) (e2 : H p = some (.tup xs)) : p ≠ b := by
  obtain ⟨x, y, z, e, r⟩ := h
  intro q; rw [q, e] at e2; cases e2
end Pc
namespace Pc
open PySem PySem.Spec PyProof.Rows L2 RZ
/-! ### errors of the program: made -/
section
open PySem.W Builtin Builtin.ObjectAttr
variable {prog : Program} {w : World} {A : Around} {R : Result → Shared → Prop} {hp : Heap} {g : Array GenState} {d : Drawn} {t : Nat} {os : OsState} {B : String} {bmB : List Value}
/-- the first field of an error that has no dict yet -/
theorem osa_first {K : Frag} {f : Str} {tk : Tok} {v : Value} {x C : Addr} {fv : Array Value} {cd : ClassData} (SF : StoreFacts B bmB "object.__setattr__" "object") (X : K.In hp)
    (hx : hp.get? x = some { cls := .ref C, data := .fields fv }) (hcd : clsIn K C = some cd) (ho : excOver K C bmB = true) (hh : cd.hasDict = true) (hf : takerIn K C f = some none)
    (hq : ∀ h' tk' dx, (∀ b o, b ≠ x → hp.get? b = some o → h'.get? b = some o) → hp.objs.size ≤ dx → dx ≠ x →
      h'.get? x = some { cls := .ref C, dict := some dx, data := .fields fv } → h'.Ns1 dx (fun y => if y = f then some v else none) → R (.ok (.ret .none)) ⟨h', g, d, tk', os⟩) :
    codeAny (model prog w) A (.call (.builtin "object.__setattr__") ⟨[.ref x, .str f tk, v], []⟩) R ⟨hp, g, d, t, os⟩ := by
  have hne : x ≠ hp.objs.size := fun e => absurd (Heap.lt_size hx) (by rw [← e]; exact Nat.lt_irrefl x)
  have LC : Looks (model prog w) hp (classData C) cd := looks_clsIn X hcd
  refine osa_openX (s := ⟨hp, g, d, t, os⟩) (od := none) SF X ⟨hx, rfl, rfl, trivial⟩ ho hf fun b => ?_
  obtain ⟨c1, c2, c3, c4, c5, c6, c7, c8, c9, c10, c11⟩ := cd
  dsimp only at hh; subst hh
  dsimp only
  unfold storeInOwnDict ownDictForStores
  repeat (first | with_reducible refine HandSPX.store_in_new ?_ ?_ | with_reducible refine wpAny_loadPart_at hx ?_ | with_reducible refine LC.at ?_ | wp_step)
  · exact ⟨_, #[], _, (Heap.get?_update_ne _ _ _ _ hne.symm).trans (Heap.get?_push_at rfl rfl), rfl, fun e he => absurd he (by simp), fun _ => rfl⟩
  · intro h' tk' n1 n2
    refine hq h' tk' hp.objs.size (fun b o q r => ?_) (Nat.le_refl _) hne.symm ?_ n1
    · exact (n2.2 b (Nat.ne_of_lt (Heap.lt_size r))).trans ((Heap.get?_update_ne _ _ _ _ q).trans (Heap.get?_push_of_some _ r))
    · exact (n2.2 x hne).trans (Heap.get?_update_self _ (Heap.get?_push_of_some _ hx) rfl)
end
/-- what is known of a built-in error class -/
structure Bs (B newId initId : String) (bmB : List Value) : Prop where
  fb : ExcBaseFacts B newId initId bmB
  sf : StoreFacts B bmB "object.__setattr__" "object"
theorem bsV : Bs "ValueError" "ValueError.__new__" "ValueError.__init__" [.type "ValueError", .type "Exception", .type "BaseException", .type "object"] := ⟨F.excBase_ValueError, F.store_ValueError⟩
theorem bsL : Bs "LookupError" "LookupError.__new__" "LookupError.__init__" [.type "LookupError", .type "Exception", .type "BaseException", .type "object"] := ⟨F.excBase_LookupError, F.store_LookupError⟩
theorem bsR : Bs "RuntimeError" "RuntimeError.__new__" "RuntimeError.__init__" [.type "RuntimeError", .type "Exception", .type "BaseException", .type "object"] := ⟨F.excBase_RuntimeError, F.store_RuntimeError⟩
theorem bsO : Bs "OverflowError" "OverflowError.__new__" "OverflowError.__init__" [.type "OverflowError", .type "ArithmeticError", .type "Exception", .type "BaseException", .type "object"] := ⟨F.excBase_OverflowError, F.store_OverflowError⟩
/-- an error class of the program, straight over a built-in one -/
structure Own (K : PySem.W.Frag) (newId : String) (bmB : List Value) (C : Addr) : Prop where
  cls : ∃ nm q N bs sn sub ab col dd k0 k1 k2 k3 k5, K.lookup C = some (excClassObj nm q C N bs bmB true sn sub ab col dd k0 k1 k2 k3 k5 newId)
  over : PySem.W.excOver K C bmB = true
  sa : PySem.W.findIn K (.ref C) "__setattr__" = some (some (.builtin "object.__setattr__"))
  ga : PySem.W.findIn K (.ref C) "__getattribute__" = some (some (.builtin "BaseException.__getattribute__"))
  gg : PySem.W.findIn K (.ref C) "__getattr__" = some none
  exC : PySem.W.subIn K (.ref C) (.type "BaseException") = some true
  tyC : PySem.W.typeIn K (.ref C) = some (.type "type")
  kC : PySem.W.keepIn K (.ref C) = true
  hdC : PySem.W.hasDictIn K C = true
  clC : PySem.W.findIn K (.ref C) "__class__" = some (some (.builtin "object.__class__"))
  mrO : PySem.W.mroIn K C (.type "object") = some true
theorem Own.data {K : PySem.W.Frag} {newId : String} {bmB : List Value} {C : Addr} (T : Own K newId bmB C) : ∃ cd, PySem.W.clsIn K C = some cd ∧ cd.hasDict = true := by
  obtain ⟨nm, q, N, bs, sn, sub, ab, col, dd, k0, k1, k2, k3, k5, e⟩ := T.cls
  refine ⟨{ name := nm, bases := bs, mro := .ref C :: bmB, ns := N, qualname := q, hasDict := true, slotNames := sn, subclasses := sub, abstract := ab, collection := col, hasDel := false }, ?_, rfl⟩
  unfold PySem.W.clsIn
  rw [e] <;> rfl
theorem taker_of {K : PySem.W.Frag} {C : Addr} {f : Str} (h : PySem.W.findIn K (.ref C) f = some none) : PySem.W.takerIn K C f = some none := by
  unfold PySem.W.takerIn
  rw [h]; rfl
section
variable {X : Cx} {pins : List (Addr × Obj)} {σ : L2.St} {H H1 H2 : Hp} {s : Shared} {a C dx : Addr} {f : Str} {newId initId B : String} {bmB : List Value}
/-- an object that stands in the heap, untracked and not of the entry, is tracked from now on -/
theorem adopt {o : HO} (I : Inv X pins σ H s) (hn : H a = none) (n0 : X.s_0.heap.get? a = none) (nL : a ≠ X.env.locals) (nC : ∀ x c, X.env.cells.lookup x = some c → c ≠ a) (nP : ∀ p ∈ X.pn ++ pins, p.1 ≠ a)
    (new : ObjOk X.prog X.w (upd H a o) s.heap a o) : Inv X pins σ (upd H a o) s := by
  have up : ∀ {b : Addr} {u : HO}, H b = some u → upd H a o b = some u := fun {b u} e => by rw [upd_ne (ne_of_none e hn)]; exact e
  refine ⟨I.ok, I.os, I.bare, ⟨I.base.keep, I.base.slot, fun b q e n x => ?_, I.base.there, fun b xs e => up (I.base.tups b xs e), fun b q u e => up (I.base.frzs b q u e), fun b ps e => ?_⟩, I.loc, I.cell, ?_, fun x c e => ?_, fun p hp => ?_, fun b u e => ?_, I.len⟩
  · rw [upd_ne (fun z => by rw [z, n0] at e; cases e)]
    exact I.base.free b q e n x
  · obtain ⟨m, z⟩ := I.base.tbls b ps e
    exact ⟨m, up z⟩
  · rw [upd_ne (Ne.symm nL)]; exact I.free
  · rw [upd_ne (nC x c e)]; exact I.freeC x c e
  · obtain ⟨e, n, r⟩ := I.pin p hp
    exact ⟨e, by rw [upd_ne (nP p hp)]; exact n, r⟩
  · by_cases hb : b = a
    · subst hb
      rw [upd_same] at e; cases e
      exact new
    · rw [upd_ne hb] at e
      exact (I.hok b u e).stay (fun _ _ _ z => z) (fun c z => up z) (fun c xs z => up z)
theorem low_ne {n : Nat} {b a : Addr} (h : b < n) (h' : n ≤ a) : b ≠ a := Nat.ne_of_lt (Nat.lt_of_lt_of_le h h')
theorem get_lt_size {h : Heap} {b : Addr} {o : Obj} (e : h.get? b = some o) : b < h.objs.size := Heap.lt_size e
/-- self.f = y -/
theorem ost_one {y : V} {u : Value} {Q : Unit → Shared → Prop} {E : Value → Shared → Prop} {A : Around} (T : Own X.K newId bmB C) (SF : StoreFacts B bmB "object.__setattr__" "object") (I : Inv X pins σ H s) (e : H a = some (exo a C none)) (hno : PySem.W.findIn X.K (.ref C) f = some none) (ry : RelV y u)
    (h : ∀ dx s', H dx = none → dx ≠ a → Inv X pins σ (upd (upd H a (exo a C (some dx))) dx (exd dx [(f, y)])) s' → Q () s') : wpAny (model X.prog X.w) A (setAttr (.ref a) f u) Q E s := by
  obtain ⟨cd, hcd, hh⟩ := T.data
  obtain ⟨t1, ho⟩ := exo_at I.hok e
  obtain ⟨hp, g, d, t, os⟩ := s
  refine PySem.W.set_plain I.kIn (ox := { cls := .ref C, dict := none, data := .fields #[.ref t1, .none, .none, .none, .bool false, .none] }) (od := none) ⟨ho, rfl, rfl, trivial⟩ T.sa ?_
  refine osa_first SF I.kIn ho hcd T.over hh (taker_of hno) fun h' tk' dx k dn dne hx hns => ?_
  have hnd : H dx = none := I.hok.fresh dn
  have J := I.write (t' := tk') (x := a) (e := a) (o := exo a C (some dx)) (by rw [e]; exact True.intro) (.inl rfl) k ⟨_, hx⟩ (exo_ok hx)
  refine h dx _ hnd dne (adopt J (by rw [upd_ne dne]; exact hnd) ?_ ?_ ?_ ?_ (exd_ok hns (relO_put (fs := []) ry fun _ => True.intro)))
  · cases z : X.s_0.heap.get? dx with
    | none => rfl
    | some o => exact absurd rfl (low_ne (Nat.lt_of_lt_of_le (Heap.lt_size z) I.sz) dn)
  · exact Ne.symm (low_ne I.lt dn)
  · intro x c ec
    obtain ⟨v, ob, eo, _⟩ := I.cell x c ec
    exact low_ne (Heap.lt_size eo) dn
  · intro p hp'
    exact low_ne (Heap.lt_size (I.pin p hp').1) dn
/-- B.__init__(self, ..) -/
theorem oinit_any {us : List Value} {Q : Value → Shared → Prop} {E : Value → Shared → Prop} {A : Around} (T : Own X.K newId bmB C) (F : ExcBaseFacts B newId initId bmB) (I : Inv X pins σ H s) (e : H a = some (exo a C none)) (hl : us.length ≤ sizeLine) (h : ∀ s', Inv X pins σ H s' → Q .none s') :
    wpAny (model X.prog X.w) A (call (.builtin initId) (.ref a :: us)) Q E s := by
  obtain ⟨nm, q, N, bs, sn, sub, ab, col, dd, k0, k1, k2, k3, k5, hC⟩ := T.cls
  obtain ⟨t1, ho⟩ := exo_at I.hok e
  obtain ⟨hp, g, d, t, os⟩ := s
  refine wpAny_call (HandSPX.init_base F (fun _ => rfl) (I.kIn _ _ hC) ho hl fun h' t2 k hx => ?_)
  have J := I.write (t' := t) (x := a) (e := a) (o := exo a C none) (by rw [e]; exact True.intro) (.inl rfl) k ⟨_, hx⟩ (exo_ok hx)
  have eu : upd H a (exo a C none) = H := by
    funext b
    unfold upd
    split
    · rename_i z; rw [z, e]
    · rfl
  rw [eu] at J
  exact h _ J
def tBi (K : PySem.W.Frag) (newId : String) (bmB : List Value) (ta : TA) : TE := fun σ H Q => ta σ H fun vs H1 => ∃ (a C : Addr) (ws : List V), vs = .ref a :: ws ∧ ws.length ≤ 1000 ∧ Own K newId bmB C ∧ H1 a = some (exo a C none) ∧ Q .non H1
def tOs (K : PySem.W.Frag) (newId : String) (bmB : List Value) (f : Str) (to te : TE) : TS := fun D σ H => te σ H fun y H1 => to σ H1 fun x H2 => ∃ a C : Addr, x = .ref a ∧ Own K newId bmB C ∧ PySem.W.findIn K (.ref C) f = some none ∧ H2 a = some (exo a C none) ∧
  ∀ dx, H2 dx = none → dx ≠ a → D.nx σ (upd (upd H2 a (exo a C (some dx))) dx (exd dx [(f, y)]))
theorem pe_binit {n : Str} {o e : Expr} {es : List Expr} {ta : TA} {p1 p2 pos : Pos} {pl : Sem Bool} (F : ExcBaseFacts B newId initId bmB) (hg : Gl X n) (hm : X.mg n = none) (hv : bootBuiltins n = some (.type B)) (hn : n ≠ "__name__") (hdb : (n == ("__debug__" : Str)) = false)
    (hty : typeOf (.type B) = pure (.type "type")) (hst : Manifest.isStub B = false) (hha : PySem.W.handedIn (.builtin initId) = true) (vV : PySem.W.findCls X.K (.type B) (.type "type") "__init__" = some (.val (.builtin initId))) (ha : PA X (e :: es) ta)
    (hc : eval (.Call (.Attribute (.Name n p1) "__init__" p2) (e :: es) [] pos) X.env = (do
      let ov ← eval (.Name n p1) X.env
      standAt p2.atName
      let (f, first) ← holding [ov] (getMethod ov "__init__" pl)
      callWith pos f first (backTo pos (starEach (e :: es) X.env)) (backToKw pos (keywordEach [] X.env))) := by rfl)
    (he : starEach (e :: es) X.env = (false, eval e X.env) :: starEach es X.env := by rfl) (hpl : (backTo pos (starEach es X.env)).any (·.1) = false := by rfl) :
    PE X (.Call (.Attribute (.Name n p1) "__init__" p2) (e :: es) [] pos) (tBi X.K newId bmB ta) := by
  refine ⟨fun pins s σ H Q I h => PySem.W.methodCall_KW (ld_blt I hg hm hv ?_ hn hdb) hc⟩
  obtain ⟨m, fr⟩ := I.fr
  refine PySem.W.method_type fr I.ok.mod.kin hty hst vV hha ?_
  show wpAny _ _ (callWith pos (Value.builtin initId) [] (backTo pos (starEach (e :: es) X.env)) []) _ _ _
  refine PyProof.Rows.callWith_method1 (thn (ha.run pos pins _ σ H _ (I.tok _) h) fun us s1 ⟨vs, H1, I1, r1, a, C, ws, ev, hl, T, ea, q⟩ => ?_) he hpl
  subst ev
  cases r1 with
  | @cons _ u0 _ ur ra rr =>
    obtain rfl : u0 = Value.ref a := ra
    exact oinit_any T F I1 ea (by rw [← Paired.length rr, sizeLine_eq]; omega) fun s' J => ⟨.non, H1, J, rfl, q⟩
theorem ps_os {o e : Expr} {to te : TE} {p' pos : Pos} (SF : StoreFacts B bmB "object.__setattr__" "object") (ho : PE X o to) (he : PE X e te) (hs : swapsWith e (some (.Attribute o f p')) pos.line X.env = pure false := by rfl) : PS X (.Assign [.Attribute o f p'] e pos) (tOs X.K newId bmB f to te) := by
  refine ⟨fun pins s σ H D I h => plainObj_wpAny_Assign_Attribute (thn (he.run pins s σ H _ I h) fun v s1 ⟨y, H1, I1, r1, q1⟩ => thn (ho.run pins s1 σ H1 _ I1 q1) fun u s2 ⟨x, H2, I2, r2, a, C, ex, T, hno, ea, q⟩ => ?_) hs⟩
  subst ex
  obtain rfl : u = Value.ref a := r2
  exact ost_one T SF I2 ea hno r1 fun dx s' n ne J => ⟨σ, _, J, q dx n ne⟩
/-- the new error is let go: the heap without it -/
theorem mk_gone {hp hp2 h2 : Heap} {g1 g2 : Array GenState} {d1 d2 : Drawn} {t1 t2 : Nat} {os1 os2 : OsState} {dv : Option Addr} (I1 : Inv X pins σ H1 ⟨hp, g1, d1, t1, os1⟩)
    (ha : hp.objs.size ≤ a) (k : ∀ b o, hp.get? b = some o → hp2.get? b = some o) (un : Un (frs X.stack) [] (upd H1 a (exo a C none)) H2 hp2 h2) (hok : HOk X.prog X.w H2 h2) (ho : os2 = os1) (hb : AllBare g2) (ea : H2 a = some (exo a C dv)) :
    ∃ (t0 : Addr) (G : Heap), Inv X pins σ (del H2 a) ⟨G, g2, d2, t2, os2⟩ ∧ (∀ b o, G.get? b = some o → h2.get? b = some o) ∧ G.get? a = none ∧
      h2.get? a = some ({ cls := .ref C, dict := dv, data := .fields #[.ref t0, .none, .none, .none, .bool false, .none] } : Obj) := by
  obtain ⟨t0, hoe⟩ := exo_at hok ea
  have hn : H1 a = none := I1.hok.fresh ha
  obtain ⟨G, g1', g2'⟩ := restrict h2 fun b => decide (b ≠ a)
  have gk : ∀ b, b ≠ a → G.get? b = h2.get? b := fun b q => g1' b (decide_eq_true q)
  have ga : G.get? a = none := g2' a (decide_eq_false (fun z => z rfl))
  have na : ∀ {b : Addr} {o : Obj}, hp.get? b = some o → b ≠ a := fun q => low_ne (Heap.lt_size q) ha
  have up : ∀ {b : Addr}, b ≠ a → H1 b = none → upd H1 a (exo a C none) b = none := fun q n => by rw [upd_ne q]; exact n
  have tr : ∀ {b : Addr} {u : HO}, H1 b = some u → upd H1 a (exo a C none) b = some u ∧ b ≠ a := fun q => ⟨by rw [upd_ne (ne_of_none q hn)]; exact q, ne_of_none q hn⟩
  have U : Un (frs X.stack) [] H1 (del H2 a) hp G := {
    keep := fun b o z n hf hx => by rw [gk b (na z)]; exact un.keep b o (k b o z) (up (na z) n) hf hx
    slot := fun b o z n hf hx => by rw [gk b (na z)]; exact un.slot b o (k b o z) (up (na z) n) hf hx
    free := fun b o z n hx => by rw [del_ne (na z)]; exact un.free b o (k b o z) (up (na z) n) hx
    there := fun b o z hx => by rw [gk b (na z)]; exact un.there b o (k b o z) hx
    tups := fun b xs z => by rw [del_ne (tr z).2]; exact un.tups b xs (tr z).1
    frzs := fun b o v z => by rw [del_ne (tr z).2]; exact un.frzs b o v (tr z).1
    tbls := fun b ps z => by rw [del_ne (tr z).2]; exact un.tbls b ps (tr z).1 }
  have hok3 : HOk X.prog X.w (del H2 a) G := fun b o z => by
    have hba : b ≠ a := fun e => by rw [e, del_same] at z; cases z
    rw [del_ne hba] at z
    have noa : ∀ {c : Addr}, H2 c = some (.own b) → c ≠ a := fun hc => at_ne ea hc exo_own
    refine (hok b o z).stay (fun c v hc y => ?_) (fun c hc => by rw [del_ne (noa hc)]; exact hc) (fun c xs hc => by rw [del_ne (at_ne ea hc exo_tup)]; exact hc)
    have hca : c ≠ a := hc.elim (fun q => by rw [q]; exact hba) noa
    rw [gk c hca]; exact y
  have J : Inv X pins σ (del H2 a) ⟨G, g2, d2, t2, os2⟩ := I1.call' (ch := []) ho U hok3 hb (fun b z => absurd z (by simp))
  refine ⟨t0, G, J, fun b o z => ?_, ga, hoe⟩
  by_cases hba : b = a
  · rw [hba, ga] at z; cases z
  · exact (gk b hba).symm.trans z
/-- C(e, ..), C's own __init__ keeping sp -/
def tMkE (C : Addr) (sp : Sp) (ta : TA) : L2.St → Hp → XK → Prop := fun σ H Q => ta σ H fun vs H1 => vs.length ≤ 1000 ∧ ∀ a, H1 a = none → sp (.ref a :: vs) (upd H1 a (exo a C none))
  (fun v H2 => v = .non ∧ ((H2 a = some (exo a C none) ∧ Q (.ref C) none (del H2 a)) ∨ ∃ (d : Addr) (fs : List (Str × V)), H2 a = some (exo a C (some d)) ∧ H2 d = some (exd d fs) ∧ Q (.ref C) (some d) (upd (del H2 a) d (.xd fs)))) (fun _ _ _ => False)
/-- what such a call leaves -/
theorem made_run {vs : List V} {us : List Value} {fI : Addr} {k : Nat} {fd : FuncData} {ps : List Str} {sp : Sp} {Q : XK} {CX : CXT} (T : Own X.K newId bmB C) (F : ExcBaseFacts B newId initId bmB) (iC : PySem.W.findIn X.K (.ref C) "__init__" = some (some (.ref fI))) (tI : PySem.W.typeIn X.K (.ref fI) = some (.type "function"))
    (F1 : FnOk X.prog X.w X.K X.mg X.base CX k fI fd ps sp) (hr : Room (k + 1) X.A) (hb : Binds X.K fd ps []) (hx : Passes CX X (fun _ _ _ => False)) (I1 : Inv X pins σ H1 s) (r1 : Vals vs us) (hz : vs.length ≤ 1000)
    (q1 : ∀ a, H1 a = none → sp (.ref a :: vs) (upd H1 a (exo a C none)) (fun v H2 => v = .non ∧ ((H2 a = some (exo a C none) ∧ Q (.ref C) none (del H2 a)) ∨ ∃ (d : Addr) (fs : List (Str × V)), H2 a = some (exo a C (some d)) ∧ H2 d = some (exd d fs) ∧ Q (.ref C) (some d) (upd (del H2 a) d (.xd fs)))) (fun _ _ _ => False)) :
    wpAny (model X.prog X.w) X.A (call (.ref C) us) (MkP X pins σ Q) X.xe s := by
  obtain ⟨nm, q, N, bs, sn, sub, ab, col, dd, k0, k1, k2, k3, k5, hC⟩ := T.cls
  obtain ⟨hp, g, dr, tk, os⟩ := s
  have hsz : hp.objs.size ≤ hp.objs.size + 1 := Nat.le_succ _
  have hq := q1 (hp.objs.size + 1) (I1.hok.fresh hsz)
  obtain ⟨hp2, ehp⟩ : ∃ hp2, hp2 = (hp.push (PySem.W.kdv_tup us)).push (HandSPX.excO C hp.objs.size) := ⟨_, rfl⟩
  have kk : ∀ b o, hp.get? b = some o → hp2.get? b = some o := fun b o e => by rw [ehp]; exact Heap.get?_push_of_some _ (Heap.get?_push_of_some _ e)
  have hget : hp2.get? (hp.objs.size + 1) = some (HandSPX.excO C hp.objs.size) := by rw [ehp]; heap_get
  have I2 : Inv X pins σ (upd H1 (hp.objs.size + 1) (exo (hp.objs.size + 1) C none)) ⟨hp2, g, dr, tk, os⟩ := I1.laid (t' := tk) kk hsz (exo_ok hget)
  have r2 : Vals (V.ref (hp.objs.size + 1) :: vs) (Value.ref (hp.objs.size + 1) :: us) := .cons rfl r1
  have hl : (Value.ref (hp.objs.size + 1) :: us ++ []).length = ps.length := by
    rw [List.append_nil, ← r2.length]; exact F1.len _ _ _ _ hq
  have hus : us.length ≤ sizeLine := by rw [← Paired.length r1, sizeLine_eq]; omega
  refine wpAny_call (HandSPX.call_own F (fun _ => rfl) (I1.kIn _ _ hC) (PySem.W.looks_findIn I1.kIn iC) (fun self => PySem.W.bind_fn I1.kIn self tI) hus ?_)
  rw [← ehp]
  refine codeAny_mono (F1.run _ X.stack _ _ ⟨Value.ref (hp.objs.size + 1) :: us, []⟩ (Value.ref (hp.objs.size + 1) :: us) _ _ (fun _ _ _ => False) (hr.make C us []) (I2.env0.make C us []) ?_ r2 hq) fun r s' hq' => ?_
  · have z := hb ⟨hp2, g, dr, tk, os⟩ (Value.ref (hp.objs.size + 1) :: us) I2.kIn hl
    rw [List.append_nil] at z; exact z
  cases r with
  | error er => exact hx pins σ _ _ er s' I2 hq'
  | ok fl =>
    cases fl with
    | ret u =>
      obtain ⟨v, H2, os2, bare2, un2, hok2, rv, ev, alt⟩ := hq'
      subst ev
      obtain ⟨h2, g2, d2, t2, os'⟩ := s'
      refine ⟨rv, ?_⟩
      rcases alt with ⟨ea, q2⟩ | ⟨d, fs, ea, ed, q2⟩
      · obtain ⟨t0, G, J, kG, ge, hoe⟩ := mk_gone (d2 := d2) (t2 := t2) I1 hsz kk un2 hok2 os2 bare2 ea
        exact ⟨_, _, _, ⟨G, g2, d2, t2, os'⟩, _, .ref C, none, rfl, J, kG, ge, hoe, ⟨rfl, rfl⟩, rfl, rfl, del_same, rfl, bare2, raises_own T.exC T.tyC, q2⟩
      · obtain ⟨t0, G, J, kG, ge, hoe⟩ := mk_gone (d2 := d2) (t2 := t2) I1 hsz kk un2 hok2 os2 bare2 ea
        have hda : d ≠ hp.objs.size + 1 := fun z => by
          rw [z] at ed
          obtain ⟨mA, ⟨ob, es, ep, e1, e2, _⟩, _⟩ := exd_at hok2 ed
          rw [hoe] at e1
          have z2 := Option.some.inj e1
          subst z2
          cases e2
        have ed' : del H2 (hp.objs.size + 1) d = some (exd d fs) := by rw [del_ne hda]; exact ed
        obtain ⟨mA, ns, rel⟩ := exd_at J.hok ed'
        have J2 := J.write (t' := t2) (h' := G) (x := d) (e := d) (o := .xd fs) (by rw [ed']; exact True.intro) (.inl rfl) (fun _ _ _ z => z) (by obtain ⟨ob, _, _, e1, _⟩ := ns; exact ⟨ob, e1⟩) ⟨mA, ns, rel⟩
        exact ⟨_, _, _, ⟨G, g2, d2, t2, os'⟩, _, .ref C, some d, rfl, J2, kG, ge, hoe, ⟨rfl, rfl⟩, rfl, rfl, by rw [upd_ne (Ne.symm hda)]; exact del_same, rfl, bare2, raises_own T.exC T.tyC, q2⟩
    | next => exact False.elim hq'
    | brk => exact False.elim hq'
    | cont => exact False.elim hq'
theorem pmk_e {x : Str} {fI : Addr} {k : Nat} {fd : FuncData} {ps : List Str} {sp : Sp} {CX : CXT} {e : Expr} {es : List Expr} {ta : TA} {p pos : Pos} (T : Own X.K newId bmB C) (F : ExcBaseFacts B newId initId bmB) (iC : PySem.W.findIn X.K (.ref C) "__init__" = some (some (.ref fI))) (tI : PySem.W.typeIn X.K (.ref fI) = some (.type "function"))
    (F1 : FnOk X.prog X.w X.K X.mg X.base CX k fI fd ps sp) (hr : Room (k + 1) X.A) (hb : Binds X.K fd ps []) (hx : Passes CX X (fun _ _ _ => False)) (hg : Gl X x) (hm : X.mg x = some (.ref C)) (ha : PA X (e :: es) ta)
    (hdb : (x == ("__debug__" : Str)) = false := by decide) (he : starEach (e :: es) X.env = (false, eval e X.env) :: starEach es X.env := by rfl) (hpl : (backTo pos (starEach es X.env)).any (·.1) = false := by rfl) :
    PMk X (.Call (.Name x p) (e :: es) [] pos) (tMkE C sp ta) := by
  intro pins s σ H Q I h
  refine wpAny_Call_Name_kw (ld_glob I hg hm ?_ hdb)
  exact PySem.W.callWith_K (h₀ := X.base) I.ok.mod.kin T.kC (thn (ha.run pos pins s σ H _ I h) fun us s1 ⟨vs, H1, I1, r1, hz, q1⟩ => ⟨I1.kIn, made_run T F iC tI F1 hr hb hx I1 r1 hz q1⟩) he hpl
end
end Pc
namespace Pc
open PySem PySem.Spec PyProof.Rows L2 RZ
/-! ### errors of the program: caught, kept, looked at -/
section
open PySem.W
variable {M : Model} {K : Frag} {h : Heap}
theorem Looks.bind' {α β : Type} {x : Sem α} {f : α → Sem β} {a : α} {b : β} (hx : Looks M h x a) (hf : Looks M h (f a) b) : Looks M h (x >>= f) b := fun A Q E s k q =>
  wpAny_bind (hx A _ E s k (hf A Q E s k q))
theorem loop_all {α β : Type} {f : α → β → Sem (ForInStep β)} {b : β} : ∀ cs : List α, (∀ c ∈ cs, Looks M h (f c b) (.yield b)) → Looks M h (forIn cs b f) b
  | [], _ => by rw [List.forIn_nil]; exact .now
  | c :: cs, hc => by
    rw [List.forIn_cons]
    exact Looks.bind' (hc c List.mem_cons_self) (loop_all cs fun c' h' => hc c' (List.mem_cons_of_mem _ h'))
theorem loop_any {α β : Type} {f : α → β → Sem (ForInStep β)} {b b1 : β} : ∀ (bs : List Bool) (cs : List α), bs.length = cs.length → bs.any id = true → (∀ (i : Nat) (c : α) (y : Bool), cs[i]? = some c → bs[i]? = some y → Looks M h (f c b) (if y = true then .done b1 else .yield b)) → Looks M h (forIn cs b f) b1
  | [], [], _, e, _ => absurd e (by decide)
  | y :: bs, c :: cs, hl, e, hc => by
    rw [List.forIn_cons]
    have h0 := hc 0 c y rfl rfl
    cases y with
    | true => exact Looks.bind' h0 .now
    | false => exact Looks.bind' h0 (loop_any bs cs (Nat.succ.inj hl) e fun i c' y' h1 h2 => hc (i + 1) c' y' h1 h2)
/-- an except clause with several classes, of which one is the error's -/
theorem exm_some {cls : Value} {cs : List Value} {tp e : Addr} {o : Obj} {n : Nat} (X : K.In h) (LT : Looks M h (typeOf (.ref e)) cls) (hp : h.get? tp = some o) (hc : o.cls = .type "tuple") (hd : o.data = .seq cs.toArray n) (bs : List Bool) (hl : bs.length = cs.length) (hb : bs.any id = true)
    (hx : ∀ (i : Nat) (c : Value) (y : Bool), cs[i]? = some c → bs[i]? = some y → exmOne K cls c = some y) : Looks M h (excMatches (.ref e) (.ref tp)) true := by
  have at_ : ∀ c ∈ cs, ∃ y, exmOne K cls c = some y := fun c hm => by
    obtain ⟨i, hi, rfl⟩ := List.getElem_of_mem hm
    exact ⟨bs[i]'(by omega), hx i _ _ (List.getElem?_eq_getElem hi) (List.getElem?_eq_getElem _)⟩
  have L0 : Looks M h (isInstance (.ref tp) (.type "tuple")) true := fun A Q E s k q => by
    refine wpAny_bind (wpAny_typeOf_ref (k _ _ hp) ?_)
    rw [hc]
    exact (Looks.of_pure isSubtype_tuple_tuple) A Q E s k q
  unfold excMatches
  refine Looks.bind' L0 ?_
  dsimp only
  rw [if_pos rfl]
  refine Looks.bind' (a := some cs.toArray) (fun A Q E s k q => wpAny_seqItems (k _ _ hp) hd q) ?_
  refine Looks.bind' (a := cs) .now ?_
  refine Looks.bind' (a := PUnit.unit) (loop_all cs fun c hm => ?_) ?_
  · obtain ⟨y, hy⟩ := at_ c hm
    refine Looks.bind' (exm_cls X hy).1 ?_
    exact .now
  refine Looks.bind' LT ?_
  refine Looks.bind' (loop_any (b1 := (some true, ())) bs cs hl hb fun i c y h1 h2 => Looks.bind' (exm_cls X (hx i c y h1 h2)).2 ?_) ?_
  · cases y <;> exact .now
  · exact .now
end
end Pc
namespace Pc
open PySem PySem.Spec PyProof.Rows L2 RZ
/-- an error that was caught and is kept: its class, its dict -/
def exk (a : Addr) (cls : Value) (d : Option Addr) : HO := .ext fun h => ∃ (oe : Obj) (vs : Array Value), h.get? a = some oe ∧ Zc cls d oe ∧ oe.data = .fields vs
theorem exk_ok {P : Program} {w : World} {H : Hp} {h : Heap} {a : Addr} {cls : Value} {d : Option Addr} {oe : Obj} {vs : Array Value} (e : h.get? a = some oe) (z : Zc cls d oe) (q : oe.data = .fields vs) : ObjOk P w H h a (exk a cls d) :=
  ⟨⟨oe, vs, e, z, q⟩, ⟨oe, e⟩, fun _ _ ⟨o, v, r, r'⟩ k => ⟨o, v, k o r, r'⟩⟩
theorem exk_at {P : Program} {w : World} {H : Hp} {h : Heap} {a : Addr} {cls : Value} {d : Option Addr} (hok : HOk P w H h) (e : H a = some (exk a cls d)) : ∃ (oe : Obj) (vs : Array Value), h.get? a = some oe ∧ Zc cls d oe ∧ oe.data = .fields vs := by
  have x : ObjOk P w H h a (.ext fun h => ∃ (oe : Obj) (vs : Array Value), h.get? a = some oe ∧ Zc cls d oe ∧ oe.data = .fields vs) := hok a _ e
  exact x.1
theorem fly_keeps {B h h' : Heap} {l : List PySem.Env} {e : Addr} {Z : Obj → Prop} (R : HandSPX.FlyingZ B l e Z h) (k : ∀ b o, h.get? b = some o → h'.get? b = some o) : HandSPX.FlyingZ B l e Z h' := by
  obtain ⟨f1, f2, f3, oe, ws, T, oT, ts, r1, r2, r3, r4, r5, r6, r7, r8⟩ := R
  exact ⟨fun b o q => k b o (f1 b o q), f2, f3.of_keeps fun b o q _ => ⟨o, k b o q, rfl⟩, oe, ws, T, oT, ts, k _ _ r1, r2, r3, r4, r5, r6, k _ _ r7, r8⟩
/-- names of classes, one by one -/
def NamesAll (X : Cx) (es : List Expr) (cs : List Value) : Prop := Paired (fun (e : Expr) c => ∃ (x : Str) (p : Pos), e = .Name x p ∧ Names X x c) es cs
theorem names_run {X : Cx} {pins : List (Addr × Obj)} {σ : L2.St} {H : Hp} {s : Shared} {E : Value → Shared → Prop} {pos : Pos} (I : Inv X pins σ H s) :
    ∀ {es : List Expr} {cs : List Value} {Q : List Value → Shared → Prop}, NamesAll X es cs → Q cs s → wpAny (model X.prog X.w) X.A (spliced (backTo pos (starEach es X.env))) Q E s := by
  intro es cs Q h
  revert Q
  induction h with
  | nil => intro Q q; exact wpAny_items_nil q
  | cons h1 _ ih =>
    intro Q q
    obtain ⟨x, p, rfl, hg, hdb, hm⟩ := h1
    refine wpAny_items_cons ?_
    rcases hm with hm | ⟨hm, hv, hn⟩
    · exact ld_glob I hg hm (ih q) hdb
    · exact ld_blt I hg hm hv (ih q) hn hdb
/-- of which classes the error is -/
def Hits (K : PySem.W.Frag) (cls : Value) (cs : List Value) : Prop := ∃ bs : List Bool, bs.length = cs.length ∧ bs.any id = true ∧ ∀ (i : Nat) (c : Value) (y : Bool), cs[i]? = some c → bs[i]? = some y → PySem.W.exmOne K cls c = some y
/-- what 'except (..) as n: suite' wishes of an error of the body (slot i is n's): the error is kept -/
def wKept (K : PySem.W.Frag) (cs : List Value) (i : Nat) (ts : Addr → TS) (D : Ends) : WX := fun cls d σ H => Hits K cls cs ∧ ∀ a, H a = none →
  ts a { nx := fun σ' H' => D.nx (σ'.set i none) (upd H' a (exk a cls d)), rt := fun _ _ => False } (σ.set i (some (.ref a))) H
section
variable {X : Cx} {n : Str} {i : Nat} {body suite : List Stmt} {b₀ : Stmt} {es : List Expr} {cs : List Value} {kk : Nat} {tpos pos pos' : Pos} {tb : WX → TS} {ts : Addr → TS}
theorem ps_try_kept (hex : X.ex = []) (hs : X.stack = X.env :: X.outer) (hf : X.env.frame = some X.env.locals) (hN : X.N.Nodup) (hi : X.N[i]? = some n) (hln : X.env.kindOf n = some .local) (hc : NamesAll X es cs) (hcl : cs.length ≤ 1000)
    (hb : ∀ (W : WX) (pn : List (Addr × Obj)) (xe : Value → Shared → Prop), Takes (X.tr pn xe) W → PassesOwn (model X.prog X.w) X.A X.env xe → PSs (X.tr pn xe) body (tb W))
    (hsu : ∀ (a : Addr) (oe : Obj) (pn : List (Addr × Obj)), PSs (X.suite a ((a, oe) :: pn)) (b₀ :: suite) (ts a)) :
    PS X (.Try body [.ExceptHandler (some (.Tuple es kk tpos)) (some n) (b₀ :: suite) pos'] [] [] pos) (fun D σ H => tb (wKept X.K cs i ts D) D σ H) := by
  refine ⟨fun pins s σ H D I h => ?_⟩
  have ok := I.ok
  have hfr : X.A.frames = some (X.env :: X.outer) := by rw [ok.frames, hs]
  refine wpAny_Try_except (wpAny_mono ((hb (wKept X.K cs i ts D) (X.pn ++ pins) (fun e s₁ => wpAny (model X.prog X.w) X.A (noteFrame e X.env) (fun _ s₂ => wpAny (model X.prog X.w) X.A (setFlight e none) (fun _ s₃ =>
    wpAny (model X.prog X.w) X.A (handleBy e X.env [.ExceptHandler (some (.Tuple es kk tpos)) (some n) (b₀ :: suite) pos']) (SP X pins D) X.xe s₃) X.xe s₂) X.xe s₁) (fun u s' xx => ?_) PassesOwn.looking).run [] s σ H D (I.toTry _) h) (fun f s1 hsp => ?_) (fun e s1 he => he))
  · obtain ⟨a, B, sI, pins', σ', H', cls, d, rfl, J', nb, up, sky, na, os, ag, ⟨bs, hbl, hba, hbx⟩, hyes⟩ := xx
    have J : Inv X pins σ' H' sI := J'.ofTry ok
    rw [hs] at sky
    show wpAny (model X.prog X.w) X.A (noteFrame (.ref a) X.env) _ _ _
    refine Sky.land Zc.steady hfr hf sky fun h3 fl3 up3 => ?_
    obtain ⟨oe3, vs3, he3, hz3, hd3⟩ := fl3.there
    have nfr : a ∉ frs (X.env :: X.outer) := fun hm => by
      obtain ⟨_, o', e', hnf⟩ := fl3.2.2.1.mem hm
      rw [he3] at e'; cases e'
      exact hnf _ hd3
    have nL : a ≠ X.env.locals := fun z => nfr (List.mem_filterMap.mpr ⟨X.env, List.mem_cons_self, by rw [hf, z]⟩)
    have nF : a ∉ X.fs := fun hm => by
      obtain ⟨e, he, q⟩ := List.mem_filterMap.mp hm
      exact nfr (List.mem_filterMap.mpr ⟨e, List.mem_cons_of_mem _ he, q⟩)
    have nI : sI.heap.get? a = none := by
      cases z : sI.heap.get? a with
      | none => rfl
      | some o =>
        have y := nb a o z (by rw [hs]; exact nfr)
        rw [fl3.2.1] at y; cases y
    have J3 : Inv X pins σ' H' { s' with heap := h3 } := J.landed nb fl3.1 (up.trans up3) os ag
    have S3 := J3.suite he3 hd3 na nL nF
    refine wpAny_handleBy_cons (codeAny_handlers_test (wpAny_Tuple_spliced (names_run (X := X.suite a ((a, oe3) :: (X.pn ++ pins))) (cs := cs) S3 (L2.Paired.mapP hc fun _ _ z => z) ⟨by rw [sizeLine_eq]; omega, ?_⟩))) (by intro q; cases q)
    dsimp only
    have kp : ∀ b o, h3.get? b = some o → (h3.push { cls := .type "tuple", data := .seq cs.toArray }).get? b = some o := fun _ _ z => Heap.get?_push_of_some _ z
    have LT : PySem.W.Looks (model X.prog X.w) (h3.push { cls := .type "tuple", data := .seq cs.toArray }) (typeOf (.ref a)) cls := fun A Q E s k q => wpAny_typeOf_ref (k _ _ (kp _ _ he3)) (by rw [hz3.1]; exact q)
    refine (exm_some (J3.kIn.keeps kp) LT (Heap.get?_push_size h3 rfl) rfl rfl bs hbl hba hbx).here ?_
    refine codeAny_handlers_suite_as (HandSPX.lands_againZ (fly_keeps fl3 kp) fun h4 fl4 up4 => ?_)
    have J4 : Inv X pins σ' H' { s' with heap := h4 } := J.landed nb fl4.1 (((up.trans up3).trans (Heap.UpToSlots.of_keeps kp)).trans up4) os ag
    obtain ⟨oe4, vs4, he4, hz4, hd4⟩ := fl4.there
    have S4 := J4.suite he4 hd4 na nL nF
    refine store_ok (X := X.suite a ((a, oe4) :: (X.pn ++ pins))) (v := .ref a) S4 hN hi (.inl hln) rfl (fun s5 S5 => ?_) (.inr hln)
    refine wpAny_mono ((hsu a oe4 (X.pn ++ pins)).run [] s5 _ H' _ S5 (hyes a na)) (fun f s6 hsp => ?_) (fun _ _ z => False.elim z)
    cases f with
    | next =>
      obtain ⟨σ6, H6, S6, q6⟩ := hsp
      refine gone_ok (X := X.suite a ((a, oe4) :: (X.pn ++ pins))) S6 hN hi hln fun s7 S7 => ⟨_, _, adopt (S7.unsuite ok) ?_ ?_ nL ?_ ?_ ?_, q6⟩
      · exact (S7.pin (a, oe4) (List.mem_append_left _ List.mem_cons_self)).2.1
      · cases z : X.s_0.heap.get? a with
        | none => rfl
        | some o =>
          obtain ⟨o', y⟩ := J.base.there a o z (by rw [hex]; exact fun q => nomatch q)
          rw [nI] at y; cases y
      · intro x c ec z
        obtain ⟨v, ob, eo, _⟩ := J.cell x c ec
        rw [z, nI] at eo; cases eo
      · intro p hp z
        have y := (J.pin p hp).1
        rw [z, nI] at y; cases y
      · exact exk_ok (S7.pin (a, oe4) (List.mem_append_left _ List.mem_cons_self)).1 hz4 hd4
    | brk => obtain ⟨σ6, H6, S6, q6⟩ := hsp; exact q6.elim
    | cont => obtain ⟨σ6, H6, S6, q6⟩ := hsp; exact q6.elim
    | ret u => obtain ⟨v6, σ6, H6, S6, r6, q6⟩ := hsp; exact q6.elim
  · cases f with
    | next => obtain ⟨σ', H', J', q⟩ := hsp; exact wpAny_execs_nil ⟨σ', H', J'.ofTry ok, q⟩
    | brk => obtain ⟨σ', H', J', q⟩ := hsp; exact ⟨σ', H', J'.ofTry ok, q⟩
    | cont => obtain ⟨σ', H', J', q⟩ := hsp; exact ⟨σ', H', J'.ofTry ok, q⟩
    | ret u => obtain ⟨v, σ', H', J', r, q⟩ := hsp; exact ⟨v, σ', H', J'.ofTry ok, r, q⟩
end
end Pc
namespace Pc
open PySem PySem.Spec PyProof.Rows L2 RZ
/-- what isinstance asks of the class of a kept error -/
structure KeptC (K : PySem.W.Frag) (C : Addr) : Prop where
  ga : PySem.W.findIn K (.ref C) "__getattribute__" = some (some (.builtin "BaseException.__getattribute__"))
  gg : PySem.W.findIn K (.ref C) "__getattr__" = some none
  exC : PySem.W.subIn K (.ref C) (.type "BaseException") = some true
  hdC : PySem.W.hasDictIn K C = true
  clC : PySem.W.findIn K (.ref C) "__class__" = some (some (.builtin "object.__class__"))
  mrO : PySem.W.mroIn K C (.type "object") = some true
  sp : PySem.W.specialIn K (.builtin "object.__class__") "__get__" = some (some (.builtin "getset_descriptor.__get__"))
  tk : PySem.W.takesIn K (.builtin "object.__class__") = some true
/-- a kept error with its dict -/
def Kept (H : Hp) (a C : Addr) (d : Option Addr) : Prop := H a = some (exk a (.ref C) d) ∧ (d = none ∨ ∃ dd fs, d = some dd ∧ H dd = some (.xd fs))
section
variable {X : Cx} {pins : List (Addr × Obj)} {σ : L2.St} {H : Hp} {s : Shared} {a C : Addr} {d : Option Addr}
theorem kept_inst (I : Inv X pins σ H s) (h : Kept H a C d) : ∃ (oe : Obj) (od : Option Obj), PySem.W.InstAt s.heap a oe C od := by
  obtain ⟨e, hd⟩ := h
  obtain ⟨oe, vs, ho, hz, hv⟩ := exk_at I.hok e
  have nc : PySem.W.notCls oe = true := by unfold PySem.W.notCls; rw [hv] <;> rfl
  rcases hd with rfl | ⟨dd, fs, rfl, ed⟩
  · exact ⟨oe, none, ho, hz.1, nc, by rw [hz.2]; trivial⟩
  · obtain ⟨mA, ⟨od, es, ep, q, _⟩, _⟩ := (show ObjOk X.prog X.w H s.heap dd (.xd fs) from I.hok dd _ ed)
    exact ⟨oe, some od, ho, hz.1, nc, by rw [hz.2]; exact q⟩
theorem kept_kit (T : KeptC X.K C) {oe : Obj} {od : Option Obj} : PySem.W.KitX X.K (.ref a) (.ref C) (fun h => PySem.W.InstAt h a oe C od) :=
  PySem.W.kitx_exc (by obtain ⟨cd, hc, _⟩ := PySem.W.any_some T.hdC; rw [hc]; rfl) T.ga T.gg T.exC T.clC T.sp T.tk T.mrO
/-- isinstance(e, c), e a kept error -/
def rIsk (K : PySem.W.Frag) : List V → Hp → VK → Prop := fun xs H Q => ∃ (a C : Addr) (d : Option Addr) (c : V) (u : Value) (b : Bool), xs = [.ref a, c] ∧ Kept H a C d ∧ KeptC K C ∧ ClsV c u ∧ PySem.W.kitOne K (.ref C) u = some b ∧ Q (.bl b) H
theorem call_isk : CallR X (.builtin "isinstance") (rIsk X.K) := by
  intro pins s σ H xs us Q I r h
  obtain ⟨a, C, d, c, u, b, rfl, hk, T, k, e, q⟩ := h
  obtain ⟨u1, u2, rfl, r1, r2⟩ := vals2 r
  cases (show u1 = Value.ref a from r1)
  have e2 := k.eq r2
  subst e2
  obtain ⟨oe, od, J⟩ := kept_inst I hk
  exact PySem.W.kia_one (kept_kit T) I.kIn J e (fun z => nomatch z) fun tk => ⟨.bl b, H, I.tok tk, rfl, q⟩
/-- isinstance(e, (c, ..)) -/
def rIskT (K : PySem.W.Frag) : List V → Hp → VK → Prop := fun xs H Q => ∃ (a C : Addr) (d : Option Addr) (tp : Addr) (cs : List V) (us : List Value) (b : Bool), xs = [.ref a, .ref tp] ∧ Kept H a C d ∧ KeptC K C ∧ H tp = some (.tup cs) ∧ Paired ClsV cs us ∧ PySem.W.kitAny K (.ref C) us = some b ∧ Q (.bl b) H
theorem call_iskT : CallR X (.builtin "isinstance") (rIskT X.K) := by
  intro pins s σ H xs us Q I r h
  obtain ⟨a, C, d, tp, cs, ws, b, rfl, hk, T, hT, k, e, q⟩ := h
  obtain ⟨u1, u2, rfl, r1, r2⟩ := vals2 r
  cases (show u1 = Value.ref a from r1)
  cases (show u2 = Value.ref tp from r2)
  obtain ⟨oe, od, J⟩ := kept_inst I hk
  obtain ⟨_, its, rv, o, h1, h2, n, h3⟩ := (show ObjOk X.prog X.w H s.heap tp (.tup cs) from I.hok tp _ hT)
  have e3 := ClsV.all k rv
  subst e3
  obtain ⟨oc, od', dt, sl⟩ := o
  simp only at h2 h3
  subst h2 h3
  exact PySem.W.kia_tup (kept_kit T) I.kIn J h1 e (fun z => nomatch z) fun tk => ⟨.bl b, H, I.tok tk, rfl, q⟩
/-- e.f, e a kept error -/
def tKf (K : PySem.W.Frag) (f : Str) (te : TE) : TE := fun σ H Q => te σ H fun x H1 => ∃ (a C dd : Addr) (fs : List (Str × V)) (v : V), x = .ref a ∧ H1 a = some (exk a (.ref C) (some dd)) ∧ KeptC K C ∧ PySem.W.findIn K (.ref C) f = some none ∧ H1 dd = some (.xd fs) ∧ fs.lookup f = some v ∧ Q v H1
theorem pe_kf {e : Expr} {te : TE} {f : Str} {pos : Pos} (he : PE X e te) (hb : attributeBase e f X.env (eval e X.env) = eval e X.env := by rfl) : PE X (.Attribute e f pos) (tKf X.K f te) := by
  refine ⟨fun pins s σ H Q I h => attr_of hb (thn (he.run pins s σ H _ I h) fun u s1 hh => ?_)⟩
  obtain ⟨x, H1, I1, rx, a, C, dd, fs, v, ex, ea, T, hno, ed, l, q⟩ := hh
  subst ex
  obtain rfl : u = Value.ref a := rx
  obtain ⟨oe, vs, ho, hz, hv⟩ := exk_at I1.hok ea
  obtain ⟨mA, hns, hr⟩ := (show ObjOk X.prog X.w H1 s1.heap dd (.xd fs) from I1.hok dd _ ed)
  obtain ⟨od, hod, hl⟩ := lookIn_ns hns
  obtain ⟨w', hw, rw'⟩ := RelO.some_of (v := v) (o := mA f) (by rw [← l]; exact hr f)
  have J : PySem.W.InstAt s1.heap a oe C (some od) := ⟨ho, hz.1, by unfold PySem.W.notCls; rw [hv] <;> rfl, by rw [hz.2]; exact hod⟩
  exact HandSPX.exc_get I1.kIn J T.ga T.gg T.exC (PySem.W.findObj_own T.hdC hno rfl (by rw [hl, hw])) (handed_of rw') ⟨v, H1, I1.tok _, rw', q⟩
end
end Pc
namespace Pc
open PySem PySem.Spec PyProof.Rows L2 RZ
/-! ### errors with one field: made, flying -/
/-- an error of the class at C with the field f flies, from the heap H on -/
def Flies (C : Addr) (f : Str) (v : V) (H : Hp) (E : XK) : Prop := ∀ d H', Same H H' → H d = none → H' d = some (.xd [(f, v)]) → E (.ref C) (some d) H'
theorem Flies.same {C : Addr} {f : Str} {v : V} {H H1 : Hp} {E : XK} (h : Flies C f v H E) (s : Same H H1) : Flies C f v H1 E := fun d H' s' n e => h d H' (s.trans s') (s.free n) e
def spInit1 (C : Addr) (f : Str) : Sp := fun vs H Q _ => ∃ (a : Addr) (v : V), vs = [.ref a, v] ∧ H a = some (exo a C none) ∧ ∀ dx, H dx = none → dx ≠ a → Q .non (upd (upd H a (exo a C (some dx))) dx (exd dx [(f, v)]))
theorem raised1 {C : Addr} {f : Str} {v : V} {H1 : Hp} {Q : XK} (h : Flies C f v H1 Q) : [v].length ≤ 1000 ∧ ∀ a, H1 a = none → spInit1 C f (.ref a :: [v]) (upd H1 a (exo a C none))
    (fun v' H2 => v' = .non ∧ ((H2 a = some (exo a C none) ∧ Q (.ref C) none (del H2 a)) ∨ ∃ (d : Addr) (fs : List (Str × V)), H2 a = some (exo a C (some d)) ∧ H2 d = some (exd d fs) ∧ Q (.ref C) (some d) (upd (del H2 a) d (.xd fs)))) (fun _ _ _ => False) := by
  refine ⟨(by show 1 ≤ 1000; decide), fun a na => ⟨a, v, rfl, upd_same, fun dx nd ne => ⟨rfl, .inr ⟨dx, [(f, v)], ?_, upd_same, h dx _ ?_ ?_ upd_same⟩⟩⟩⟩
  · rw [upd_ne (Ne.symm ne), upd_same]
  · intro b o hb
    have nd' : H1 dx = none := by rw [upd_ne ne] at nd; exact nd
    have hbd := ne_of_none hb nd'
    have hba := ne_of_none hb na
    rw [upd_ne hbd, del_ne hba, upd_ne hbd, upd_ne hba, upd_ne hba]
    exact hb
  · rw [upd_ne ne] at nd; exact nd
/-- the try's wish of such an error -/
theorem kept1 {K : PySem.W.Frag} {C : Addr} {f : Str} {v : V} {cs : List Value} {i : Nat} {ts : Addr → TS} {D : Ends} {σ : L2.St} {H : Hp} (hh : Hits K (.ref C) cs)
    (h : ∀ d H' a, Same H H' → H d = none → H' d = some (.xd [(f, v)]) → H' a = none → a ≠ d → ts a { nx := fun σ' H'' => D.nx (σ'.set i none) (upd H'' a (exk a (.ref C) (some d))), rt := fun _ _ => False } (σ.set i (some (.ref a))) H') :
    Flies C f v H (fun cls d H' => wKept K cs i ts D cls d σ H') := fun d H' s n e => ⟨hh, fun a na => h d H' a s n e na (fun z => by rw [z, e] at na; cases na)⟩
theorem Kept.mk1 {H' : Hp} {a d C : Addr} {fs : List (Str × V)} (e : H' d = some (.xd fs)) (n : H' a = none) : Kept (upd H' a (exk a (.ref C) (some d))) a C (some d) :=
  ⟨upd_same, .inr ⟨d, fs, rfl, by rw [upd_ne (ne_of_none e n)]; exact e⟩⟩
theorem Kept.same {H H' : Hp} {a C : Addr} {d : Option Addr} (h : Kept H a C d) (s : Same H H') : Kept H' a C d :=
  ⟨s _ _ h.1, h.2.imp id fun ⟨dd, fs, e, z⟩ => ⟨dd, fs, e, s _ _ z⟩⟩
theorem over_of {K : PySem.W.Frag} {C : Addr} {bmB : List Value} {newId : String} {nm q : Str} {N : Addr} {bs : List Value} {sn : List Str} {sub : List Value} {ab : Bool} {col : Option Bool} {dd : Option Addr} {k0 k1 k2 k3 k5 : Option Value}
    (h : K.lookup C = some (excClassObj nm q C N bs bmB true sn sub ab col dd k0 k1 k2 k3 k5 newId)) (ht : PySem.W.excTail bmB bmB = true) : PySem.W.excOver K C bmB = true := by
  have e : PySem.W.clsIn K C = some { name := nm, bases := bs, mro := .ref C :: bmB, ns := N, qualname := q, hasDict := true, slotNames := sn, subclasses := sub, abstract := ab, collection := col, hasDel := false } := by
    unfold PySem.W.clsIn
    rw [h] <;> rfl
  unfold PySem.W.excOver
  rw [e]
  show ((C == C) && PySem.W.excTail bmB bmB) = true
  rw [ht, beq_self_eq_true]; rfl
theorem kcls_of {K : PySem.W.Frag} {t : Value} {D : Addr} {b : Bool} (h2 : PySem.W.isClsIn K D = true) (h3 : PySem.W.typeIn K (.ref D) = some (.type "type")) (h4 : PySem.W.subIn K t (.ref D) = some b) : PySem.W.kitCls K t (.ref D) = some b := by
  have e2 : ((PySem.W.clsIn K D).isSome && PySem.W.typeIn K (.ref D) == some (.type "type")) = true := by
    have h2' : (PySem.W.clsIn K D).isSome = true := h2
    rw [h2', h3] <;> rfl
  show (if ((PySem.W.clsIn K D).isSome && PySem.W.typeIn K (.ref D) == some (.type "type")) = true then PySem.W.subIn K t (.ref D) else none) = some b
  rw [if_pos e2]
  exact h4
theorem exm_of' {K : PySem.W.Frag} {t : Value} {D : Addr} {b : Bool} (h1 : PySem.W.subIn K (.ref D) (.type "BaseException") = some true) (h2 : PySem.W.isClsIn K D = true) (h3 : PySem.W.typeIn K (.ref D) = some (.type "type")) (h4 : PySem.W.subIn K t (.ref D) = some b) : PySem.W.exmOne K t (.ref D) = some b := by
  have e1 : (PySem.W.subIn K (.ref D) (.type "BaseException") == some true) = true := by rw [h1] <;> rfl
  show (if (PySem.W.subIn K (.ref D) (.type "BaseException") == some true) = true then PySem.W.kitCls K t (.ref D) else none) = some b
  rw [if_pos e1]
  exact kcls_of h2 h3 h4
theorem kit_own {K : PySem.W.Frag} {C D : Addr} {b : Bool} (h0 : PySem.W.subIn K (.ref C) (.ref C) = some true) (h2 : PySem.W.isClsIn K D = true) (h3 : PySem.W.typeIn K (.ref D) = some (.type "type")) (h4 : PySem.W.subIn K (.ref C) (.ref D) = some b) : PySem.W.kitOne K (.ref C) (.ref D) = some b := by
  by_cases e : C = D
  · subst e
    rw [h0] at h4
    rw [← h4]
    show (if ((Value.ref C) == (Value.ref C)) = true then some true else _) = some true
    rw [if_pos (beq_self_eq_true _)]
  · have n : ((Value.ref C) == (Value.ref D)) = false := beq_false_of_ne (fun z => e (Value.ref.inj z))
    show (if ((Value.ref C) == (Value.ref D)) = true then some true else PySem.W.kitCls K (.ref C) (.ref D)) = some b
    rw [if_neg (by rw [n]; exact Bool.false_ne_true)]
    exact kcls_of h2 h3 h4
theorem kit_blt {K : PySem.W.Frag} {C : Addr} {T : String} {b : Bool} (hm : PySem.W.kitMeta T = true) (h4 : PySem.W.subIn K (.ref C) (.type T) = some b) : PySem.W.kitOne K (.ref C) (.type T) = some b := by
  have n : ((Value.ref C) == (Value.type T)) = false := beq_false_of_ne (fun z => nomatch z)
  show (if ((Value.ref C) == (Value.type T)) = true then some true else (if PySem.W.kitMeta T = true then PySem.W.subIn K (.ref C) (.type T) else none)) = some b
  rw [if_neg (by rw [n]; exact Bool.false_ne_true), if_pos hm]
  exact h4
theorem kit_all {K : PySem.W.Frag} {t : Value} : ∀ {us : List Value}, (∀ u ∈ us, PySem.W.kitOne K t u = some false) → PySem.W.kitAny K t us = some false
  | [], _ => rfl
  | u :: us, h => by
    show (match PySem.W.kitOne K t u with | some true => some true | some false => PySem.W.kitAny K t us | none => none) = some false
    rw [h u List.mem_cons_self]
    exact kit_all fun x hx => h x (List.mem_cons_of_mem _ hx)
end Pc
namespace Pc
open PySem PySem.Spec PyProof.Rows L2 RZ
theorem kit_nil {K : PySem.W.Frag} {t : Value} : PySem.W.kitAny K t [] = some false := rfl
theorem kit_cons {K : PySem.W.Frag} {t u : Value} {us : List Value} (h : PySem.W.kitOne K t u = some false) (r : PySem.W.kitAny K t us = some false) : PySem.W.kitAny K t (u :: us) = some false := by
  show (match PySem.W.kitOne K t u with | some true => some true | some false => PySem.W.kitAny K t us | none => none) = some false
  rw [h]
  exact r
theorem hits_of {K : PySem.W.Frag} {cls : Value} {cs : List Value} (bs : List Bool) (hb : bs.any id = true) (h : Paired (fun c b => PySem.W.exmOne K cls c = some b) cs bs) : Hits K cls cs :=
  ⟨bs, h.length.symm, hb, fun i c y hc hy => by
    obtain ⟨y', e, z⟩ := paired_get h hc
    rw [hy] at e; cases e
    exact z⟩
end Pc
namespace Pc
open PySem PySem.Spec PyProof.Rows L2 RZ
/-- two promises of one def -/
theorem FnOk.or {P : Program} {w : World} {K : PySem.W.Frag} {mg : Str → Option Value} {base : Heap} {CX : CXT} {k : Nat} {f : Addr} {fd : FuncData} {ps : List Str} {sp sp' : Sp} (F : FnOk P w K mg base CX k f fd ps sp) (G : FnOk P w K mg base CX k f fd ps sp') :
    FnOk P w K mg base CX k f fd ps (fun vs H Q E => sp vs H Q E ∨ sp' vs H Q E) where
  len vs H Q E h := h.elim (F.len vs H Q E) (G.len vs H Q E)
  run A outer s H args us vs Q E hr e0 hb r h := h.elim (F.run A outer s H args us vs Q E hr e0 hb r) (G.run A outer s H args us vs Q E hr e0 hb r)
end Pc
namespace Pc
open PySem PySem.Spec PyProof.Rows L2 RZ
def topS (i : Nat) : Stmt := PySem.Challenge.pw_partnercall_k67_other_numbers_and_people.main.body.getD i (.Pass ⟨0, 0, 0, 0⟩)
abbrev s_p_check_person : Stmt := topS 5
abbrev N_p_check_person : List Str := ["size", "person"]
theorem sc_p_check_person : FnScope ["size", "person"] ["size", "person"] (defScope s_p_check_person) := ⟨rfl, rfl, rfl, by decide +kernel, rfl, by decide +kernel, by decide +kernel⟩
abbrev s_p_check_call : Stmt := topS 6
abbrev N_p_check_call : List Str := ["size", "call", "person"]
theorem sc_p_check_call : FnScope ["size", "call", "person"] ["size", "call"] (defScope s_p_check_call) := ⟨rfl, rfl, rfl, by decide +kernel, rfl, by decide +kernel, by decide +kernel⟩
abbrev s_p_check_word : Stmt := topS 7
abbrev N_p_check_word : List Str := ["size", "word", "call"]
theorem sc_p_check_word : FnScope ["size", "word", "call"] ["size", "word"] (defScope s_p_check_word) := ⟨rfl, rfl, rfl, by decide +kernel, rfl, by decide +kernel, by decide +kernel⟩
abbrev s_p_people_of : Stmt := topS 9
abbrev N_p_people_of : List Str := ["sheet"]
theorem sc_p_people_of : FnScope ["sheet"] ["sheet"] (defScope s_p_people_of) := ⟨rfl, rfl, rfl, by decide +kernel, rfl, by decide +kernel, by decide +kernel⟩
abbrev s_p_moved : Stmt := topS 11
abbrev N_p_moved : List Str := ["joins", "places", "found", "at", "other"]
theorem sc_p_moved : FnScope ["joins", "places", "found", "at", "other"] ["joins", "places"] (defScope s_p_moved) := ⟨rfl, rfl, rfl, by decide +kernel, rfl, by decide +kernel, by decide +kernel⟩
abbrev s_p_renumbered : Stmt := topS 12
abbrev N_p_renumbered : List Str := ["pairing", "numbers"]
theorem sc_p_renumbered : FnScope ["pairing", "numbers"] ["pairing", "numbers"] (defScope s_p_renumbered) := ⟨rfl, rfl, rfl, by decide +kernel, rfl, by decide +kernel, by decide +kernel⟩
abbrev s_p_word_renumbered : Stmt := topS 13
abbrev N_p_word_renumbered : List Str := ["word", "numbers", "a", "b"]
theorem sc_p_word_renumbered : FnScope ["word", "numbers", "a", "b"] ["word", "numbers"] (defScope s_p_word_renumbered) := ⟨rfl, rfl, rfl, by decide +kernel, rfl, by decide +kernel, by decide +kernel⟩
abbrev s_p_sheet_renumbered : Stmt := topS 14
abbrev N_p_sheet_renumbered : List Str := ["sheet", "numbers", "size", "number"]
theorem sc_p_sheet_renumbered : FnScope ["sheet", "numbers", "size", "number"] ["sheet", "numbers"] (defScope s_p_sheet_renumbered) := ⟨rfl, rfl, rfl, by decide +kernel, rfl, by decide +kernel, by decide +kernel⟩
abbrev s_p_joined : Stmt := topS 15
abbrev N_p_joined : List Str := ["one", "other", "partner"]
theorem sc_p_joined : FnScope ["one", "other", "partner"] ["one", "other"] (defScope s_p_joined) := ⟨rfl, rfl, rfl, by decide +kernel, rfl, by decide +kernel, by decide +kernel⟩
abbrev s_p_sheets_joined : Stmt := topS 16
abbrev N_p_sheets_joined : List Str := ["one", "other", "first", "size", "upper", "lower"]
theorem sc_p_sheets_joined : FnScope ["one", "other", "first", "size", "upper", "lower"] ["one", "other"] (defScope s_p_sheets_joined) := ⟨rfl, rfl, rfl, by decide +kernel, rfl, by decide +kernel, by decide +kernel⟩
abbrev s_p_without : Stmt := topS 17
abbrev N_p_without : List Str := ["pairing", "person", "others", "x"]
theorem sc_p_without : FnScope ["pairing", "person", "others", "x"] ["pairing", "person"] (defScope s_p_without) := ⟨rfl, rfl, rfl, by decide +kernel, rfl, by decide +kernel, by decide +kernel⟩
abbrev s_stream : Stmt := topS 19
abbrev N_stream : List Str := ["_law_script", "_law_k", "_law_cell"]
theorem sc_stream : FnScope ["_law_script", "_law_k", "_law_cell"] ["_law_script", "_law_k"] (defScope s_stream) := ⟨rfl, rfl, rfl, by decide +kernel, rfl, by decide +kernel, by decide +kernel⟩
abbrev s_draw : Stmt := topS 20
abbrev N_draw : List Str := ["_law_source", "_law_bound", "_law_found", "_law_once", "_law_twice"]
theorem sc_draw : FnScope ["_law_source", "_law_bound", "_law_found", "_law_once", "_law_twice"] ["_law_source", "_law_bound"] (defScope s_draw) := ⟨rfl, rfl, rfl, by decide +kernel, rfl, by decide +kernel, by decide +kernel⟩
abbrev s_folded : Stmt := topS 21
abbrev N_folded : List Str := ["_law_script", "_law_most", "_law_cells", "_law_k", "_law_cell"]
theorem sc_folded : FnScope ["_law_script", "_law_most", "_law_cells", "_law_k", "_law_cell"] ["_law_script", "_law_most"] (defScope s_folded) := ⟨rfl, rfl, rfl, by decide +kernel, rfl, by decide +kernel, by decide +kernel⟩
abbrev s_pick : Stmt := topS 22
abbrev N_pick : List Str := ["_law_source", "_law_some"]
theorem sc_pick : FnScope ["_law_source", "_law_some"] ["_law_source", "_law_some"] (defScope s_pick) := ⟨rfl, rfl, rfl, by decide +kernel, rfl, by decide +kernel, by decide +kernel⟩
abbrev s_same : Stmt := topS 23
abbrev N_same : List Str := ["_law_found", "_law_due", "_law_mine", "_law_its"]
theorem sc_same : FnScope ["_law_found", "_law_due", "_law_mine", "_law_its"] ["_law_found", "_law_due"] (defScope s_same) := ⟨rfl, rfl, rfl, by decide +kernel, rfl, by decide +kernel, by decide +kernel⟩
abbrev s_shuffled : Stmt := topS 24
abbrev N_shuffled : List Str := ["_law_source", "_law_some", "_law_left", "_law_found"]
theorem sc_shuffled : FnScope ["_law_source", "_law_some", "_law_left", "_law_found"] ["_law_source", "_law_some"] (defScope s_shuffled) := ⟨rfl, rfl, rfl, by decide +kernel, rfl, by decide +kernel, by decide +kernel⟩
abbrev s_random_pairing : Stmt := topS 25
abbrev N_random_pairing : List Str := ["_law_source", "_law_crowd", "_law_row", "_law_found", "_law_at"]
theorem sc_random_pairing : FnScope ["_law_source", "_law_crowd", "_law_row", "_law_found", "_law_at"] ["_law_source", "_law_crowd"] (defScope s_random_pairing) := ⟨rfl, rfl, rfl, by decide +kernel, rfl, by decide +kernel, by decide +kernel⟩
abbrev s_random_call : Stmt := topS 26
abbrev N_random_call : List Str := ["_law_source", "_law_some", "_law_duo"]
theorem sc_random_call : FnScope ["_law_source", "_law_some", "_law_duo"] ["_law_source", "_law_some"] (defScope s_random_call) := ⟨rfl, rfl, rfl, by decide +kernel, rfl, by decide +kernel, by decide +kernel⟩
abbrev s_random_word : Stmt := topS 27
abbrev N_random_word : List Str := ["_law_source", "_law_crowd", "_law_most", "_law_some", "_law_turn"]
theorem sc_random_word : FnScope ["_law_source", "_law_crowd", "_law_most", "_law_some", "_law_turn"] ["_law_source", "_law_crowd", "_law_most"] (defScope s_random_word) := ⟨rfl, rfl, rfl, by decide +kernel, rfl, by decide +kernel, by decide +kernel⟩
abbrev s_ends_joined : Stmt := topS 28
abbrev N_ends_joined : List Str := ["_law_start", "_law_mate", "_law_crowd", "_law_its", "_law_spots", "_law_its_spots", "_law_found", "_law_end", "_law_there", "_law_spot"]
theorem sc_ends_joined : FnScope ["_law_start", "_law_mate", "_law_crowd", "_law_its", "_law_spots", "_law_its_spots", "_law_found", "_law_end", "_law_there", "_law_spot"] ["_law_start", "_law_mate"] (defScope s_ends_joined) := ⟨rfl, rfl, rfl, by decide +kernel, rfl, by decide +kernel, by decide +kernel⟩
abbrev s_refused : Stmt := topS 29
abbrev N_refused : List Str := ["_law_kind", "_law_start", "_law_thing", "_law_caught", "error"]
theorem sc_refused : FnScope ["_law_kind", "_law_start", "_law_thing", "_law_caught", "error"] ["_law_kind", "_law_start", "_law_thing"] (defScope s_refused) := ⟨rfl, rfl, rfl, by decide +kernel, rfl, by decide +kernel, by decide +kernel⟩
abbrev s_people_right : Stmt := topS 30
abbrev N_people_right : List Str := ["_law_source", "_law_start", "_law_crowd", "_law_odd", "_law_spot", "_law_left", "_law_due", "_law_who"]
theorem sc_people_right : FnScope ["_law_source", "_law_start", "_law_crowd", "_law_odd", "_law_spot", "_law_left", "_law_due", "_law_who"] ["_law_source", "_law_start"] (defScope s_people_right) := ⟨rfl, rfl, rfl, by decide +kernel, rfl, by decide +kernel, by decide +kernel⟩
abbrev s_right : Stmt := topS 31
abbrev N_right : List Str := ["_law_source", "_law_crowd", "_law_its_size", "_law_start", "_law_mate", "_law_page", "_law_its_page", "_law_fresh", "_law_tape", "_law_kept", "_law_due", "_law_page_due", "_law_spot", "_law_ends", "_law_end", "_law_word_due", "_law_found", "_law_odd", "_law_first_one", "_law_two"]
theorem sc_right : FnScope ["_law_source", "_law_crowd", "_law_its_size", "_law_start", "_law_mate", "_law_page", "_law_its_page", "_law_fresh", "_law_tape", "_law_kept", "_law_due", "_law_page_due", "_law_spot", "_law_ends", "_law_end", "_law_word_due", "_law_found", "_law_odd", "_law_first_one", "_law_two"] ["_law_source"] (defScope s_right) := ⟨rfl, rfl, rfl, by decide +kernel, rfl, by decide +kernel, by decide +kernel⟩
abbrev s_law : Stmt := topS 32
abbrev N_law : List Str := ["_law_script", "_law_cells", "_law_k", "_law_source", "_law_turn"]
theorem sc_law : FnScope ["_law_script", "_law_cells", "_law_k", "_law_source", "_law_turn"] ["_law_script"] (defScope s_law) := ⟨rfl, rfl, rfl, by decide +kernel, rfl, by decide +kernel, by decide +kernel⟩
abbrev s_i_NoPerson : Stmt := inClass (topS 1) 0
abbrev N_i_NoPerson : List Str := ["self", "person"]
theorem sc_i_NoPerson : FnScope ["self", "person"] ["self", "person"] (defScope s_i_NoPerson) := ⟨rfl, rfl, rfl, by decide +kernel, rfl, by decide +kernel, by decide +kernel⟩
abbrev s_i_Last : Stmt := inClass (topS 3) 0
abbrev N_i_Last : List Str := ["self"]
theorem sc_i_Last : FnScope ["self"] ["self"] (defScope s_i_Last) := ⟨rfl, rfl, rfl, by decide +kernel, rfl, by decide +kernel, by decide +kernel⟩
set_option genInjectivity false in
set_option genSizeOf false in
structure Env (K : PySem.W.Frag) (mg : Str → Option Value) where
  n_len : mg "len" = none
  n_enumerate : mg "enumerate" = none
  n_tuple : mg "tuple" = none
  n_min : mg "min" = none
  n_max : mg "max" = none
  n_list : mg "list" = none
  n_range : mg "range" = none
  n_abs : mg "abs" = none
  n_int : mg "int" = none
  n_isinstance : mg "isinstance" = none
  n_all : mg "all" = none
  n_zip : mg "zip" = none
  n_bool : mg "bool" = none
  n_str : mg "str" = none
  n_RuntimeError : mg "RuntimeError" = none
  n_LookupError : mg "LookupError" = none
  n_repr : mg "repr" = none
  f_p_check_person : Addr
  d_p_check_person : FuncData
  F_p_check_person : Fun K "check_person" "check_person" s_p_check_person f_p_check_person d_p_check_person
  g_p_check_person : mg "check_person" = some (.ref f_p_check_person)
  f_p_check_call : Addr
  d_p_check_call : FuncData
  F_p_check_call : Fun K "check_call" "check_call" s_p_check_call f_p_check_call d_p_check_call
  g_p_check_call : mg "check_call" = some (.ref f_p_check_call)
  f_p_check_word : Addr
  d_p_check_word : FuncData
  F_p_check_word : Fun K "check_word" "check_word" s_p_check_word f_p_check_word d_p_check_word
  g_p_check_word : mg "check_word" = some (.ref f_p_check_word)
  f_p_people_of : Addr
  d_p_people_of : FuncData
  F_p_people_of : Fun K "people_of" "people_of" s_p_people_of f_p_people_of d_p_people_of
  g_p_people_of : mg "people_of" = some (.ref f_p_people_of)
  f_p_moved : Addr
  d_p_moved : FuncData
  F_p_moved : Fun K "moved" "moved" s_p_moved f_p_moved d_p_moved
  g_p_moved : mg "moved" = some (.ref f_p_moved)
  f_p_renumbered : Addr
  d_p_renumbered : FuncData
  F_p_renumbered : Fun K "renumbered" "renumbered" s_p_renumbered f_p_renumbered d_p_renumbered
  g_p_renumbered : mg "renumbered" = some (.ref f_p_renumbered)
  f_p_word_renumbered : Addr
  d_p_word_renumbered : FuncData
  F_p_word_renumbered : Fun K "word_renumbered" "word_renumbered" s_p_word_renumbered f_p_word_renumbered d_p_word_renumbered
  g_p_word_renumbered : mg "word_renumbered" = some (.ref f_p_word_renumbered)
  f_p_sheet_renumbered : Addr
  d_p_sheet_renumbered : FuncData
  F_p_sheet_renumbered : Fun K "sheet_renumbered" "sheet_renumbered" s_p_sheet_renumbered f_p_sheet_renumbered d_p_sheet_renumbered
  g_p_sheet_renumbered : mg "sheet_renumbered" = some (.ref f_p_sheet_renumbered)
  f_p_joined : Addr
  d_p_joined : FuncData
  F_p_joined : Fun K "joined" "joined" s_p_joined f_p_joined d_p_joined
  g_p_joined : mg "joined" = some (.ref f_p_joined)
  f_p_sheets_joined : Addr
  d_p_sheets_joined : FuncData
  F_p_sheets_joined : Fun K "sheets_joined" "sheets_joined" s_p_sheets_joined f_p_sheets_joined d_p_sheets_joined
  g_p_sheets_joined : mg "sheets_joined" = some (.ref f_p_sheets_joined)
  f_p_without : Addr
  d_p_without : FuncData
  F_p_without : Fun K "without" "without" s_p_without f_p_without d_p_without
  g_p_without : mg "without" = some (.ref f_p_without)
  f_stream : Addr
  d_stream : FuncData
  F_stream : Fun K "_law_stream" "_law_stream" s_stream f_stream d_stream
  g_stream : mg "_law_stream" = some (.ref f_stream)
  f_draw : Addr
  d_draw : FuncData
  F_draw : Fun K "_law_draw" "_law_draw" s_draw f_draw d_draw
  g_draw : mg "_law_draw" = some (.ref f_draw)
  f_folded : Addr
  d_folded : FuncData
  F_folded : Fun K "_law_folded" "_law_folded" s_folded f_folded d_folded
  g_folded : mg "_law_folded" = some (.ref f_folded)
  f_pick : Addr
  d_pick : FuncData
  F_pick : Fun K "_law_pick" "_law_pick" s_pick f_pick d_pick
  g_pick : mg "_law_pick" = some (.ref f_pick)
  f_same : Addr
  d_same : FuncData
  F_same : Fun K "_law_same" "_law_same" s_same f_same d_same
  g_same : mg "_law_same" = some (.ref f_same)
  f_shuffled : Addr
  d_shuffled : FuncData
  F_shuffled : Fun K "_law_shuffled" "_law_shuffled" s_shuffled f_shuffled d_shuffled
  g_shuffled : mg "_law_shuffled" = some (.ref f_shuffled)
  f_random_pairing : Addr
  d_random_pairing : FuncData
  F_random_pairing : Fun K "_law_random_pairing" "_law_random_pairing" s_random_pairing f_random_pairing d_random_pairing
  g_random_pairing : mg "_law_random_pairing" = some (.ref f_random_pairing)
  f_random_call : Addr
  d_random_call : FuncData
  F_random_call : Fun K "_law_random_call" "_law_random_call" s_random_call f_random_call d_random_call
  g_random_call : mg "_law_random_call" = some (.ref f_random_call)
  f_random_word : Addr
  d_random_word : FuncData
  F_random_word : Fun K "_law_random_word" "_law_random_word" s_random_word f_random_word d_random_word
  g_random_word : mg "_law_random_word" = some (.ref f_random_word)
  f_ends_joined : Addr
  d_ends_joined : FuncData
  F_ends_joined : Fun K "_law_ends_joined" "_law_ends_joined" s_ends_joined f_ends_joined d_ends_joined
  g_ends_joined : mg "_law_ends_joined" = some (.ref f_ends_joined)
  f_refused : Addr
  d_refused : FuncData
  F_refused : Fun K "_law_refused" "_law_refused" s_refused f_refused d_refused
  g_refused : mg "_law_refused" = some (.ref f_refused)
  f_people_right : Addr
  d_people_right : FuncData
  F_people_right : Fun K "_law_people_right" "_law_people_right" s_people_right f_people_right d_people_right
  g_people_right : mg "_law_people_right" = some (.ref f_people_right)
  f_right : Addr
  d_right : FuncData
  F_right : Fun K "_law_right" "_law_right" s_right f_right d_right
  g_right : mg "_law_right" = some (.ref f_right)
  C_NoPerson : Addr
  gC_NoPerson : mg "NoPerson" = some (.ref C_NoPerson)
  C_Last : Addr
  gC_Last : mg "Last" = some (.ref C_Last)
  C_NoWord : Addr
  gC_NoWord : mg "NoWord" = some (.ref C_NoWord)
  own_NoPerson : Own K "LookupError.__new__" [.type "LookupError", .type "Exception", .type "BaseException", .type "object"] C_NoPerson
  kpt_NoPerson : KeptC K C_NoPerson
  no_NoPerson : PySem.W.findIn K (.ref C_NoPerson) "person" = some none
  f_i_NoPerson : Addr
  d_i_NoPerson : FuncData
  F_i_NoPerson : Fun K "__init__" "NoPerson.__init__" s_i_NoPerson f_i_NoPerson d_i_NoPerson
  iC_NoPerson : PySem.W.findIn K (.ref C_NoPerson) "__init__" = some (some (.ref f_i_NoPerson))
  tI_NoPerson : PySem.W.typeIn K (.ref f_i_NoPerson) = some (.type "function")
  ee_NoPerson : PySem.W.exmOne K (.ref C_NoPerson) (.ref C_NoPerson) = some true
  kk_NoPerson : PySem.W.kitOne K (.ref C_NoPerson) (.ref C_NoPerson) = some true
  ex_NoPerson_Last : PySem.W.exmOne K (.ref C_NoPerson) (.ref C_Last) = some false
  ki_NoPerson_Last : PySem.W.kitOne K (.ref C_NoPerson) (.ref C_Last) = some false
  ex_NoPerson_NoWord : PySem.W.exmOne K (.ref C_NoPerson) (.ref C_NoWord) = some false
  ki_NoPerson_NoWord : PySem.W.kitOne K (.ref C_NoPerson) (.ref C_NoWord) = some false
  kb_NoPerson_LookupError : PySem.W.kitOne K (.ref C_NoPerson) (.type "LookupError") = some true
  kb_NoPerson_RuntimeError : PySem.W.kitOne K (.ref C_NoPerson) (.type "RuntimeError") = some false
  own_Last : Own K "RuntimeError.__new__" [.type "RuntimeError", .type "Exception", .type "BaseException", .type "object"] C_Last
  kpt_Last : KeptC K C_Last
  f_i_Last : Addr
  d_i_Last : FuncData
  F_i_Last : Fun K "__init__" "Last.__init__" s_i_Last f_i_Last d_i_Last
  iC_Last : PySem.W.findIn K (.ref C_Last) "__init__" = some (some (.ref f_i_Last))
  tI_Last : PySem.W.typeIn K (.ref f_i_Last) = some (.type "function")
  ee_Last : PySem.W.exmOne K (.ref C_Last) (.ref C_Last) = some true
  kk_Last : PySem.W.kitOne K (.ref C_Last) (.ref C_Last) = some true
  ex_Last_NoPerson : PySem.W.exmOne K (.ref C_Last) (.ref C_NoPerson) = some false
  ki_Last_NoPerson : PySem.W.kitOne K (.ref C_Last) (.ref C_NoPerson) = some false
  ex_Last_NoWord : PySem.W.exmOne K (.ref C_Last) (.ref C_NoWord) = some false
  ki_Last_NoWord : PySem.W.kitOne K (.ref C_Last) (.ref C_NoWord) = some false
  kb_Last_LookupError : PySem.W.kitOne K (.ref C_Last) (.type "LookupError") = some false
  kb_Last_RuntimeError : PySem.W.kitOne K (.ref C_Last) (.type "RuntimeError") = some true
  vV_LookupError : PySem.W.findCls K (.type "LookupError") (.type "type") "__init__" = some (.val (.builtin "LookupError.__init__"))
  vV_RuntimeError : PySem.W.findCls K (.type "RuntimeError") (.type "type") "__init__" = some (.val (.builtin "RuntimeError.__init__"))
theorem Env.b_i_NoPerson {K : PySem.W.Frag} {mg : Str → Option Value} (T : Env K mg) : Binds K T.d_i_NoPerson ["self", "person"] [] := T.F_i_NoPerson.binds fun _ _ _ _ _ _ us hl => match us, hl with | [_, _], _ => rfl
theorem Env.b_i_Last {K : PySem.W.Frag} {mg : Str → Option Value} (T : Env K mg) : Binds K T.d_i_Last ["self"] [] := T.F_i_Last.binds fun _ _ _ _ _ _ us hl => match us, hl with | [_], _ => rfl
theorem Env.b_p_check_person {K : PySem.W.Frag} {mg : Str → Option Value} (T : Env K mg) : Binds K T.d_p_check_person ["size", "person"] [] := T.F_p_check_person.binds fun _ _ _ _ _ _ us hl => match us, hl with | [_, _], _ => rfl
theorem Env.b_p_check_call {K : PySem.W.Frag} {mg : Str → Option Value} (T : Env K mg) : Binds K T.d_p_check_call ["size", "call"] [] := T.F_p_check_call.binds fun _ _ _ _ _ _ us hl => match us, hl with | [_, _], _ => rfl
theorem Env.b_p_check_word {K : PySem.W.Frag} {mg : Str → Option Value} (T : Env K mg) : Binds K T.d_p_check_word ["size", "word"] [] := T.F_p_check_word.binds fun _ _ _ _ _ _ us hl => match us, hl with | [_, _], _ => rfl
theorem Env.b_p_people_of {K : PySem.W.Frag} {mg : Str → Option Value} (T : Env K mg) : Binds K T.d_p_people_of ["sheet"] [] := T.F_p_people_of.binds fun _ _ _ _ _ _ us hl => match us, hl with | [_], _ => rfl
theorem Env.b_p_moved {K : PySem.W.Frag} {mg : Str → Option Value} (T : Env K mg) : Binds K T.d_p_moved ["joins", "places"] [] := T.F_p_moved.binds fun _ _ _ _ _ _ us hl => match us, hl with | [_, _], _ => rfl
theorem Env.b_p_renumbered {K : PySem.W.Frag} {mg : Str → Option Value} (T : Env K mg) : Binds K T.d_p_renumbered ["pairing", "numbers"] [] := T.F_p_renumbered.binds fun _ _ _ _ _ _ us hl => match us, hl with | [_, _], _ => rfl
theorem Env.b_p_word_renumbered {K : PySem.W.Frag} {mg : Str → Option Value} (T : Env K mg) : Binds K T.d_p_word_renumbered ["word", "numbers"] [] := T.F_p_word_renumbered.binds fun _ _ _ _ _ _ us hl => match us, hl with | [_, _], _ => rfl
theorem Env.b_p_sheet_renumbered {K : PySem.W.Frag} {mg : Str → Option Value} (T : Env K mg) : Binds K T.d_p_sheet_renumbered ["sheet", "numbers"] [] := T.F_p_sheet_renumbered.binds fun _ _ _ _ _ _ us hl => match us, hl with | [_, _], _ => rfl
theorem Env.b_p_joined {K : PySem.W.Frag} {mg : Str → Option Value} (T : Env K mg) : Binds K T.d_p_joined ["one", "other"] [] := T.F_p_joined.binds fun _ _ _ _ _ _ us hl => match us, hl with | [_, _], _ => rfl
theorem Env.b_p_sheets_joined {K : PySem.W.Frag} {mg : Str → Option Value} (T : Env K mg) : Binds K T.d_p_sheets_joined ["one", "other"] [] := T.F_p_sheets_joined.binds fun _ _ _ _ _ _ us hl => match us, hl with | [_, _], _ => rfl
theorem Env.b_p_without {K : PySem.W.Frag} {mg : Str → Option Value} (T : Env K mg) : Binds K T.d_p_without ["pairing", "person"] [] := T.F_p_without.binds fun _ _ _ _ _ _ us hl => match us, hl with | [_, _], _ => rfl
theorem Env.b_stream {K : PySem.W.Frag} {mg : Str → Option Value} (T : Env K mg) : Binds K T.d_stream ["_law_script", "_law_k"] [] := T.F_stream.binds fun _ _ _ _ _ _ us hl => match us, hl with | [_, _], _ => rfl
theorem Env.b_draw {K : PySem.W.Frag} {mg : Str → Option Value} (T : Env K mg) : Binds K T.d_draw ["_law_source", "_law_bound"] [] := T.F_draw.binds fun _ _ _ _ _ _ us hl => match us, hl with | [_, _], _ => rfl
theorem Env.b_folded {K : PySem.W.Frag} {mg : Str → Option Value} (T : Env K mg) : Binds K T.d_folded ["_law_script", "_law_most"] [] := T.F_folded.binds fun _ _ _ _ _ _ us hl => match us, hl with | [_, _], _ => rfl
theorem Env.b_pick {K : PySem.W.Frag} {mg : Str → Option Value} (T : Env K mg) : Binds K T.d_pick ["_law_source", "_law_some"] [] := T.F_pick.binds fun _ _ _ _ _ _ us hl => match us, hl with | [_, _], _ => rfl
theorem Env.b_same {K : PySem.W.Frag} {mg : Str → Option Value} (T : Env K mg) : Binds K T.d_same ["_law_found", "_law_due"] [] := T.F_same.binds fun _ _ _ _ _ _ us hl => match us, hl with | [_, _], _ => rfl
theorem Env.b_shuffled {K : PySem.W.Frag} {mg : Str → Option Value} (T : Env K mg) : Binds K T.d_shuffled ["_law_source", "_law_some"] [] := T.F_shuffled.binds fun _ _ _ _ _ _ us hl => match us, hl with | [_, _], _ => rfl
theorem Env.b_random_pairing {K : PySem.W.Frag} {mg : Str → Option Value} (T : Env K mg) : Binds K T.d_random_pairing ["_law_source", "_law_crowd"] [] := T.F_random_pairing.binds fun _ _ _ _ _ _ us hl => match us, hl with | [_, _], _ => rfl
theorem Env.b_random_call {K : PySem.W.Frag} {mg : Str → Option Value} (T : Env K mg) : Binds K T.d_random_call ["_law_source", "_law_some"] [] := T.F_random_call.binds fun _ _ _ _ _ _ us hl => match us, hl with | [_, _], _ => rfl
theorem Env.b_random_word {K : PySem.W.Frag} {mg : Str → Option Value} (T : Env K mg) : Binds K T.d_random_word ["_law_source", "_law_crowd", "_law_most"] [] := T.F_random_word.binds fun _ _ _ _ _ _ us hl => match us, hl with | [_, _, _], _ => rfl
theorem Env.b_ends_joined {K : PySem.W.Frag} {mg : Str → Option Value} (T : Env K mg) : Binds K T.d_ends_joined ["_law_start", "_law_mate"] [] := T.F_ends_joined.binds fun _ _ _ _ _ _ us hl => match us, hl with | [_, _], _ => rfl
theorem Env.b_refused {K : PySem.W.Frag} {mg : Str → Option Value} (T : Env K mg) : Binds K T.d_refused ["_law_kind", "_law_start", "_law_thing"] [] := T.F_refused.binds fun _ _ _ _ _ _ us hl => match us, hl with | [_, _, _], _ => rfl
theorem Env.b_people_right {K : PySem.W.Frag} {mg : Str → Option Value} (T : Env K mg) : Binds K T.d_people_right ["_law_source", "_law_start"] [] := T.F_people_right.binds fun _ _ _ _ _ _ us hl => match us, hl with | [_, _], _ => rfl
theorem Env.b_right {K : PySem.W.Frag} {mg : Str → Option Value} (T : Env K mg) : Binds K T.d_right ["_law_source"] [] := T.F_right.binds fun _ _ _ _ _ _ us hl => match us, hl with | [_], _ => rfl
end Pc
namespace Pc
open PySem PySem.Spec PyProof.Rows L2 RZ
section
variable {P : Program} {w : World} {K : PySem.W.Frag} {mg : Str → Option Value} {base : Heap}
theorem ok_i_NoPerson (T : Env K mg) : FnOk P w K mg base CX0 1 T.f_i_NoPerson T.d_i_NoPerson ["self", "person"] (spInit1 T.C_NoPerson "person") := by
  refine T.F_i_NoPerson.ok sc_i_NoPerson (fun vs H Q E h => ?_) (fun cdv A outer s H vs Q E hr h => ?_)
  · obtain ⟨a, v, rfl, _⟩ := h
    rfl
  · obtain ⟨a, v, rfl, ha, q⟩ := h
    refine ⟨_, pss_cons (ps_expr (pe_binit (o := .Constant .none 0 ⟨0, 0, 0, 0⟩) bsL.fb (by rfl) T.n_LookupError (by decide +kernel) (by decide) (by decide) (by kernel_rfl) (by decide +kernel) (by decide +kernel) T.vV_LookupError (pa_cons (pv 0) (pa_cons pe_str pa_nil)))) (pss_one (ps_os (newId := "LookupError.__new__") bsL.sf (pv 0) (pv 1))), ?_⟩
    exact ⟨.ref a, rfl, a, _, [.str _], rfl, (by show 1 ≤ 1000; decide), T.own_NoPerson, ha, v, rfl, .ref a, rfl, a, _, rfl, T.own_NoPerson, T.no_NoPerson, ha, fun dx n ne => q dx n ne⟩
end
end Pc
namespace Pc
open PySem PySem.Spec PyProof.Rows L2 RZ
/-! ### errors without a field -/
def Flies0 (C : Addr) (H : Hp) (E : XK) : Prop := ∀ H', Same H H' → E (.ref C) none H'
theorem Flies0.same {C : Addr} {H H1 : Hp} {E : XK} (h : Flies0 C H E) (s : Same H H1) : Flies0 C H1 E := fun H' s' => h H' (s.trans s')
def spInit0 (C : Addr) : Sp := fun vs H Q _ => ∃ a : Addr, vs = [.ref a] ∧ H a = some (exo a C none) ∧ Q .non H
theorem raised0 {C : Addr} {H1 : Hp} {Q : XK} (h : Flies0 C H1 Q) : ([] : List V).length ≤ 1000 ∧ ∀ a, H1 a = none → spInit0 C (.ref a :: []) (upd H1 a (exo a C none))
    (fun v' H2 => v' = .non ∧ ((H2 a = some (exo a C none) ∧ Q (.ref C) none (del H2 a)) ∨ ∃ (d : Addr) (fs : List (Str × V)), H2 a = some (exo a C (some d)) ∧ H2 d = some (exd d fs) ∧ Q (.ref C) (some d) (upd (del H2 a) d (.xd fs)))) (fun _ _ _ => False) := by
  refine ⟨Nat.zero_le _, fun a na => ⟨a, rfl, upd_same, rfl, .inl ⟨upd_same, h _ fun b o hb => ?_⟩⟩⟩
  have hba := ne_of_none hb na
  rw [del_ne hba, upd_ne hba]; exact hb
theorem kept0 {K : PySem.W.Frag} {C : Addr} {cs : List Value} {i : Nat} {ts : Addr → TS} {D : Ends} {σ : L2.St} {H : Hp} (hh : Hits K (.ref C) cs)
    (h : ∀ H' a, Same H H' → H' a = none → ts a { nx := fun σ' H'' => D.nx (σ'.set i none) (upd H'' a (exk a (.ref C) none)), rt := fun _ _ => False } (σ.set i (some (.ref a))) H') :
    Flies0 C H (fun cls d H' => wKept K cs i ts D cls d σ H') := fun H' s => ⟨hh, fun a na => h H' a s na⟩
theorem Kept.mk0 {H' : Hp} {a C : Addr} : Kept (upd H' a (exk a (.ref C) none)) a C none := ⟨upd_same, .inl rfl⟩
theorem st_kept0 {D : L2.Ends} {i : Nat} {a C : Addr} {σ1 : L2.St} {H : Hp} (σ' : L2.St) (h : D.nx σ' (upd H a (exk a (.ref C) none))) (e : σ1.set i none = σ') :
    ({ nx := fun σ'' H'' => D.nx (σ''.set i none) (upd H'' a (exk a (.ref C) none)), rt := fun _ _ => False } : L2.Ends).nx σ1 H := by
  show D.nx (σ1.set i none) _
  rw [e]; exact h
section
variable {X : Cx} {C : Addr} {B newId initId : String} {bmB : List Value}
theorem pmk_e0 {x : Str} {fI : Addr} {k : Nat} {fd : FuncData} {ps : List Str} {sp : Sp} {CX : CXT} {p pos : Pos} (T : Own X.K newId bmB C) (F : ExcBaseFacts B newId initId bmB) (iC : PySem.W.findIn X.K (.ref C) "__init__" = some (some (.ref fI))) (tI : PySem.W.typeIn X.K (.ref fI) = some (.type "function"))
    (F1 : FnOk X.prog X.w X.K X.mg X.base CX k fI fd ps sp) (hr : Room (k + 1) X.A) (hb : Binds X.K fd ps []) (hx : Passes CX X (fun _ _ _ => False)) (hg : Gl X x) (hm : X.mg x = some (.ref C)) (hdb : (x == ("__debug__" : Str)) = false := by decide) :
    PMk X (.Call (.Name x p) [] [] pos) (tMkE C sp tNil) := by
  intro pins s σ H Q I h
  refine wpAny_Call_Name_kw (ld_glob I hg hm ?_ hdb)
  exact PySem.W.callWith_K0 I.kIn T.kC (made_run (us := []) (vs := []) T F iC tI F1 hr hb hx I .nil h.1 h.2)
end
end Pc
namespace Pc
open PySem PySem.Spec PyProof.Rows L2 RZ
section
variable {P : Program} {w : World} {K : PySem.W.Frag} {mg : Str → Option Value} {base : Heap}
/-! ### a source -/
def spBox (K : PySem.W.Frag) : Sp := fun vs H Q _ => ∃ (a : Addr) (ns : List Int) (k : Nat), vs = [.ref a, .int k] ∧ SqL K H a (ns.map V.int) ∧ k ≤ 100 ∧
  ∀ H' b, Same H H' → H b = none → Box 1000000000 H' b → Q (.ref b) H'
theorem ok_box (T : Env K mg) : FnOk P w K mg base CX0 1 T.f_stream T.d_stream ["_law_script", "_law_k"] (spBox K) := by
  refine T.F_stream.ok sc_stream (fun vs H Q E h => ?_) (fun cdv A outer s H vs Q E hr h => ?_)
  · obtain ⟨a, ns, k, rfl, _⟩ := h
    rfl
  · obtain ⟨a, ns, k, rfl, hS, hk, q⟩ := h
    refine ⟨_, pss_cons (ps_set (i := 2) sc_stream.nd rfl (.inl rfl) pe_int) <| pss_cons (ps_if (pt_cmpR op_lt (pv 1) (pe_callB call_len_seq (by rfl) T.n_len PySem.boot_len (pa_cons (pv 0) pa_nil)) (nomark _)) (pss_one (ps_set (i := 2) sc_stream.nd rfl (.inl rfl) (pe_ix ix_list (pv 0) (pv 1) (fun _ _ => rfl)))) pss_nil)
      (pss_one (ps_ret (pe_lst (pa_cons
          (pe_op op_mul (pe_callB call_abs (by rfl) T.n_abs (by decide +kernel) (pa_cons (pv 2) pa_nil))
            (pe_callTy call_int1 (by rfl) T.n_int (by decide +kernel) (pa_cons (pe_cmpR op_ge (pe_callB call_abs (by rfl) T.n_abs (by decide +kernel) (pa_cons (pv 2) pa_nil)) (pe_op op_pow pe_int pe_int) (nomark _)) pa_nil)))
        (pa_cons (pe_op op_add (pe_op op_add (pe_op op_mod (pv 2) pe_int) (pe_op op_mul pe_int (pv 1))) pe_int)
        (pa_cons pe_int pa_nil)))))), ?_⟩
    refine ⟨.int k, rfl, .ref a, rfl, a, ns.map V.int, rfl, .inl hS, _, _, rfl, rfl, _, rfl, ite2 (fun e => ?_) (fun e => ?_)⟩
    · have e1 : k < ns.length := by
        have := of_decide_eq_true e
        rw [List.length_map] at this
        omega
      refine ⟨.ref a, rfl, .int k, rfl, a, _, _, _, rfl, rfl, hS, atI_nat (v := .int ns[k]) (by rw [List.getElem?_map, List.getElem?_eq_getElem e1]; rfl), ?_⟩
      revert e; generalize ns[k] = c; intro _
      refine ⟨_, rfl, _, rfl, _, rfl, _, rfl, 10, 18, rfl, rfl, ⟨by decide, by decide, by decide⟩, _, _, rfl, rfl, .inr ⟨_, rfl, _, _, rfl, rfl, .inr (in64 (one0 _)), _, rfl, _, _, rfl, rfl, (show (0 : Int) < 2305843009213693951 by decide), _, rfl, _, _, rfl, rfl, .inl ⟨by decide, by decide⟩, _, _, rfl, rfl, _, _, rfl, rfl, ?_⟩⟩
      refine ⟨by show 3 ≤ sizeLine; decide, fun b nb => q _ b (same_new nb) nb ⟨_, _, 0, upd_same, Int.mul_nonneg ?_ (one0 _).1, ?_, ?_, by decide, by decide⟩⟩
      · split <;> omega
      · omega
      · omega
    · refine ⟨_, rfl, _, rfl, _, rfl, _, rfl, 10, 18, rfl, rfl, ⟨by decide, by decide, by decide⟩, _, _, rfl, rfl, .inr ⟨_, rfl, _, _, rfl, rfl, .inr (in64 (one0 _)), _, rfl, _, _, rfl, rfl, (show (0 : Int) < 2305843009213693951 by decide), _, rfl, _, _, rfl, rfl, .inl ⟨by decide, by decide⟩, _, _, rfl, rfl, _, _, rfl, rfl, ?_⟩⟩
      refine ⟨by show 3 ≤ sizeLine; decide, fun b nb => q _ b (same_new nb) nb ⟨_, _, 0, upd_same, Int.mul_nonneg ?_ (one0 _).1, ?_, ?_, by decide, by decide⟩⟩
      · split <;> omega
      · omega
      · omega
end
end Pc
namespace Pc
open PySem PySem.Spec PyProof.Rows L2 RZ
section
variable {P : Program} {w : World} {K : PySem.W.Frag} {mg : Str → Option Value} {base : Heap}
/-! ### a draw below a span of at most ten million -/
def spTake : Sp := fun vs H Q _ => ∃ (b : Addr) (n : Nat) (s : Int), vs = [.ref b, .int s] ∧ Box (n + 1) H b ∧ 0 < s ∧ s ≤ 10000000 ∧
  ∀ (r : Int) (H' : Hp), 0 ≤ r → r < s → Box n H' b → Keep b H H' → Q (.int r) H'
theorem ok_take (T : Env K mg) : FnOk P w K mg base CX0 1 T.f_draw T.d_draw ["_law_source", "_law_bound"] spTake := by
  refine T.F_draw.ok sc_draw (fun vs H Q E h => ?_) (fun cdv A outer s H vs Q E hr h => ?_)
  · obtain ⟨b, n, s, rfl, _⟩ := h
    rfl
  · obtain ⟨b, n, s, rfl, ⟨x, y, z, hb, hx, hy, hy2, hz, hz2⟩, hs, hs2, q⟩ := h
    refine ⟨_, pss_cons (ps_if (pt_cmpR op_gt (pe_ix ix_list (pv 0) pe_int (fun _ _ => rfl)) pe_int (nomark _))
        (pss_cons (ps_set (i := 2) sc_draw.nd rfl (.inl rfl) (pe_op op_mod (pe_ix ix_list (pv 0) pe_int (fun _ _ => rfl)) (pv 1)))
        (pss_cons (ps_asg (pe_op op_fdiv (pe_ix ix_list (pv 0) pe_int (fun _ _ => rfl)) (pv 1)) (pg_sub (pv 0) pe_int set_list))
        (pss_one (ps_ret (pv 2))))) pss_nil)
      (pss_cons (ps_if (pt_cmpR op_gt (pv 1) (pe_op op_pow pe_int pe_int) (nomark _)) pss_never pss_nil)
      (pss_cons (ps_asg (pe_op op_add (pe_ix ix_list (pv 0) pe_int (fun _ _ => rfl)) pe_int) (pg_sub (pv 0) pe_int set_list))
      (pss_cons (ps_set (i := 3) sc_draw.nd rfl (.inl rfl) (pe_op op_mod (pe_op op_mul (pe_op op_add (pe_ix ix_list (pv 0) pe_int (fun _ _ => rfl)) (pe_op op_mul pe_int (pe_ix ix_list (pv 0) pe_int (fun _ _ => rfl)))) (pe_op op_add pe_int (pe_ix ix_list (pv 0) pe_int (fun _ _ => rfl)))) pe_int))
      (pss_cons (ps_set (i := 4) sc_draw.nd rfl (.inl rfl) (pe_op op_mod (pe_op op_mul (pe_op op_add (pe_op op_add (pv 3) (pe_ix ix_list (pv 0) pe_int (fun _ _ => rfl))) (pe_op op_fdiv (pe_ix ix_list (pv 0) pe_int (fun _ _ => rfl)) pe_int)) (pe_op op_add (pe_op op_mod (pv 3) pe_int) pe_int)) pe_int))
      (pss_one (ps_ret (pe_op op_mod (pe_op op_fdiv (pe_op op_mod (pe_op op_add (pe_op op_mul (pv 4) pe_int) (pv 3)) pe_int) pe_int) (pv 1)))))))), ?_⟩
    have hS : SqL K H b [.int x, .int y, .int z] := .inl (.inl hb)
    refine ⟨.ref b, rfl, b, _, 0, .int x, rfl, rfl, hS, atI_nat (j := 0) rfl, x, 0, rfl, rfl, _, rfl, ite2 (fun e => ?_) (fun e => ?_)⟩
    · -- the number itself serves
      refine ⟨.ref b, rfl, b, _, 0, .int x, rfl, rfl, hS, atI_nat (j := 0) rfl, .int s, rfl, x, s, rfl, rfl, hs, ?_⟩
      refine ⟨.ref b, rfl, b, _, 0, .int x, rfl, rfl, hS, atI_nat (j := 0) rfl, .int s, rfl, x, s, rfl, rfl, ⟨hs, by omega⟩, .ref b, rfl, b, _, 0, 0, rfl, rfl, hb, rfl, ?_⟩
      refine ⟨_, rfl, q _ _ (Int.emod_nonneg _ (by omega)) (Int.emod_lt_of_pos _ hs) ⟨_, y, z, upd_same, ?_, hy, hy2, hz, by omega⟩ keep_upd⟩
      exact Int.ediv_nonneg hx (by omega)
    · refine ⟨.int s, rfl, 10, 7, rfl, rfl, ⟨by decide, by decide, by decide⟩, s, _, rfl, rfl, _, rfl, ite2 (fun e2 => ?_) (fun _ => ?_)⟩
      · have e3 := of_decide_eq_true e2
        have e4 : (10 : Int) ^ Int.toNat 7 = 10000000 := by decide
        rw [e4] at e3
        omega
      refine ⟨.ref b, rfl, b, _, 2, .int z, rfl, rfl, hS, atI_nat (j := 2) rfl, z, 1, rfl, rfl, .ref b, rfl, b, _, 2, 2, rfl, rfl, hb, rfl, ?_⟩
      have h2 : upd H b (.lst ([V.int x, V.int y, V.int z].set 2 (.int (z + 1)))) b = some (.lst [.int x, .int y, .int (z + 1)]) := upd_same
      have hS2 : SqL K (upd H b (.lst ([V.int x, V.int y, V.int z].set 2 (.int (z + 1))))) b [.int x, .int y, .int (z + 1)] := .inl (.inl h2)
      refine ⟨.ref b, rfl, b, _, 1, .int y, rfl, rfl, hS2, atI_nat (j := 1) rfl, .ref b, rfl, b, _, 2, .int (z + 1), rfl, rfl, hS2, atI_nat (j := 2) rfl, 48271, z + 1, rfl, rfl, .inl ⟨by decide, by decide⟩, y, _, rfl, rfl, .ref b, rfl, b, _, 2, .int (z + 1), rfl, rfl, hS2, atI_nat (j := 2) rfl, 39373, z + 1, rfl, rfl, _, _, rfl, rfl, .inr ⟨by omega, by omega⟩, _, 2147483647, rfl, rfl, (show (0 : Int) < 2147483647 by decide), ?_⟩
      have o1 : 0 ≤ (y + 48271 * (z + 1)) * (39373 + (z + 1)) % 2147483647 := Int.emod_nonneg _ (by decide)
      have o2 : (y + 48271 * (z + 1)) * (39373 + (z + 1)) % 2147483647 < 2147483647 := Int.emod_lt_of_pos _ (by decide)
      have o3 : 0 ≤ (y + 48271 * (z + 1)) * (39373 + (z + 1)) % 2147483647 % 40009 := Int.emod_nonneg _ (by decide)
      have o4 : (y + 48271 * (z + 1)) * (39373 + (z + 1)) % 2147483647 % 40009 < 40009 := Int.emod_lt_of_pos _ (by decide)
      refine ⟨_, rfl, .ref b, rfl, b, _, 2, .int (z + 1), rfl, rfl, hS2, atI_nat (j := 2) rfl, _, z + 1, rfl, rfl, .ref b, rfl, b, _, 1, .int y, rfl, rfl, hS2, atI_nat (j := 1) rfl, y, 1000003, rfl, rfl, ⟨by decide, by decide⟩, _, _, rfl, rfl, _, rfl, _, 40009, rfl, rfl, (show (0 : Int) < 40009 by decide), _, 7, rfl, rfl, _, _, rfl, rfl, .inr ⟨Int.lt_of_lt_of_le (by decide) (Int.add_le_add_right o3 7), Int.lt_trans (Int.add_lt_add_right o4 7) (by decide)⟩, _, 2147483629, rfl, rfl, (show (0 : Int) < 2147483629 by decide), ?_⟩
      refine ⟨_, rfl, _, 48271, rfl, rfl, .inr ⟨by decide, by decide⟩, _, rfl, _, _, rfl, rfl, _, 2147483587, rfl, rfl, (show (0 : Int) < 2147483587 by decide), _, 64, rfl, rfl, ⟨by decide, by decide⟩, .int s, rfl, _, s, rfl, rfl, hs, ?_⟩
      exact q _ _ (Int.emod_nonneg _ (by omega)) (Int.emod_lt_of_pos _ hs) ⟨x, y, z + 1, h2, hx, hy, hy2, by omega, by omega⟩ keep_upd
end
end Pc
namespace Pc
open PySem PySem.Spec PyProof.Rows L2 RZ
/-! ### data -/
theorem dp_ints {K : PySem.W.Frag} {H : Hp} : ∀ ns : List Int, DpAll K H (ns.map V.int) (ns.map PyData.int)
  | [] => .nil
  | n :: r => .cons (.int n) (dp_ints r)
theorem lay_ints : ∀ ns : List Int, PyData.canLayAll0 (ns.map PyData.int) = true
  | [] => rfl
  | n :: r => by
    show (PyData.canLay0 (.int n) && PyData.canLayAll0 (r.map PyData.int)) = true
    rw [lay_ints r]; rfl
theorem depth_ints : ∀ ns : List Int, PyData.depthAll (ns.map PyData.int) = 0
  | [] => rfl
  | n :: r => by
    show max (PyData.depth (.int n)) (PyData.depthAll (r.map PyData.int)) = 0
    rw [depth_ints r]; rfl
theorem shaped_list {ds : List PyData} (h : PyData.canLayAll0 ds = true) (d : PyData.depthAll ds ≤ 63) : SeqAt.shaped (.list ds) = true := by
  unfold SeqAt.shaped
  rw [Bool.and_eq_true]
  exact ⟨h, decide_eq_true (show PyData.depthAll ds + 1 ≤ 64 by omega)⟩
theorem shaped_tuple {ds : List PyData} (h : PyData.canLayAll0 ds = true) (d : PyData.depthAll ds ≤ 63) : SeqAt.shaped (.tuple ds) = true := by
  unfold SeqAt.shaped
  rw [Bool.and_eq_true]
  exact ⟨h, decide_eq_true (show PyData.depthAll ds + 1 ≤ 64 by omega)⟩
theorem shaped_ints (ns : List Int) : SeqAt.shaped (.list (ns.map PyData.int)) = true := shaped_list (lay_ints ns) (by rw [depth_ints]; decide)
theorem shaped_intsT (ns : List Int) : SeqAt.shaped (.tuple (ns.map PyData.int)) = true := shaped_tuple (lay_ints ns) (by rw [depth_ints]; decide)
/-- what a slice of a list of ints is -/
theorem cut_ints (ns : List Int) (lo hi : Option Int) : ∃ ms : List Int, cutV (ns.map V.int) lo hi = ms.map V.int ∧ ms = (ns.drop (HT.sIx ns.length 0 lo)).take (HT.sIx ns.length ns.length hi - HT.sIx ns.length 0 lo) := by
  refine ⟨_, ?_, rfl⟩
  unfold cutV
  rw [List.length_map, List.map_take, List.map_drop]
theorem map_set_int (cs : List Int) (j : Nat) (v : Int) : (cs.map V.int).set j (.int v) = (cs.set j v).map V.int := by
  rw [List.map_set]
theorem small63 {n : Nat} (h : n ≤ 63) : n ≤ sizeLine := Nat.le_trans h (by decide)
end Pc
namespace Pc
open PySem PySem.Spec PyProof.Rows L2 RZ
section
variable {P : Program} {w : World} {K : PySem.W.Frag} {mg : Str → Option Value} {base : Heap}
/-! ### the numbers of the script, the later ones added to the first -/
def spCells (K : PySem.W.Frag) : Sp := fun vs H Q _ => ∃ (a : Addr) (ns : List Int) (m : Nat), vs = [.ref a, .int m] ∧ SqL K H a (ns.map V.int) ∧ ns.length ≤ 63 ∧ 0 < m ∧ m ≤ 60 ∧
  ∀ H' p (cs : List Int), Same H H' → H p = none → H' p = some (.lst (cs.map V.int)) → 1 ≤ cs.length → cs.length ≤ m → Q (.ref p) H'
theorem ok_cells (T : Env K mg) : FnOk P w K mg base CX0 1 T.f_folded T.d_folded ["_law_script", "_law_most"] (spCells K) := by
  refine T.F_folded.ok sc_folded (fun vs H Q E h => ?_) (fun cdv A outer s H vs Q E hr h => ?_)
  · obtain ⟨a, ns, m, rfl, _⟩ := h
    rfl
  · obtain ⟨a, ns, m, rfl, hS, hn, hm, hm2, q⟩ := h
    refine ⟨_, pss_cons (ps_set (i := 2) sc_folded.nd rfl (.inl rfl) (pe_orT (pe_callTy call_list_of (by rfl) T.n_list (by decide +kernel) (pa_cons (pe_slice sl_list (pv 0) po_none (po_some (pv 1))) pa_nil)) (pe_one (pe_lst (pa_cons pe_int pa_nil)))))
      (pss_cons (ps_for PassesOwn.never rfl (pi_enum (by rfl) T.n_enumerate (pa_cons (pe_slice sl_list (pv 0) (po_some (pv 1)) (po_some pe_int)) pa_nil))
          (pg_tup rfl (pgs_cons (pg_name (i := 3) sc_folded.nd rfl (.inl rfl)) (pgs_cons (pg_name (i := 4) sc_folded.nd rfl (.inl rfl)) pgs_nil)))
        (pss_one (ps_asg (pe_op op_add (pe_ix ix_list (pv 2) (pe_op op_mod (pv 3) (pv 1)) (fun _ _ => rfl)) (pe_op op_mul (pv 4) (pe_op op_add (pv 3) pe_int)))
          (pg_sub (pv 2) (pe_op op_mod (pv 3) (pv 1)) set_list))))
      (pss_one (ps_ret (pv 2)))), ?_⟩
    obtain ⟨ms, e1, e2⟩ := cut_ints ns none (some (m : Int))
    obtain ⟨ls, e3, e4⟩ := cut_ints ns (some (m : Int)) (some 63)
    have f2 : ms.length = min m ns.length := by
      rw [e2, HT.sIx_none, HT.sIx_nat, List.length_take, List.drop_zero]
      omega
    have f4 : ls.length = ns.length - m := by
      rw [e4, HT.sIx_nat, show (63 : Int) = ((63 : Nat) : Int) from rfl, HT.sIx_nat, List.length_take, List.length_drop]
      omega
    -- the copy of the first ones
    refine ⟨.ref a, rfl, .int m, rfl, m, rfl, a, ns.map V.int, rfl, hS, fun c nc => ⟨c, _, rfl, .inl (.inl (.inl upd_same)), fun l nl => ?_⟩⟩
    rw [e1] at nl ⊢
    have s1 : Same H (upd (upd H c (.lst (ms.map V.int))) l (.lst (ms.map V.int))) := (same_new nc).trans (same_new nl)
    have nl0 : H l = none := (same_new nc).free nl
    have el0 : (upd (upd H c (.lst (ms.map V.int))) l (.lst (ms.map V.int))) l = some (.lst (ms.map V.int)) := upd_same
    revert s1 el0
    generalize upd (upd H c (.lst (ms.map V.int))) l (.lst (ms.map V.int)) = H0
    intro s1 el0
    refine ⟨!(ms.map V.int).isEmpty, .inl ⟨_, .inl (.inl el0), rfl⟩, ite2 (fun k => ?wa) (fun k => ?wb)⟩
    case' wa =>
      obtain ⟨cs0, g3, g4, g5, g6⟩ : ∃ cs0 : List Int, H0 l = some (.lst (cs0.map V.int)) ∧ 1 ≤ cs0.length ∧ cs0.length ≤ m ∧ (0 < ls.length → cs0.length = m) := by
        refine ⟨ms, el0, ?_, by omega, by omega⟩
        cases ms with
        | nil => exact absurd (show false = true from k) Bool.false_ne_true
        | cons x r => simp
      clear el0
    case' wb =>
      have hm0 : ms.length = 0 := by
        cases ms with
        | nil => rfl
        | cons x r => exact absurd rfl k
      refine ⟨by show 1 ≤ sizeLine; decide, fun l2 nl2 => ?_⟩
      have s3 := s1.trans (same_new (o := .lst [.int 0]) nl2)
      have nl3 := s1.free nl2
      have g3' : (upd H0 l2 (.lst [.int 0])) l2 = some (.lst [.int 0]) := upd_same
      clear nl0 s1 el0
      revert s3 g3'
      generalize upd H0 l2 (.lst [.int 0]) = H3
      intro s3 g3'
      clear nl2
      clear H0
      revert l2 nl3 H3 s3 g3'
      intro l nl0 H0 s1 g3'
      obtain ⟨cs0, g3, g4, g5, g6⟩ : ∃ cs0 : List Int, H0 l = some (.lst (cs0.map V.int)) ∧ 1 ≤ cs0.length ∧ cs0.length ≤ m ∧ (0 < ls.length → cs0.length = m) := ⟨[0], g3', by decide, hm, by omega⟩
    all_goals
      refine ⟨.ref a, rfl, .int m, rfl, m, rfl, _, rfl, a, ns.map V.int, rfl, s1.seq hS, fun d nd => ?_⟩
      rw [e3]
      refine ⟨d, ls.map V.int, rfl, .inl (.inl upd_same), ?_⟩
      have s2 : Same H _ := s1.trans (same_new (o := .lst (ls.map V.int)) nd)
      have ldd : l ≠ d := ne_of_none g3 nd
      refine for_it walk_enum (fun i σ H' => Same H H' ∧ H' d = some (.lst (ls.map V.int)) ∧ ∃ (y3 y4 : Option V) (cs : List Int), σ = [some (.ref a), some (.int m), some (.ref l), y3, y4] ∧ H' l = some (.lst (cs.map V.int)) ∧ cs.length = cs0.length)
        ⟨s2, upd_same, none, none, cs0, rfl, by rw [upd_ne ldd]; exact g3, rfl⟩ (fun i σ H' _ h => .inl (.inl h.2.1)) (fun i x σ H1 H2 hi h y => ?_) (fun σ H' h => ?_)
      · obtain ⟨sm, ed, y3, y4, cs, rfl, el, ecl⟩ := h
        obtain ⟨t, v1, v2, rfl, nt, rfl, g1, g2⟩ := y
        rw [List.length_map] at hi
        have ev1 : v1 = .int (i : Nat) := (Option.some.inj g1).symm
        have ev2 : v2 = .int ls[i] := by
          have g3 : (ls.map V.int)[i]? = some v2 := g2
          rw [List.getElem?_map, List.getElem?_eq_getElem hi] at g3
          exact (Option.some.inj g3).symm
        subst ev1 ev2
        have hml : cs.length = m := by omega
        have hlt : l ≠ t := ne_of_none el nt
        have hdt : d ≠ t := ne_of_none ed nt
        have elt : (upd H1 t (.tup [.int (i : Nat), .int ls[i]])) l = some (.lst (cs.map V.int)) := by rw [upd_ne hlt]; exact el
        have him : ((i : Int) % (m : Int)) = ((i % m : Nat) : Int) := by omega
        have hjm : i % m < cs.length := by rw [hml]; exact Nat.mod_lt _ hm
        have hix : ixN (cs.map V.int).length ((i : Int) % (m : Int)) = some (i % m) := by
          rw [him]
          unfold ixN
          rw [List.length_map, if_pos (by omega), if_pos (by omega)]; rfl
        refine ⟨t, _, rfl, .inl (.inl upd_same), rfl, _, _, rfl, _, _, rfl, rfl, ?_⟩
        refine ⟨.ref l, rfl, .int (i : Nat), rfl, .int m, rfl, (i : Nat), m, rfl, rfl, (show (0 : Int) < m by omega), l, _, _, .int cs[i % m], rfl, rfl, .inl (.inl elt), ?_, ?_⟩
        · unfold atI
          show (ixN (cs.map V.int).length ((i : Int) % (m : Int))).bind _ = _
          rw [hix]
          show (cs.map V.int)[i % m]? = _
          rw [List.getElem?_map, List.getElem?_eq_getElem hjm]; rfl
        refine ⟨.int ls[i], rfl, .int (i : Nat), rfl, (i : Nat), 2, rfl, rfl, ls[i], _, rfl, rfl, .inr ⟨by omega, by omega⟩, cs[i % m], _, rfl, rfl, .ref l, rfl, .int (i : Nat), rfl, .int m, rfl, (i : Nat), m, rfl, rfl, (show (0 : Int) < m by omega), l, _, _, i % m, rfl, rfl, elt, hix, ?_⟩
        refine ⟨?_, ?_, _, _, cs.set (i % m) (cs[i % m] + ls[i] * ((i : Nat) + 2)), rfl, ?_, ?_⟩
        · intro b o hb
          have nb : b ≠ l := ne_of_none hb nl0
          rw [upd_ne nb]
          exact same_new nt _ _ (sm b o hb)
        · rw [upd_ne ldd.symm, upd_ne hdt]; exact ed
        · rw [upd_same, ← map_set_int]
        · rw [List.length_set]; exact ecl
      · obtain ⟨sm, ed, y3, y4, cs, rfl, el, ecl⟩ := h
        exact ⟨.ref l, rfl, q _ l cs sm nl0 el (by omega) (by omega)⟩
end
end Pc
namespace Pc
open PySem PySem.Spec PyProof.Rows L2 RZ
/-! ### xs != [] for any items -/
def rNeNil (K : PySem.W.Frag) : R2 := fun x y H Q => ∃ a b xs, x = .ref a ∧ y = .ref b ∧ SqL K H a xs ∧ SqL K H b [] ∧ Q (.bl (!xs.isEmpty)) H
theorem op_neNil {X : Cx} (hu : X.A.units + 64 < cLine) : OpR X (compareOp .NotEq) (rNeNil X.K) := by
  intro pins s σ H x y v u Q I rx ry h
  obtain ⟨a, b, xs, rfl, rfl, h1, h2, q⟩ := h
  cases rx; cases ry
  obtain ⟨its, rv, p1, _⟩ := I.list h1
  obtain ⟨its2, rv2, p2, _⟩ := I.list h2
  have l1 := rv.length
  have l2 := rv2.length
  have hu0 : X.A.units < cLine := by omega
  cases xs with
  | nil =>
    have z1 : its.length = 0 := l1.symm
    have z2 : its2.length = 0 := l2.symm
    refine SeqAt.RcNeAt.lists (e := fun _ => true) p1.isList p2.isList (by simp [z1, z2]) hu0 (fun j j1 _ => ?_) X.prog X.w X.xe _ ?_
    · rw [List.size_toArray] at j1; omega
    · rw [List.size_toArray, z1]
      exact ⟨.bl false, H, I, rfl, q⟩
  | cons z r =>
    have z1 : its.length ≠ 0 := by rw [← l1]; simp
    have z2 : its2.length = 0 := l2.symm
    refine SeqAt.RcNeAt.lists_lengths p1.isList p2.isList (by simp [z2, z1]) hu0 X.prog X.w X.xe _ ?_
    exact ⟨.bl true, H, I, rfl, q⟩
theorem perm_erase {α : Type} : ∀ {l : List α} {i : Nat} (h : i < l.length), (l[i] :: l.eraseIdx i).Perm l
  | a :: r, 0, _ => List.Perm.refl _
  | a :: r, i + 1, h => (List.Perm.swap a (r[i]'(Nat.lt_of_succ_lt_succ h)) (r.eraseIdx i)).trans ((perm_erase (l := r) (i := i) (Nat.lt_of_succ_lt_succ h)).cons a)
/-- the place of an index that is not negative -/
theorem seq_ix {i : Int} {n : Nat} (h0 : 0 ≤ i) (h : i < n) : seqIndex? i n = some i.toNat := seqIndex_of h0 h
end Pc
namespace Pc
open PySem PySem.Spec PyProof.Rows L2 RZ
section
variable {P : Program} {w : World} {K : PySem.W.Frag} {mg : Str → Option Value} {base : Heap}
/-! ### some things in drawn order -/
def spStrewn (K : PySem.W.Frag) : Sp := fun vs H Q _ => ∃ (b a : Addr) (n : Nat) (xs : List V), vs = [.ref b, .ref a] ∧ Box (n + xs.length) H b ∧ SqL K H a xs ∧ xs.length ≤ 1000 ∧
  ∀ (H' : Hp) (p : Addr) (ys : List V), ys.Perm xs → Keep b H H' → Box n H' b → H p = none → H' p = some (.lst ys) → Q (.ref p) H'
theorem ok_strewn (T : Env K mg) : FnOk P w K mg base CX0 2 T.f_shuffled T.d_shuffled ["_law_source", "_law_some"] (spStrewn K) := by
  have GT : FnOk P w K mg base CX0 1 T.f_draw T.d_draw ["_law_source", "_law_bound"] spTake := ok_take T
  refine T.F_shuffled.ok sc_shuffled (fun vs H Q E h => ?_) (fun cdv A outer s H vs Q E hr h => ?_)
  · obtain ⟨b, a, n, xs, rfl, _⟩ := h
    rfl
  · obtain ⟨b, a, n, xs, rfl, hB, hS, hlen, q⟩ := h
    refine ⟨_, pss_cons (ps_par (by rfl) sc_shuffled.nd (i := 2) (j := 3) rfl rfl (by decide) rfl rfl (pa_cons (pe_callTy call_list_of (by rfl) T.n_list (by decide +kernel) (pa_cons (pv 1) pa_nil)) (pa_cons (pe_lst pa_nil) pa_nil)) (by rfl))
      (pss_cons (ps_while PassesOwn.never (pt_cmpR (op_neNil hr.units) (pv 2) (pe_lst pa_nil) (nomark _))
        (pss_one (ps_expr (pe_bm PySem.F.plainAttrs_list PySem.F.slot_list_append PySem.F.type_list_append mt_append (pv 3) (pa_cons
          (pe_bm PySem.F.plainAttrs_list PySem.F.slot_list_pop PySem.F.type_list_pop mt_popAt (pv 2) (pa_cons
            (pe_call GT hr (by rfl) T.g_draw T.F_draw.kp T.b_draw .nil pass0 (pa_cons (pv 0) (pa_cons (pe_callB call_len_seq (by rfl) T.n_len PySem.boot_len (pa_cons (pv 2) pa_nil)) pa_nil))) pa_nil)) pa_nil)))))
      (pss_one (ps_ret (pv 3)))), ?_⟩
    refine ⟨.ref a, rfl, a, xs, rfl, .inl hS, fun l nl => ⟨Nat.zero_le _, fun f nf => ⟨_, _, rfl, ?_⟩⟩⟩
    have s1 : Same H (upd (upd H l (.lst xs)) f (.lst [])) := (same_new nl).trans (same_new nf)
    have nf0 : H f = none := (same_new nl).free nf
    have hlf : l ≠ f := ne_of_none upd_same nf
    have hbl : b ≠ l := hB.ne_new nl
    have hbf : b ≠ f := hB.ne_new nf0
    refine ⟨fun m σ H' => ∃ left found : List V, σ = [some (.ref b), some (.ref a), some (.ref l), some (.ref f)] ∧ H' l = some (.lst left) ∧ H' f = some (.lst found) ∧ (left ++ found).Perm xs ∧ Box (n + left.length) H' b ∧ Keep b H H' ∧ left.length = m,
      ⟨xs.length, xs, [], rfl, by rw [upd_ne hlf, upd_same], upd_same, by rw [List.append_nil], hB.same s1, Keep.of_same s1, rfl⟩, fun m σ H' hW => ?_⟩
    obtain ⟨left, found, rfl, el, ef, hp, hb', hk, hm⟩ := hW
    refine ⟨.ref l, rfl, Nat.zero_le _, fun e ne => ⟨l, e, left, rfl, rfl, .inl (.inl ?_), .inl (.inl upd_same), _, rfl, ite2 (fun c => ?_) (fun c => ?_)⟩⟩
    · rw [upd_ne (ne_of_none el ne)]; exact el
    · -- one more is drawn
      have hl0 : 0 < left.length := by
        cases left with
        | nil => exact absurd c (by decide)
        | cons x r => exact Nat.succ_pos _
      have hll : left.length ≤ 1000 := by
        have := hp.length_eq
        rw [List.length_append] at this
        omega
      have el2 : (upd H' e (.lst [])) l = some (.lst left) := by rw [upd_ne (ne_of_none el ne)]; exact el
      have ef2 : (upd H' e (.lst [])) f = some (.lst found) := by rw [upd_ne (ne_of_none ef ne)]; exact ef
      refine ⟨fun σ' H2 => ∃ left' found' : List V, σ' = [some (.ref b), some (.ref a), some (.ref l), some (.ref f)] ∧ H2 l = some (.lst left') ∧ H2 f = some (.lst found') ∧ (left' ++ found').Perm xs ∧ Box (n + left'.length) H2 b ∧ Keep b H H2 ∧ left'.length + 1 = m,
        fun σ' H2 h2 => ?_, ?_⟩
      · obtain ⟨left', found', g1, g2, g3, g4, g5, g6, g7⟩ := h2
        exact ⟨left'.length, by omega, left', found', g1, g2, g3, g4, g5, g6, rfl⟩
      · refine ⟨.ref f, rfl, .inl ⟨rfl, _, .inl (.inl ef2)⟩, .ref l, rfl, .inl ⟨rfl, _, .inl (.inl el2)⟩, .ref b, rfl, .ref l, rfl, l, left, rfl, .inl (.inl (.inl el2)), ?_⟩
        refine ⟨b, n + (left.length - 1), left.length, rfl, (hb'.same (same_new ne)).mono (by omega), by omega, by omega, fun r H2 r0 r1 hb2 k2 => ?_⟩
        have el3 : H2 l = some (.lst left) := k2 l _ hbl.symm el2
        have ef3 : H2 f = some (.lst found) := k2 f _ hbf.symm ef2
        have hj : r.toNat < left.length := by omega
        refine ⟨l, left, r, r.toNat, left[r.toNat], rfl, rfl, el3, by omega, by omega, seq_ix r0 r1, List.getElem?_eq_getElem hj, ?_⟩
        have ef4 : (upd H2 l (.lst (left.eraseIdx r.toNat))) f = some (.lst found) := by rw [upd_ne hlf.symm]; exact ef3
        have hfl : found.length ≤ 1000 := by
          have := hp.length_eq
          rw [List.length_append] at this
          omega
        refine ⟨f, found, _, rfl, rfl, ef4, small1000 hfl, left.eraseIdx r.toNat, found ++ [left[r.toNat]], rfl, ?_, upd_same, ?_, ?_, ?_, ?_⟩
        · rw [upd_ne hlf, upd_same]
        · refine List.Perm.trans ?_ hp
          have p1 : (left[r.toNat] :: left.eraseIdx r.toNat).Perm left := perm_erase hj
          have p2 : (left.eraseIdx r.toNat ++ (found ++ [left[r.toNat]])).Perm (left[r.toNat] :: left.eraseIdx r.toNat ++ found) := by
            rw [← List.append_assoc]
            exact List.perm_append_comm.trans (by rw [List.singleton_append, List.cons_append])
          exact p2.trans (p1.append_right found)
        · have : (left.eraseIdx r.toNat).length = left.length - 1 := List.length_eraseIdx_of_lt hj
          rw [this]
          refine (hb2.keep (c := l) keep_upd hbl).keep (c := f) keep_upd hbf
        · intro x o nx hx
          have nxl : x ≠ l := ne_of_none hx nl
          have nxf : x ≠ f := ne_of_none hx nf0
          rw [upd_ne nxf, upd_ne nxl]
          exact k2 x o nx (same_new ne _ _ (hk x o nx hx))
        · rw [List.length_eraseIdx_of_lt hj]; omega
    · have hl0 : left = [] := by
        cases left with
        | nil => rfl
        | cons x r => exact absurd rfl c
      subst hl0
      have ef2 : (upd H' e (.lst [])) f = some (.lst found) := by rw [upd_ne (ne_of_none ef ne)]; exact ef
      exact ⟨.ref f, rfl, q _ f found hp (hk.trans (Keep.of_same (same_new ne))) (hb'.same (same_new ne)) nf0 ef2⟩
end
end Pc
namespace Pc
open PySem PySem.Spec PyProof.Rows L2 RZ
/-! ### pairings as lists of natural numbers -/
/-- the numbers as values -/
def nv (l : List Nat) : List V := l.map fun (i : Nat) => V.int (i : Int)
theorem nv_length (l : List Nat) : (nv l).length = l.length := List.length_map _
theorem nv_get {l : List Nat} {i x : Nat} (h : l[i]? = some x) : (nv l)[i]? = some (.int x) := by
  unfold nv; rw [List.getElem?_map, h]; rfl
theorem nv_at {l : List Nat} {i x : Nat} (h : l[i]? = some x) : atI (nv l) (i : Int) = some (.int x) := atI_nat (nv_get h)
theorem nv_set (l : List Nat) (i x : Nat) : (nv l).set i (.int (x : Int)) = nv (l.set i x) := by
  unfold nv; rw [List.map_set]
theorem nv_get' {l : List Nat} {i : Nat} {v : V} (h : (nv l)[i]? = some v) : ∃ x, l[i]? = some x ∧ v = .int (x : Int) := by
  unfold nv at h
  rw [List.getElem?_map] at h
  cases e : l[i]? with
  | none => rw [e] at h; cases h
  | some x => rw [e] at h; exact ⟨x, rfl, (Option.some.inj h).symm⟩
theorem ixN_nat {n i : Nat} (h : i < n) : ixN n (i : Int) = some i := by
  unfold ixN
  rw [if_pos (by omega), if_pos (by omega)]; rfl
theorem get_some {α : Type} {l : List α} {i : Nat} (h : i < l.length) : ∃ x, l[i]? = some x := ⟨_, List.getElem?_eq_getElem h⟩
theorem get_lt {α : Type} {l : List α} {i : Nat} {x : α} (h : l[i]? = some x) : i < l.length := (List.getElem?_eq_some_iff.mp h).1
/-- a pairing of n people -/
structure IsPair (n : Nat) (ps : List Nat) : Prop where
  len : ps.length = n
  par : ∀ x, x < n → ∃ y, ps[x]? = some y ∧ y < n ∧ y ≠ x ∧ ps[y]? = some x
/-- after t turns: the first t pairs are joined -/
def PInv (os fs : List Nat) (t : Nat) : Prop := fs.length = os.length ∧ ∀ j, j < t → ∀ x y, os[2 * j]? = some x → os[2 * j + 1]? = some y → fs[x]? = some y ∧ fs[y]? = some x
theorem PInv.step {os fs : List Nat} {t x y : Nat} (hnd : os.Nodup) (hlt : ∀ z ∈ os, z < os.length) (h : PInv os fs t) (hx : os[2 * t]? = some x) (hy : os[2 * t + 1]? = some y) :
    PInv os ((fs.set x y).set y x) (t + 1) := by
  obtain ⟨hl, hp⟩ := h
  have xl : x < fs.length := by rw [hl]; exact hlt x (List.mem_of_getElem? hx)
  have yl : y < fs.length := by rw [hl]; exact hlt y (List.mem_of_getElem? hy)
  have xy : x ≠ y := fun e => by
    subst e
    have := nd_ix hnd hx hy
    omega
  refine ⟨by rw [List.length_set, List.length_set, hl], fun j hj u v hu hv => ?_⟩
  by_cases e : j = t
  · subst e
    have e1 : u = x := Option.some.inj (hu.symm.trans hx)
    have e2 : v = y := Option.some.inj (hv.symm.trans hy)
    subst e1 e2
    refine ⟨?_, ?_⟩
    · rw [List.getElem?_set_ne (Ne.symm xy), List.getElem?_set_self xl]
    · rw [List.getElem?_set_self (by rw [List.length_set]; exact yl)]
  · obtain ⟨h1, h2⟩ := hp j (by omega) u v hu hv
    have a1 : x ≠ u := fun z => by subst z; have := nd_ix hnd hx hu; omega
    have a2 : y ≠ u := fun z => by subst z; have := nd_ix hnd hy hu; omega
    have a3 : x ≠ v := fun z => by subst z; have := nd_ix hnd hx hv; omega
    have a4 : y ≠ v := fun z => by subst z; have := nd_ix hnd hy hv; omega
    refine ⟨?_, ?_⟩
    · rw [List.getElem?_set_ne a2, List.getElem?_set_ne a1]; exact h1
    · rw [List.getElem?_set_ne a4, List.getElem?_set_ne a3]; exact h2
theorem PInv.done {os fs : List Nat} {n : Nat} (hp : os.Perm (List.range n)) (he : n % 2 = 0) (h : PInv os fs (n / 2)) : IsPair n fs := by
  have hl : os.length = n := by rw [hp.length_eq, List.length_range]
  have hnd : os.Nodup := hp.nodup_iff.mpr List.nodup_range
  refine ⟨by rw [h.1, hl], fun x hx => ?_⟩
  have hm : x ∈ os := hp.mem_iff.mpr (List.mem_range.mpr hx)
  obtain ⟨i, hi, ei⟩ := List.mem_iff_getElem.mp hm
  have gi : os[i]? = some x := by rw [List.getElem?_eq_getElem hi, ei]
  have lt_n : ∀ {k z : Nat}, os[k]? = some z → z < n := fun {k z} hz => List.mem_range.mp (hp.mem_iff.mp (List.mem_of_getElem? hz))
  by_cases hq : i % 2 = 0
  · have i1 : i + 1 < os.length := by omega
    obtain ⟨y, gy⟩ := get_some i1
    have g1 : os[2 * (i / 2)]? = some x := by rw [show 2 * (i / 2) = i by omega]; exact gi
    have g2 : os[2 * (i / 2) + 1]? = some y := by rw [show 2 * (i / 2) + 1 = i + 1 by omega]; exact gy
    obtain ⟨r1, r2⟩ := h.2 (i / 2) (by omega) x y g1 g2
    exact ⟨y, r1, lt_n gy, fun e => by subst e; have := nd_ix hnd gi gy; omega, r2⟩
  · have i1 : i - 1 < os.length := by omega
    obtain ⟨y, gy⟩ := get_some i1
    have g1 : os[2 * (i / 2)]? = some y := by rw [show 2 * (i / 2) = i - 1 by omega]; exact gy
    have g2 : os[2 * (i / 2) + 1]? = some x := by rw [show 2 * (i / 2) + 1 = i by omega]; exact gi
    obtain ⟨r1, r2⟩ := h.2 (i / 2) (by omega) y x g1 g2
    exact ⟨y, r2, lt_n gy, fun e => by subst e; have := nd_ix hnd gi gy; omega, r1⟩
/-- range(0, n, 2) -/
theorem fits_long {i : Int} (h1 : -(2 ^ 62) ≤ i) (h2 : i < 2 ^ 62) : Builtin.Range.rangeFitsLong i = true := by
  unfold Builtin.Range.rangeFitsLong
  rw [Bool.and_eq_true]
  exact ⟨decide_eq_true (by omega), decide_eq_true (by omega)⟩
theorem rgc_two {n : Nat} (h : n ≤ 1000000) : RgC 0 (n : Int) 2 ((n + 1) / 2) := by
  have e : Builtin.Range.rangeSize 0 (n : Int) 2 = (((n + 1) / 2 : Nat) : Int) := by
    unfold Builtin.Range.rangeSize
    rw [if_pos (by decide)]
    split <;> omega
  refine ⟨by decide, by decide, ?_, e⟩
  unfold Builtin.Range.small
  rw [e, fits_long (i := 0) (by decide) (by decide), fits_long (i := (n : Int)) (by omega) (by omega), fits_long (i := 2) (by decide) (by decide), fits_long (i := (((n + 1) / 2 : Nat) : Int)) (by omega) (by omega), if_pos (by decide), fits_long (i := (n : Int) + (2 - 1)) (by omega) (by omega), Bool.or_true]
  rfl
theorem rep_flat {α : Type} (n : Nat) (x : α) : (List.replicate n [x]).flatten = List.replicate n x := by
  induction n with
  | zero => rfl
  | succ n ih => rw [List.replicate_succ, List.flatten_cons, ih, List.replicate_succ]; rfl
end Pc
namespace Pc
open PySem PySem.Spec PyProof.Rows L2 RZ
section
variable {P : Program} {w : World} {K : PySem.W.Frag} {mg : Str → Option Value} {base : Heap}
/-! ### one of some -/
def spOf (K : PySem.W.Frag) : Sp := fun vs H Q _ => ∃ (b a : Addr) (n : Nat) (xs : List V), vs = [.ref b, .ref a] ∧ Box (n + 1) H b ∧ a ≠ b ∧ H a = some (.lst xs) ∧ 0 < xs.length ∧ xs.length ≤ 1000 ∧
  ∀ (H' : Hp) (i : Nat) (v : V), xs[i]? = some v → Keep b H H' → Box n H' b → Q v H'
theorem ok_of (T : Env K mg) : FnOk P w K mg base CX0 2 T.f_pick T.d_pick ["_law_source", "_law_some"] (spOf K) := by
  have GT : FnOk P w K mg base CX0 1 T.f_draw T.d_draw ["_law_source", "_law_bound"] spTake := ok_take T
  refine T.F_pick.ok sc_pick (fun vs H Q E h => ?_) (fun cdv A outer s H vs Q E hr h => ?_)
  · obtain ⟨b, a, n, xs, rfl, _⟩ := h
    rfl
  · obtain ⟨b, a, n, xs, rfl, hB, hab, ha, h0, hl, q⟩ := h
    refine ⟨_, pss_one (ps_ret (pe_ix ix_list (pv 1) (pe_call GT hr (by rfl) T.g_draw T.F_draw.kp T.b_draw .nil pass0 (pa_cons (pv 0) (pa_cons (pe_callB call_len_seq (by rfl) T.n_len PySem.boot_len (pa_cons (pv 1) pa_nil)) pa_nil))) (fun _ _ => rfl))), ?_⟩
    refine ⟨.ref a, rfl, .ref b, rfl, .ref a, rfl, a, xs, rfl, .inl (.inl (.inl ha)), b, n, xs.length, rfl, hB, by omega, by omega, fun r H' r0 r1 hB' k => ?_⟩
    obtain ⟨v, hv⟩ := get_some (l := xs) (i := r.toNat) (by omega)
    refine ⟨a, xs, r, v, rfl, rfl, .inl (.inl (k _ _ hab ha)), ?_, q H' r.toNat v hv k hB'⟩
    have := atI_nat hv
    rw [show ((r.toNat : Nat) : Int) = r by omega] at this
    exact this
end
end Pc
namespace Pc
open PySem PySem.Spec PyProof.Rows L2 RZ
theorem perm_map_inv {α β : Type} (f : α → β) {zs ys : List β} (h : zs.Perm ys) : ∀ l : List α, zs = l.map f → ∃ l' : List α, ys = l'.map f ∧ l'.Perm l := by
  induction h with
  | nil => exact fun l e => ⟨l, e, List.Perm.refl _⟩
  | cons x _ ih =>
    intro l e
    cases l with
    | nil => cases e
    | cons a r =>
      injection e with e1 e2
      obtain ⟨l', h1, h2⟩ := ih r e2
      exact ⟨a :: l', by rw [h1, e1]; rfl, h2.cons a⟩
  | swap x y t =>
    intro l e
    cases l with
    | nil => cases e
    | cons a r =>
      cases r with
      | nil => injection e with _ e2; cases e2
      | cons b r =>
        injection e with e1 e2
        injection e2 with e2 e3
        exact ⟨b :: a :: r, by rw [e1, e2, e3]; rfl, List.Perm.swap _ _ _⟩
  | trans _ _ ih1 ih2 =>
    intro l e
    obtain ⟨l1, h1, h2⟩ := ih1 l e
    obtain ⟨l2, h3, h4⟩ := ih2 l1 h1
    exact ⟨l2, h3, h4.trans h2⟩
theorem rg_nv (n : Nat) : rgV 0 (n : Int) = nv (List.range n) := by
  unfold rgV nv
  rw [Int.sub_zero, Int.toNat_natCast]
  refine List.map_congr_left fun i _ => ?_
  rw [Int.zero_add]
end Pc
namespace Pc
open PySem PySem.Spec PyProof.Rows L2 RZ
section
variable {P : Program} {w : World} {K : PySem.W.Frag} {mg : Str → Option Value} {base : Heap}
/-! ### a drawn pairing -/
def spRandom : Sp := fun vs H Q _ => ∃ (b : Addr) (n k : Nat), vs = [.ref b, .int k] ∧ Box (n + k) H b ∧ k % 2 = 0 ∧ k ≤ 1000 ∧
  ∀ (H' : Hp) (p : Addr) (ps : List Nat), IsPair k ps → Keep b H H' → Box n H' b → H p = none → H' p = some (.tup (nv ps)) → Q (.ref p) H'
theorem ok_random (T : Env K mg) : FnOk P w K mg base CX0 3 T.f_random_pairing T.d_random_pairing ["_law_source", "_law_crowd"] spRandom := by
  have GS : FnOk P w K mg base CX0 2 T.f_shuffled T.d_shuffled ["_law_source", "_law_some"] (spStrewn K) := ok_strewn T
  refine T.F_random_pairing.ok sc_random_pairing (fun vs H Q E h => ?_) (fun cdv A outer s H vs Q E hr h => ?_)
  · obtain ⟨b, n, k, rfl, _⟩ := h
    rfl
  · obtain ⟨b0, m, n, rfl, hB, he, hn, q⟩ := h
    refine ⟨_, pss_cons (ps_par (by rfl) sc_random_pairing.nd (i := 2) (j := 3) rfl rfl (by decide) rfl rfl (pa_cons (pe_call GS hr (by rfl) T.g_shuffled T.F_shuffled.kp T.b_shuffled .nil pass0 (pa_cons (pv 0) (pa_cons (pe_listRg rfl (by rfl) T.n_list (prg_1 (by rfl) T.n_range (pv 1))) pa_nil)))
        (pa_cons (pe_op op_rep (pe_lst (pa_cons pe_int pa_nil)) (pv 1)) pa_nil)) (by rfl)) <|
      pss_cons (ps_for PassesOwn.never rfl (pi_range3 rfl T.n_range (pa_cons pe_int (pa_cons (pv 1) (pa_cons pe_int pa_nil))))
          (pg_name (i := 4) sc_random_pairing.nd rfl (.inl rfl))
        (pss_one (ps_asg (pe_tup (pa_cons (pe_ix ix_list (pv 2) (pe_op op_add (pv 4) pe_int) (fun _ _ => rfl)) (pa_cons (pe_ix ix_list (pv 2) (pv 4) (fun _ _ => rfl)) pa_nil)))
          (pg_tup rfl (pgs_cons (pg_sub (pv 3) (pe_ix ix_list (pv 2) (pv 4) (fun _ _ => rfl)) set_list) (pgs_cons (pg_sub (pv 3) (pe_ix ix_list (pv 2) (pe_op op_add (pv 4) pe_int) (fun _ _ => rfl)) set_list) pgs_nil)))))) <|
      pss_one (ps_ret (pe_callTy call_tuple_of (by rfl) T.n_tuple (by decide +kernel) (pa_cons (pv 3) pa_nil))), ?_⟩
    refine ⟨.ref b0, rfl, .int n, rfl, n, rfl, RgOk.of_le (by decide) (by omega) (by decide) (by omega), fun rl nrl => ?_⟩
    have sr : Same H _ := same_new (o := .lst (rgV 0 (n : Int))) nrl
    have hrl : (rgV 0 (n : Int)).length = n := by rw [rgV_length]; omega
    refine ⟨b0, rl, m, _, rfl, (hB.same sr).mono (by rw [hrl]; exact Nat.le_refl _), .inl (.inl upd_same), by rw [hrl]; exact hn, fun H1 a ys hpy hk2 hB1 na0 ea0 => ?_⟩
    obtain ⟨os, ee1, hp⟩ := perm_map_inv (fun (i : Nat) => V.int (i : Int)) hpy.symm (List.range n) (rg_nv n)
    have ea1 : H1 a = some (.lst (nv os)) := by rw [ea0, ee1]; rfl
    have hS : SqL K H1 a (nv os) := .inl (.inl ea1)
    have kk : Keep b0 H H1 := (Keep.of_same sr).trans hk2
    have hl : os.length = n := by rw [hp.length_eq, List.length_range]
    have hl2 : (nv os).length = n := by rw [nv_length, hl]
    have hnd : os.Nodup := hp.nodup_iff.mpr List.nodup_range
    have hlt : ∀ z ∈ os, z < os.length := fun z hz => by rw [hl]; exact List.mem_range.mp (hp.mem_iff.mp hz)
    refine ⟨by show 1 ≤ sizeLine; decide, fun e ne => ?_⟩
    have s0 : Same H1 (upd H1 e (.lst [.int 0])) := same_new ne
    refine ⟨.int n, rfl, e, _, [.int 0], rfl, rfl, upd_same, by omega, by omega, ?_, fun f nf => ⟨_, _, rfl, ?_⟩⟩
    · show 1 * Int.toNat (n : Int) ≤ sizeLine
      exact Nat.le_of_lt (small1000 (by omega))
    have s1 : Same H1 _ := s0.trans (same_new (o := .lst (List.replicate ((n : Nat) : Int).toNat [V.int 0]).flatten) nf)
    have nf0 : H1 f = none := s0.free nf
    have e0 : (List.replicate ((n : Nat) : Int).toNat [V.int 0]).flatten = nv (List.replicate n 0) := by
      rw [rep_flat, Int.toNat_natCast]
      unfold nv
      rw [List.map_replicate]; rfl
    have ef0 : (upd (upd H1 e (.lst [.int 0])) f (.lst (List.replicate ((n : Nat) : Int).toNat [V.int 0]).flatten)) f = some (.lst (nv (List.replicate n 0))) := by rw [upd_same, e0]
    refine ⟨.int n, rfl, 0, _, 2, n / 2, rfl, ?_, ?_⟩
    · have := rgc_two (n := n) (by omega)
      rw [show (n + 1) / 2 = n / 2 by omega] at this
      exact this
    refine for_rangeC (fun t σ H' => Same H1 H' ∧ ∃ (y : Option V) (fs : List Nat), σ = [some (.ref b0), some (.int n), some (.ref a), some (.ref f), y] ∧ H' f = some (.lst (nv fs)) ∧ PInv os fs t)
      ⟨s1, none, List.replicate n 0, rfl, ef0, by rw [List.length_replicate, hl], fun j hj => absurd hj (Nat.not_lt_zero _)⟩ (fun t σ H' ht h => ?_) (fun σ H' h => ?_)
    · obtain ⟨sm, y, fs, rfl, ef, pi⟩ := h
      obtain ⟨x1, g1⟩ := get_some (l := os) (i := 2 * t) (by omega)
      obtain ⟨x2, g2⟩ := get_some (l := os) (i := 2 * t + 1) (by omega)
      have hS' : SqL K H' a (nv os) := sm.seq hS
      have ea : atI (nv os) ((0 : Int) + (t : Nat) * 2) = some (.int x1) := by
        rw [show (0 : Int) + (t : Nat) * 2 = ((2 * t : Nat) : Int) by omega]; exact nv_at g1
      have eb : atI (nv os) ((0 : Int) + (t : Nat) * 2 + 1) = some (.int x2) := by
        rw [show (0 : Int) + (t : Nat) * 2 + 1 = ((2 * t + 1 : Nat) : Int) by omega]; exact nv_at g2
      have l1 : x1 < fs.length := by rw [pi.1]; exact hlt _ (List.mem_of_getElem? g1)
      have l2 : x2 < fs.length := by rw [pi.1]; exact hlt _ (List.mem_of_getElem? g2)
      refine ⟨.ref a, rfl, _, rfl, _, 1, rfl, rfl, a, _, _, _, rfl, rfl, hS', eb, .ref a, rfl, _, rfl, a, _, _, _, rfl, rfl, hS', ea, by show 2 ≤ sizeLine; decide, fun tp nt => ?_⟩
      have st : Same H' (upd H' tp (.tup [.int x2, .int x1])) := same_new nt
      have eft : (upd H' tp (.tup [.int x2, .int x1])) f = some (.lst (nv fs)) := st _ _ ef
      have nft : f ≠ tp := ne_of_none ef nt
      refine ⟨tp, _, rfl, .inl (.inl upd_same), rfl, _, _, rfl, .ref f, rfl, .ref a, rfl, _, rfl, a, _, _, _, rfl, rfl, st.seq hS', ea, f, _, _, x1, rfl, rfl, eft, ixN_nat (by rw [nv_length]; exact l1), ?_⟩
      have sq : SqL K (upd (upd H' tp (.tup [.int x2, .int x1])) f (.lst ((nv fs).set x1 (.int x2)))) a (nv os) := by
        have : ∀ b o, H1 b = some o → (upd (upd H' tp (.tup [.int x2, .int x1])) f (.lst ((nv fs).set x1 (.int x2)))) b = some o := fun b o hb => by
          rw [upd_ne (ne_of_none hb nf0)]; exact st _ _ (sm _ _ hb)
        exact Same.seq this hS
      refine ⟨_, _, rfl, .ref f, rfl, .ref a, rfl, _, rfl, _, 1, rfl, rfl, a, _, _, _, rfl, rfl, sq, eb, f, _, _, x2, rfl, rfl, upd_same, ?_, ?_⟩
      · rw [List.length_set]; exact ixN_nat (by rw [nv_length]; exact l2)
      · refine ⟨rfl, fun b o hb => ?_, _, (fs.set x1 x2).set x2 x1, rfl, ?_, pi.step hnd hlt g1 g2⟩
        · rw [upd_ne (ne_of_none hb nf0), upd_ne (ne_of_none hb nf0)]; exact st _ _ (sm _ _ hb)
        · rw [upd_same, nv_set, nv_set]
    · obtain ⟨sm, y, fs, rfl, ef, pi⟩ := h
      refine ⟨.ref f, rfl, f, _, rfl, .inl ⟨.inl (.inl ef), fun p np => ?_⟩⟩
      have sp := sm.trans (same_new (o := .tup (nv fs)) np)
      refine q _ p fs (pi.done hp he) (kk.trans (Keep.of_same sp)) (hB1.same sp) ?_ upd_same
      have np1 : H1 p = none := sm.free np
      cases e : H p with
      | none => rfl
      | some o =>
        by_cases hb : p = b0
        · subst hb
          obtain ⟨y, hy⟩ := hB1.lst
          rw [hy] at np1; cases np1
        · rw [kk p o hb e] at np1; cases np1
end
end Pc
namespace Pc
open PySem PySem.Spec PyProof.Rows L2 RZ
/-- the first k of a list of numbers, as a slice -/
theorem cut_head (l : List Nat) (k : Nat) : cutV (nv l) none (some (k : Int)) = nv (l.take k) := by
  unfold cutV nv
  rw [HT.sIx_none, HT.sIx_nat, List.drop_zero, List.length_map, Nat.sub_zero, List.map_take]
  by_cases h : k ≤ l.length
  · rw [Nat.min_eq_left h]
  · rw [Nat.min_eq_right (by omega), List.take_of_length_le (by rw [List.length_map]; omega), List.take_of_length_le (by rw [List.length_map]; omega)]
theorem keep_none {b p : Addr} {k : Nat} {H H' : Hp} (hk : Keep b H H') (hB : Box k H' b) (h : H' p = none) : H p = none := by
  cases e : H p with
  | none => rfl
  | some o =>
    by_cases hb : p = b
    · subst hb
      obtain ⟨y, hy⟩ := hB.lst
      rw [hy] at h; cases h
    · rw [hk p o hb e] at h; cases h
end Pc
namespace Pc
open PySem PySem.Spec PyProof.Rows L2 RZ
section
variable {P : Program} {w : World} {K : PySem.W.Frag} {mg : Str → Option Value} {base : Heap}
/-! ### a drawn call of some people -/
def spCallOf (K : PySem.W.Frag) : Sp := fun vs H Q _ => ∃ (b a : Addr) (m n : Nat) (l : List Nat), vs = [.ref b, .ref a] ∧ Box (m + l.length) H b ∧ SqL K H a (nv l) ∧ l.Nodup ∧ 2 ≤ l.length ∧ l.length ≤ 1000 ∧ (∀ x ∈ l, x < n) ∧
  ∀ (H' : Hp) (t : Addr) (x y : Nat), x < y → y < n → H t = none → H' t = some (.tup [.int x, .int y]) → Keep b H H' → Box m H' b → Q (.ref t) H'
theorem ok_call_of (T : Env K mg) : FnOk P w K mg base CX0 3 T.f_random_call T.d_random_call ["_law_source", "_law_some"] (spCallOf K) := by
  have GS : FnOk P w K mg base CX0 2 T.f_shuffled T.d_shuffled ["_law_source", "_law_some"] (spStrewn K) := ok_strewn T
  refine T.F_random_call.ok sc_random_call (fun vs H Q E h => ?_) (fun cdv A outer s H vs Q E hr h => ?_)
  · obtain ⟨b, a, m, n, l, rfl, _⟩ := h
    rfl
  · obtain ⟨b, a, m, n, l, rfl, hB, hS, hnd, h2, hl, hlt, q⟩ := h
    refine ⟨_, pss_cons (ps_set (i := 2) sc_random_call.nd rfl (.inl rfl) (pe_slice sl_list (pe_call GS hr (by rfl) T.g_shuffled T.F_shuffled.kp T.b_shuffled .nil pass0 (pa_cons (pv 0) (pa_cons (pv 1) pa_nil))) po_none (po_some pe_int))) <|
      pss_one (ps_ret (pe_tup (pa_cons (pe_callB (cr_min rfl) (by rfl) T.n_min (by decide +kernel) (pa_cons (pv 2) pa_nil)) (pa_cons (pe_callB (cr_max rfl) (by rfl) T.n_max (by decide +kernel) (pa_cons (pv 2) pa_nil)) pa_nil)))), ?_⟩
    refine ⟨.ref b, rfl, .ref a, rfl, b, a, m, nv l, rfl, by rw [nv_length]; exact hB, hS, by rw [nv_length]; exact hl, fun H1 p2 ys hpy k1 hB1 np2 ep2 => ?_⟩
    obtain ⟨os, e1, hp⟩ := perm_map_inv (fun (i : Nat) => V.int (i : Int)) hpy.symm l rfl
    have ep : H1 p2 = some (.lst (nv os)) := by rw [ep2, e1]; rfl
    have hol : os.length = l.length := hp.length_eq
    have hon : os.Nodup := hp.nodup_iff.mpr hnd
    refine ⟨2, rfl, p2, nv os, rfl, .inl (.inl ep), fun p3 np3 => ?_⟩
    have ec : cutV (nv os) none (some 2) = nv (os.take 2) := cut_head os 2
    rw [ec]
    match os, hol, hon, hp with
    | [], ho, _, _ => exact absurd ho (by simp only [List.length_nil]; omega)
    | [_], ho, _, _ => exact absurd ho (by simp only [List.length_cons, List.length_nil]; omega)
    | x :: y :: r, _, hon, hp =>
      have hx : x < n := hlt x (hp.mem_iff.mp List.mem_cons_self)
      have hy : y < n := hlt y (hp.mem_iff.mp (List.mem_cons_of_mem _ List.mem_cons_self))
      have hxy : x ≠ y := fun e => (List.nodup_cons.mp hon).1 (by rw [e]; exact List.mem_cons_self)
      have s3 : Same H1 _ := same_new (o := .lst (nv [x, y])) np3
      have e3 : (upd H1 p3 (.lst (nv [x, y]))) p3 = some (.lst ([(x : Int), (y : Int)].map V.int)) := upd_same
      refine ⟨.ref p3, rfl, p3, [(x : Int), (y : Int)], rfl, .inl (.inl e3), by show 0 < 2; decide, fun u u1 u2 => ?_⟩
      refine ⟨.ref p3, rfl, p3, [(x : Int), (y : Int)], rfl, .inl (.inl e3), by show 0 < 2; decide, fun v v1 v2 => ?_⟩
      have ux := u2 (x : Int) List.mem_cons_self
      have uy := u2 (y : Int) (List.mem_cons_of_mem _ List.mem_cons_self)
      have vx := v2 (x : Int) List.mem_cons_self
      have vy := v2 (y : Int) (List.mem_cons_of_mem _ List.mem_cons_self)
      have u3 : u = (x : Int) ∨ u = (y : Int) := by
        rcases List.mem_cons.mp u1 with z | z
        · exact .inl z
        · exact .inr (List.mem_singleton.mp z)
      have v3 : v = (x : Int) ∨ v = (y : Int) := by
        rcases List.mem_cons.mp v1 with z | z
        · exact .inl z
        · exact .inr (List.mem_singleton.mp z)
      refine ⟨by show 2 ≤ sizeLine; decide, fun t nt => ?_⟩
      have kt : Keep b H _ := k1.trans (Keep.of_same (s3.trans (same_new (o := .tup [.int u, .int v]) nt)))
      refine q _ t u.toNat v.toNat (by omega) (by omega) (keep_none (k1.trans (Keep.of_same s3)) (hB1.same s3) nt) ?_ kt (hB1.same (s3.trans (same_new nt)))
      rw [upd_same, show ((u.toNat : Nat) : Int) = u by omega, show ((v.toNat : Nat) : Int) = v by omega]
end
end Pc
namespace Pc
open PySem PySem.Spec PyProof.Rows L2 RZ
/-! ### data where more is tracked -/
theorem same_tup {K : PySem.W.Frag} {H H' : Hp} {a : Addr} {xs : List V} (e : Same H H') (h : SqT K H a xs) : SqT K H' a xs := by
  rcases h with (h | ⟨o, h⟩) | h
  · exact .inl (.inl (e _ _ h))
  · exact .inl (.inr ⟨o, e _ _ h⟩)
  · exact .inr h
mutual
theorem dp_same {K : PySem.W.Frag} {H H' : Hp} (e : Same H H') : ∀ {v : V} {d : PyData}, Dp K H v d → Dp K H' v d
  | _, _, .non => .non
  | _, _, .bl b => .bl b
  | _, _, .int i => .int i
  | _, _, .str x => .str x
  | _, _, .lst h a => .lst (e.seq h) (dpa_same e a)
  | _, _, .tup h a => .tup (same_tup e h) (dpa_same e a)
theorem dpa_same {K : PySem.W.Frag} {H H' : Hp} (e : Same H H') : ∀ {vs : List V} {ds : List PyData}, DpAll K H vs ds → DpAll K H' vs ds
  | _, _, .nil => .nil
  | _, _, .cons h a => .cons (dp_same e h) (dpa_same e a)
end
theorem dpa_len {K : PySem.W.Frag} {H : Hp} : ∀ {vs : List V} {ds : List PyData}, DpAll K H vs ds → vs.length = ds.length
  | _, _, .nil => rfl
  | _, _, .cons _ a => by rw [List.length_cons, List.length_cons, dpa_len a]
theorem dpa_get {K : PySem.W.Frag} {H : Hp} : ∀ {vs : List V} {ds : List PyData} {i : Nat} {v : V}, DpAll K H vs ds → vs[i]? = some v → ∃ d, ds[i]? = some d ∧ Dp K H v d
  | _, _, _, _, .nil, h => by simp at h
  | _, _, 0, _, .cons (d := d) h _, e => by
    cases Option.some.inj e
    exact ⟨d, rfl, h⟩
  | _, _, i + 1, v, .cons _ a, e => dpa_get (i := i) a e
theorem depth_get : ∀ {ds : List PyData} {i : Nat} {d : PyData}, ds[i]? = some d → d.depth ≤ PyData.depthAll ds
  | [], _, _, h => by simp at h
  | d :: r, 0, _, h => by
    cases Option.some.inj h
    exact Nat.le_max_left _ _
  | d :: r, i + 1, x, h => Nat.le_trans (depth_get (i := i) (ds := r) h) (Nat.le_max_right _ _)
mutual
/-- no list in it is longer than a hundred thousand -/
def narrow : PyData → Prop
  | .list xs => xs.length ≤ 100000 ∧ narrowAll xs
  | .tuple xs => xs.length ≤ 100000 ∧ narrowAll xs
  | _ => True
def narrowAll : List PyData → Prop
  | [] => True
  | x :: xs => narrow x ∧ narrowAll xs
end
theorem narrow_get : ∀ {ds : List PyData} {i : Nat} {d : PyData}, narrowAll ds → ds[i]? = some d → narrow d
  | [], _, _, _, h => by simp at h
  | d :: r, 0, _, n, h => by
    cases Option.some.inj h
    exact n.1
  | d :: r, i + 1, x, n, h => narrow_get (i := i) (ds := r) n.2 h
theorem narrow_of : ∀ {ds : List PyData}, (∀ d ∈ ds, narrow d) → narrowAll ds
  | [], _ => trivial
  | d :: r, h => ⟨h d List.mem_cons_self, narrow_of fun x hx => h x (List.mem_cons_of_mem _ hx)⟩
theorem narrow_ints (ns : List Int) : narrowAll (ns.map PyData.int) := narrow_of fun d hd => by
  obtain ⟨i, _, rfl⟩ := List.mem_map.mp hd
  exact trivial
theorem line_big {n : Nat} (h : n ≤ 100000) : n < sizeLine := Nat.lt_of_le_of_lt h (by decide)
theorem ty_lst {K : PySem.W.Frag} {H : Hp} {a : Addr} {xs : List V} (h : SqL K H a xs) : TyX K H (.ref a) (.type "list") := by
  rcases h with (h | ⟨o, h⟩) | ⟨o, its, n, h, c, _⟩
  · exact .base (.lst h)
  · exact .base (.frz h)
  · exact .kList h c
theorem ty_tup {K : PySem.W.Frag} {H : Hp} {a : Addr} {xs : List V} (h : SqT K H a xs) : TyX K H (.ref a) (.type "tuple") := by
  rcases h with (h | ⟨o, h⟩) | ⟨o, its, n, h, c, _⟩
  · exact .base (.tup h)
  · exact .fTuple h
  · exact .kTuple h c
theorem kit2 {K : PySem.W.Frag} {t a b : String} {p q : Bool} (h1 : kitB t a = some p) (h2 : kitB t b = some q) : PySem.W.kitAny K (.type t) [.type a, .type b] = some (p || q) := by
  refine kitAny_cons (kit_ty h1) (fun e => kitAny_cons (kit_ty h2) (fun e2 => ?_) (fun e2 => ?_)) (fun e => ?_)
  · subst e e2; rfl
  · subst e e2; rfl
  · subst e; rfl
section
variable {K : PySem.W.Frag}
theorem any_lt_int : PySem.W.kitAny K (.type "int") [.type "list", .type "tuple"] = some false := kit2 (p := false) (q := false) (by decide +kernel) (by decide +kernel)
theorem any_sb_int : PySem.W.kitAny K (.type "int") [.type "str", .type "bool"] = some false := kit2 (p := false) (q := false) (by decide +kernel) (by decide +kernel)
theorem any_bs_int : PySem.W.kitAny K (.type "int") [.type "bool", .type "str"] = some false := kit2 (p := false) (q := false) (by decide +kernel) (by decide +kernel)
theorem one_int_int : PySem.W.kitOne K (.type "int") (.type "int") = some true := kit_ty (by decide +kernel)
theorem one_int_bool : PySem.W.kitOne K (.type "int") (.type "bool") = some false := kit_ty (by decide +kernel)
theorem one_int_list : PySem.W.kitOne K (.type "int") (.type "list") = some false := kit_ty (by decide +kernel)
theorem one_int_tuple : PySem.W.kitOne K (.type "int") (.type "tuple") = some false := kit_ty (by decide +kernel)
theorem any_lt_none : PySem.W.kitAny K (.type "NoneType") [.type "list", .type "tuple"] = some false := kit2 (p := false) (q := false) (by decide +kernel) (by decide +kernel)
theorem any_sb_none : PySem.W.kitAny K (.type "NoneType") [.type "str", .type "bool"] = some false := kit2 (p := false) (q := false) (by decide +kernel) (by decide +kernel)
theorem any_bs_none : PySem.W.kitAny K (.type "NoneType") [.type "bool", .type "str"] = some false := kit2 (p := false) (q := false) (by decide +kernel) (by decide +kernel)
theorem one_none_int : PySem.W.kitOne K (.type "NoneType") (.type "int") = some false := kit_ty (by decide +kernel)
theorem one_none_bool : PySem.W.kitOne K (.type "NoneType") (.type "bool") = some false := kit_ty (by decide +kernel)
theorem one_none_list : PySem.W.kitOne K (.type "NoneType") (.type "list") = some false := kit_ty (by decide +kernel)
theorem one_none_tuple : PySem.W.kitOne K (.type "NoneType") (.type "tuple") = some false := kit_ty (by decide +kernel)
theorem any_lt_bool : PySem.W.kitAny K (.type "bool") [.type "list", .type "tuple"] = some false := kit2 (p := false) (q := false) (by decide +kernel) (by decide +kernel)
theorem any_sb_bool : PySem.W.kitAny K (.type "bool") [.type "str", .type "bool"] = some true := kit2 (p := false) (q := true) (by decide +kernel) (by decide +kernel)
theorem any_bs_bool : PySem.W.kitAny K (.type "bool") [.type "bool", .type "str"] = some true := kit2 (p := true) (q := false) (by decide +kernel) (by decide +kernel)
theorem one_bool_int : PySem.W.kitOne K (.type "bool") (.type "int") = some true := kit_ty (by decide +kernel)
theorem one_bool_bool : PySem.W.kitOne K (.type "bool") (.type "bool") = some true := kit_ty (by decide +kernel)
theorem one_bool_list : PySem.W.kitOne K (.type "bool") (.type "list") = some false := kit_ty (by decide +kernel)
theorem one_bool_tuple : PySem.W.kitOne K (.type "bool") (.type "tuple") = some false := kit_ty (by decide +kernel)
theorem any_lt_str : PySem.W.kitAny K (.type "str") [.type "list", .type "tuple"] = some false := kit2 (p := false) (q := false) (by decide +kernel) (by decide +kernel)
theorem any_sb_str : PySem.W.kitAny K (.type "str") [.type "str", .type "bool"] = some true := kit2 (p := true) (q := false) (by decide +kernel) (by decide +kernel)
theorem any_bs_str : PySem.W.kitAny K (.type "str") [.type "bool", .type "str"] = some true := kit2 (p := false) (q := true) (by decide +kernel) (by decide +kernel)
theorem one_str_int : PySem.W.kitOne K (.type "str") (.type "int") = some false := kit_ty (by decide +kernel)
theorem one_str_bool : PySem.W.kitOne K (.type "str") (.type "bool") = some false := kit_ty (by decide +kernel)
theorem one_str_list : PySem.W.kitOne K (.type "str") (.type "list") = some false := kit_ty (by decide +kernel)
theorem one_str_tuple : PySem.W.kitOne K (.type "str") (.type "tuple") = some false := kit_ty (by decide +kernel)
theorem any_lt_list : PySem.W.kitAny K (.type "list") [.type "list", .type "tuple"] = some true := kit2 (p := true) (q := false) (by decide +kernel) (by decide +kernel)
theorem any_sb_list : PySem.W.kitAny K (.type "list") [.type "str", .type "bool"] = some false := kit2 (p := false) (q := false) (by decide +kernel) (by decide +kernel)
theorem any_bs_list : PySem.W.kitAny K (.type "list") [.type "bool", .type "str"] = some false := kit2 (p := false) (q := false) (by decide +kernel) (by decide +kernel)
theorem one_list_int : PySem.W.kitOne K (.type "list") (.type "int") = some false := kit_ty (by decide +kernel)
theorem one_list_bool : PySem.W.kitOne K (.type "list") (.type "bool") = some false := kit_ty (by decide +kernel)
theorem one_list_list : PySem.W.kitOne K (.type "list") (.type "list") = some true := kit_ty (by decide +kernel)
theorem one_list_tuple : PySem.W.kitOne K (.type "list") (.type "tuple") = some false := kit_ty (by decide +kernel)
theorem any_lt_tuple : PySem.W.kitAny K (.type "tuple") [.type "list", .type "tuple"] = some true := kit2 (p := false) (q := true) (by decide +kernel) (by decide +kernel)
theorem any_sb_tuple : PySem.W.kitAny K (.type "tuple") [.type "str", .type "bool"] = some false := kit2 (p := false) (q := false) (by decide +kernel) (by decide +kernel)
theorem any_bs_tuple : PySem.W.kitAny K (.type "tuple") [.type "bool", .type "str"] = some false := kit2 (p := false) (q := false) (by decide +kernel) (by decide +kernel)
theorem one_tuple_int : PySem.W.kitOne K (.type "tuple") (.type "int") = some false := kit_ty (by decide +kernel)
theorem one_tuple_bool : PySem.W.kitOne K (.type "tuple") (.type "bool") = some false := kit_ty (by decide +kernel)
theorem one_tuple_list : PySem.W.kitOne K (.type "tuple") (.type "list") = some false := kit_ty (by decide +kernel)
theorem one_tuple_tuple : PySem.W.kitOne K (.type "tuple") (.type "tuple") = some true := kit_ty (by decide +kernel)
end
theorem cls2 (a b : String) : Paired ClsV [.ty a, .ty b] [.type a, .type b] := .cons (.ty a) (.cons (.ty b) .nil)
/-- zip of two tuples -/
theorem walk_zipT {K : PySem.W.Frag} {a b : Addr} {xs ys : List V} {n : Nat} (hn : n = min xs.length ys.length) : Walk (ItzT K a b) n (fun H => SqT K H a xs ∧ SqT K H b ys) (YPair (fun i => xs[i]?) (fun i => ys[i]?)) := by
  subst hn
  refine ⟨fun i _ hi q => ?_, fun _ q => ⟨xs, ys, q.1, q.2, by omega⟩, fun i H v H' _ q y => ?_⟩
  · obtain ⟨x, hx⟩ := get_some (l := xs) (i := i) (by omega)
    obtain ⟨z, hz⟩ := get_some (l := ys) (i := i) (by omega)
    exact ⟨xs, ys, x, z, q.1, q.2, hx, hz⟩
  · obtain ⟨T, x, z, h1, h2, h3, h4, h5⟩ := y
    exact ⟨T, x, z, h1, h2, h3, h4 xs q.1, h5 ys q.2⟩
theorem fn_never {P : Program} {w : World} {K : PySem.W.Frag} {mg : Str → Option Value} {base : Heap} {CX : CXT} {k : Nat} {f : Addr} {fd : FuncData} {ps : List Str} {sp : Sp} (h : ∀ vs H Q E, ¬ sp vs H Q E) : FnOk P w K mg base CX k f fd ps sp :=
  ⟨fun vs H Q E q => absurd q (h vs H Q E), fun _ _ _ H _ _ vs Q E _ _ _ _ q => absurd q (h vs H Q E)⟩
/-- a comprehension without a test -/
theorem yes_if {σ : L2.St} {H : Hp} {A B : Hp → Prop} (h : A H) : tYes σ H (fun b H3 => if b = true then A H3 else B H3) := by
  show if true = true then A H else B H
  exact iteT h
theorem all_rep : ∀ n : Nat, (List.replicate n true).all id = true
  | 0 => rfl
  | n + 1 => by rw [List.replicate_succ, List.all_cons, all_rep n]; rfl
end Pc
namespace Pc
open PySem PySem.Spec PyProof.Rows L2 RZ
section
variable {P : Program} {w : World} {K : PySem.W.Frag} {mg : Str → Option Value} {base : Heap}
/-! ### the same data twice -/
def spSame (K : PySem.W.Frag) (n : Nat) : Sp := fun vs H Q _ => ∃ (x y : V) (d : PyData), vs = [x, y] ∧ Dp K H x d ∧ Dp K H y d ∧ d.depth < n ∧ narrow d ∧ ∀ H', Same H H' → Q (.bl true) H'
theorem same_step (T : Env K mg) (n : Nat) (G : FnOk P w K mg base CX0 n T.f_same T.d_same ["_law_found", "_law_due"] (spSame K n)) : FnOk P w K mg base CX0 (n + 1) T.f_same T.d_same ["_law_found", "_law_due"] (spSame K (n + 1)) := by
  refine T.F_same.ok sc_same (fun vs H Q E h => ?_) (fun cdv A outer s H vs Q E hr h => ?_)
  · obtain ⟨x, y, d, rfl, _⟩ := h
    rfl
  · obtain ⟨x, y, d, rfl, hx, hy, hd, hw, q⟩ := h
    refine ⟨_, pss_cons (ps_if (pt_val (pe_callB call_isiT (by rfl) T.n_isinstance (by decide +kernel) (pa_cons (pv 1) (pa_cons (pe_tup (pa_cons (pe_bltn (v := .ty "list") (by rfl) T.n_list (by decide +kernel) rfl) (pa_cons (pe_bltn (v := .ty "tuple") (by rfl) T.n_tuple (by decide +kernel) rfl) pa_nil))) pa_nil))))
        (pss_cons (ps_if (PW.pt (pw_or (pt_cmpR op_ne (pe_callB call_isi (by rfl) T.n_isinstance (by decide +kernel) (pa_cons (pv 0) (pa_cons (pe_bltn (v := .ty "list") (by rfl) T.n_list (by decide +kernel) rfl) pa_nil))) (pe_callB call_isi (by rfl) T.n_isinstance (by decide +kernel) (pa_cons (pv 1) (pa_cons (pe_bltn (v := .ty "list") (by rfl) T.n_list (by decide +kernel) rfl) pa_nil))) (nomark _))
            (pw_or1 (pt_cmpR op_ne (pe_callB call_isi (by rfl) T.n_isinstance (by decide +kernel) (pa_cons (pv 0) (pa_cons (pe_bltn (v := .ty "tuple") (by rfl) T.n_tuple (by decide +kernel) rfl) pa_nil))) (pe_callB call_isi (by rfl) T.n_isinstance (by decide +kernel) (pa_cons (pv 1) (pa_cons (pe_bltn (v := .ty "tuple") (by rfl) T.n_tuple (by decide +kernel) rfl) pa_nil))) (nomark _)))))
          (pss_one (ps_ret pe_bl)) pss_nil)
        (pss_one (ps_ret (pe_and (pe_cmpR op_eq (pe_callB call_len_seq (by rfl) T.n_len PySem.boot_len (pa_cons (pv 0) pa_nil)) (pe_callB call_len_seq (by rfl) T.n_len PySem.boot_len (pa_cons (pv 1) pa_nil)) (nomark _))
          (pe_one (pe_callB (cr_all rfl) (by rfl) T.n_all (by decide +kernel) (pa_cons
            (pe_lc (own := [("_law_mine", 2), ("_law_its", 3)]) (g := gTup K 2 (gCons (gName 2) (gCons (gName 3) gNil))) (tt := tYes) (by rfl) sc_same.nd (pi_zipA (by rfl) T.n_zip (pa_cons (pv 0) (pa_cons (pv 1) pa_nil)))
              (blkOk_by (N := N_same) (sc := defScope s_same) (by decide +kernel))
              (fun _ _ _ _ _ => pg_tup (by rfl) (pgs_cons (pg_name (i := 2) sc_same.nd rfl (.inl rfl)) (pgs_cons (pg_name (i := 3) sc_same.nd rfl (.inl rfl)) pgs_nil)))
              (fun _ _ _ _ _ => pts_nil)
              (fun _ _ _ _ _ => pe_call G hr (by rfl) T.g_same T.F_same.kp T.b_same .nil pass0 (pa_cons (pv 2) (pa_cons (pv 3) pa_nil)))) pa_nil))))))) pss_nil)
      (pss_cons (ps_if (PW.pt (pw_or (pt_cmpR op_isN (pv 1) pe_non (nomark _)) (pw_or1 (pt_val (pe_callB call_isiT (by rfl) T.n_isinstance (by decide +kernel) (pa_cons (pv 1) (pa_cons (pe_tup (pa_cons (pe_bltn (v := .ty "bool") (by rfl) T.n_bool (by decide +kernel) rfl) (pa_cons (pe_bltn (v := .ty "str") (by rfl) T.n_str (by decide +kernel) rfl) pa_nil))) pa_nil)))))))
        (pss_one (ps_ret (pe_and (pe_cmpR op_eq (pv 0) (pv 1) (nomark _))
          (pe_and (pe_cmpR op_eq (pe_callB call_isi (by rfl) T.n_isinstance (by decide +kernel) (pa_cons (pv 0) (pa_cons (pe_bltn (v := .ty "bool") (by rfl) T.n_bool (by decide +kernel) rfl) pa_nil))) (pe_callB call_isi (by rfl) T.n_isinstance (by decide +kernel) (pa_cons (pv 1) (pa_cons (pe_bltn (v := .ty "bool") (by rfl) T.n_bool (by decide +kernel) rfl) pa_nil))) (nomark _))
          (pe_one (pe_cmpR op_eq (pe_cmpR op_isN (pv 0) pe_non (nomark _)) (pe_cmpR op_isN (pv 1) pe_non (nomark _)) (nomark _))))))) pss_nil)
      (pss_one (ps_ret (pe_and (pe_callB call_isi (by rfl) T.n_isinstance (by decide +kernel) (pa_cons (pv 0) (pa_cons (pe_bltn (v := .ty "int") (by rfl) T.n_int (by decide +kernel) rfl) pa_nil)))
        (pe_and (pe_not (pe_callB call_isi (by rfl) T.n_isinstance (by decide +kernel) (pa_cons (pv 0) (pa_cons (pe_bltn (v := .ty "bool") (by rfl) T.n_bool (by decide +kernel) rfl) pa_nil)))) (pe_one (pe_cmpR op_eq (pv 0) (pv 1) (nomark _)))))))), ?_⟩
    cases d with
    | dict _ => cases hx
    | int i =>
      cases hx; cases hy
      refine ⟨_, rfl, by show 2 ≤ sizeLine; decide, fun t nt => ⟨_, t, _, _, _, _, rfl, upd_same, cls2 _ _, .base (.int i), any_lt_int, _, rfl, iteF ?_⟩⟩
      refine ⟨_, rfl, rfl, _, rfl, iteF ⟨_, rfl, by show 2 ≤ sizeLine; decide, fun u nu => ⟨_, u, _, _, _, _, rfl, upd_same, cls2 _ _, .base (.int i), any_bs_int, _, rfl, iteF ?_⟩⟩⟩
      refine ⟨_, rfl, _, _, _, _, _, rfl, .ty _, .base (.int i), one_int_int, _, rfl, iteT ⟨_, rfl, _, _, _, _, _, rfl, .ty _, .base (.int i), one_int_bool, _, rfl, _, rfl, iteT ⟨_, rfl, _, rfl, rfl, ?_⟩⟩⟩
      rw [decide_eq_true rfl]
      exact q _ ((same_new nt).trans (same_new nu))
    | none =>
      cases hx; cases hy
      refine ⟨_, rfl, by show 2 ≤ sizeLine; decide, fun t nt => ⟨_, t, _, _, _, _, rfl, upd_same, cls2 _ _, .base .non, any_lt_none, _, rfl, iteF ?_⟩⟩
      refine ⟨_, rfl, rfl, _, rfl, iteT ?_⟩
      refine ⟨_, rfl, _, rfl, rfl, _, rfl, iteT ⟨_, rfl, _, _, _, _, _, rfl, .ty _, .base .non, one_none_bool, _, rfl, _, _, _, _, _, rfl, .ty _, .base .non, one_none_bool, rfl, _, rfl, iteT ⟨_, rfl, rfl, _, rfl, rfl, rfl, ?_⟩⟩⟩
      exact q _ (same_new nt)
    | bool b =>
      cases hx; cases hy
      refine ⟨_, rfl, by show 2 ≤ sizeLine; decide, fun t nt => ⟨_, t, _, _, _, _, rfl, upd_same, cls2 _ _, .base (.bl b), any_lt_bool, _, rfl, iteF ?_⟩⟩
      refine ⟨_, rfl, rfl, _, rfl, iteF ⟨_, rfl, by show 2 ≤ sizeLine; decide, fun u nu => ⟨_, u, _, _, _, _, rfl, upd_same, cls2 _ _, .base (.bl b), any_bs_bool, _, rfl, iteT ?_⟩⟩⟩
      refine ⟨_, rfl, _, rfl, rfl, _, rfl, ?_⟩
      rw [decide_eq_true rfl]
      refine iteT ⟨_, rfl, _, _, _, _, _, rfl, .ty _, .base (.bl b), one_bool_bool, _, rfl, _, _, _, _, _, rfl, .ty _, .base (.bl b), one_bool_bool, rfl, _, rfl, iteT ⟨_, rfl, rfl, _, rfl, rfl, rfl, ?_⟩⟩
      rw [decide_eq_true rfl]
      exact q _ ((same_new nt).trans (same_new nu))
    | str z =>
      cases hx; cases hy
      refine ⟨_, rfl, by show 2 ≤ sizeLine; decide, fun t nt => ⟨_, t, _, _, _, _, rfl, upd_same, cls2 _ _, .base (.str z), any_lt_str, _, rfl, iteF ?_⟩⟩
      refine ⟨_, rfl, rfl, _, rfl, iteF ⟨_, rfl, by show 2 ≤ sizeLine; decide, fun u nu => ⟨_, u, _, _, _, _, rfl, upd_same, cls2 _ _, .base (.str z), any_bs_str, _, rfl, iteT ?_⟩⟩⟩
      refine ⟨_, rfl, _, rfl, rfl, _, rfl, ?_⟩
      rw [decide_eq_true rfl]
      refine iteT ⟨_, rfl, _, _, _, _, _, rfl, .ty _, .base (.str z), one_str_bool, _, rfl, _, _, _, _, _, rfl, .ty _, .base (.str z), one_str_bool, rfl, _, rfl, iteT ⟨_, rfl, rfl, _, rfl, rfl, rfl, ?_⟩⟩
      rw [decide_eq_true rfl]
      exact q _ ((same_new nt).trans (same_new nu))
    | list ds =>
      cases hx with
      | lst hsx hax =>
      cases hy with
      | lst hsy hay =>
      rename_i a xs b ys
      have hlx := dpa_len hax
      have hly := dpa_len hay
      obtain ⟨hw1, hw2⟩ := hw
      refine ⟨_, rfl, by show 2 ≤ sizeLine; decide, fun t nt => ?_⟩
      have s1 : Same H (upd H t (.tup [.ty "list", .ty "tuple"])) := same_new nt
      have hsx1 := Same.seq s1 hsx
      have hsy1 := Same.seq s1 hsy
      refine ⟨_, t, _, _, _, _, rfl, upd_same, cls2 _ _, ty_lst hsy1, any_lt_list, _, rfl, iteT ?_⟩
      refine ⟨_, rfl, _, _, _, _, _, rfl, .ty _, ty_lst hsx1, one_list_list, _, rfl, _, _, _, _, _, rfl, .ty _, ty_lst hsy1, one_list_list, rfl, _, rfl, iteNS rfl ?_⟩
      refine ⟨_, rfl, _, _, _, _, _, rfl, .ty _, ty_lst hsx1, one_list_tuple, _, rfl, _, _, _, _, _, rfl, .ty _, ty_lst hsy1, one_list_tuple, rfl, _, rfl, iteNS rfl ?_⟩
      refine ⟨_, rfl, a, xs, rfl, .inl hsx1, _, rfl, b, ys, rfl, .inl hsy1, rfl, _, rfl, ?_⟩
      rw [decide_eq_true (show V.int (xs.length : Int) = V.int (ys.length : Int) by rw [hlx, hly])]
      refine iteT ⟨_, rfl, _, rfl, a, b, xs, ys, rfl, .inl ⟨hsx1, hsy1, fun D nD => ?_⟩⟩
      have nD0 : H D = none := s1.free nD
      refine lc_it (walk_zip (n := xs.length) (by omega)) (fun i H' => Same H H' ∧ H' D = some (.lst (List.replicate i (.bl true)))) ⟨s1.trans (same_new nD), upd_same⟩ (fun i H' _ h => ⟨Same.seq h.1 hsx, Same.seq h.1 hsy⟩) (fun i v H1 H2 hi h yy => ?_) (fun H' h => ?_)
      · obtain ⟨sm, eD⟩ := h
        obtain ⟨tp, u, v, rfl, nT, rfl, g1, g2⟩ := yy
        obtain ⟨d1, e1, f1⟩ := dpa_get hax g1
        obtain ⟨d2, e2, f2⟩ := dpa_get hay g2
        cases Option.some.inj (e1.symm.trans e2)
        have st : Same H (upd H1 tp (.tup [u, v])) := sm.trans (same_new nT)
        refine ⟨tp, _, rfl, .inl (.inl upd_same), rfl, _, _, rfl, _, _, rfl, rfl, rfl, yes_if ?_⟩
        refine ⟨_, rfl, _, rfl, u, v, d1, rfl, dp_same st f1, dp_same st f2, ?_, narrow_get hw2 e1, fun H3 s3 => ⟨_, s3 _ _ (same_new nT _ _ eD), ?_, ?_, ?_⟩⟩
        · have := depth_get e1
          have hd' : PyData.depthAll ds + 1 < n + 1 := hd
          omega
        · rw [List.length_replicate]
          exact line_big (by omega)
        · intro c o hc
          rw [upd_ne (ne_of_none hc nD0)]
          exact s3 _ _ (st _ _ hc)
        · rw [upd_same, List.replicate_succ']
      · obtain ⟨sm, eD⟩ := h
        refine ⟨D, List.replicate xs.length true, rfl, ?_, ?_⟩
        · rw [List.map_replicate]
          exact .inl (.inl eD)
        · rw [all_rep]
          exact q _ sm
    | tuple ds =>
      cases hx with
      | tup hsx hax =>
      cases hy with
      | tup hsy hay =>
      rename_i a xs b ys
      have hlx := dpa_len hax
      have hly := dpa_len hay
      obtain ⟨hw1, hw2⟩ := hw
      refine ⟨_, rfl, by show 2 ≤ sizeLine; decide, fun t nt => ?_⟩
      have s1 : Same H (upd H t (.tup [.ty "list", .ty "tuple"])) := same_new nt
      have hsx1 := same_tup s1 hsx
      have hsy1 := same_tup s1 hsy
      refine ⟨_, t, _, _, _, _, rfl, upd_same, cls2 _ _, ty_tup hsy1, any_lt_tuple, _, rfl, iteT ?_⟩
      refine ⟨_, rfl, _, _, _, _, _, rfl, .ty _, ty_tup hsx1, one_tuple_list, _, rfl, _, _, _, _, _, rfl, .ty _, ty_tup hsy1, one_tuple_list, rfl, _, rfl, iteNS rfl ?_⟩
      refine ⟨_, rfl, _, _, _, _, _, rfl, .ty _, ty_tup hsx1, one_tuple_tuple, _, rfl, _, _, _, _, _, rfl, .ty _, ty_tup hsy1, one_tuple_tuple, rfl, _, rfl, iteNS rfl ?_⟩
      refine ⟨_, rfl, a, xs, rfl, .inr hsx1, _, rfl, b, ys, rfl, .inr hsy1, rfl, _, rfl, ?_⟩
      rw [decide_eq_true (show V.int (xs.length : Int) = V.int (ys.length : Int) by rw [hlx, hly])]
      refine iteT ⟨_, rfl, _, rfl, a, b, xs, ys, rfl, .inr ⟨hsx1, hsy1, fun D nD => ?_⟩⟩
      have nD0 : H D = none := s1.free nD
      refine lc_it (walk_zipT (n := xs.length) (by omega)) (fun i H' => Same H H' ∧ H' D = some (.lst (List.replicate i (.bl true)))) ⟨s1.trans (same_new nD), upd_same⟩ (fun i H' _ h => ⟨same_tup h.1 hsx, same_tup h.1 hsy⟩) (fun i v H1 H2 hi h yy => ?_) (fun H' h => ?_)
      · obtain ⟨sm, eD⟩ := h
        obtain ⟨tp, u, v, rfl, nT, rfl, g1, g2⟩ := yy
        obtain ⟨d1, e1, f1⟩ := dpa_get hax g1
        obtain ⟨d2, e2, f2⟩ := dpa_get hay g2
        cases Option.some.inj (e1.symm.trans e2)
        have st : Same H (upd H1 tp (.tup [u, v])) := sm.trans (same_new nT)
        refine ⟨tp, _, rfl, .inl (.inl upd_same), rfl, _, _, rfl, _, _, rfl, rfl, rfl, yes_if ?_⟩
        refine ⟨_, rfl, _, rfl, u, v, d1, rfl, dp_same st f1, dp_same st f2, ?_, narrow_get hw2 e1, fun H3 s3 => ⟨_, s3 _ _ (same_new nT _ _ eD), ?_, ?_, ?_⟩⟩
        · have := depth_get e1
          have hd' : PyData.depthAll ds + 1 < n + 1 := hd
          omega
        · rw [List.length_replicate]
          exact line_big (by omega)
        · intro c o hc
          rw [upd_ne (ne_of_none hc nD0)]
          exact s3 _ _ (st _ _ hc)
        · rw [upd_same, List.replicate_succ']
      · obtain ⟨sm, eD⟩ := h
        refine ⟨D, List.replicate xs.length true, rfl, ?_, ?_⟩
        · rw [List.map_replicate]
          exact .inl (.inl eD)
        · rw [all_rep]
          exact q _ sm
theorem ok_same (T : Env K mg) : ∀ n : Nat, FnOk P w K mg base CX0 n T.f_same T.d_same ["_law_found", "_law_due"] (spSame K n)
  | 0 => fn_never fun vs H Q E h => by
    obtain ⟨x, y, d, _, _, _, hd, _⟩ := h
    exact absurd hd (Nat.not_lt_zero _)
  | n + 1 => same_step T n (ok_same T n)
end
end Pc
namespace Pc
open PySem PySem.Spec PyProof.Rows L2 RZ
/-! ### enumerate of a tuple -/
theorem draws_tuple {prog : Program} {w : World} {A : Around} (hh : A.handled = none) (it l : Addr) (hne : l ≠ it) (items : Array Value) :
    Draws prog w A it [it, l] items.size (fun i v => items[i]? = some v) (fun i h => h.IsTupleIter it l i ∧ h.IsTuple l items) where
  live i h st := by
    obtain ⟨⟨o, ho, _⟩, _⟩ := st
    exact ⟨o, ho⟩
  frame i h h' st hk := ⟨Heap.IsTupleIter.at st.1 (hk it (by simp)), Heap.IsTuple.at st.2 (hk l (by simp))⟩
  item i s Q E hi st hQ := by
    have hx : items[i]? = some items[i] := by simp [hi]
    exact nextOf_tuple_item st.1 st.2 hx fun h' hit' hs' => hQ _ h' s.toks hx ⟨hit', st.2.extBut hs'.extBut hne⟩ hs'
  done s Q E st hE := nextOf_tuple_end hh st.1 st.2 (by simp) hE
set_option maxHeartbeats 4000000 in
theorem enum_newT (l : Addr) (items : Array Value) (n : Nat) (dct : Option Addr) (sl : Array (Option Value)) :
    Meets (Builtin.«enumerate.__new__» ⟨[.type "enumerate", .ref l], []⟩) (fun _ R s =>
      s.heap.get? l = some { cls := .type "tuple", dict := dct, data := .seq items n, slots := sl } ∧
      R (.ok (.ret (.ref (s.heap.push { cls := .type "tuple_iterator", data := .fields #[.ref l, .int 0 0] }).objs.size)))
        { s with heap := Heap.push (s.heap.push { cls := .type "tuple_iterator", data := .fields #[.ref l, .int 0 0] }) { cls := .type "enumerate", data := .fields #[.none, .bool false, .ref s.heap.objs.size, rawInt 0, .none, .none] } }) := by
  refine .of_wp fun prog w A R s h => ?_
  obtain ⟨hp, g, d, tk, os⟩ := s
  obtain ⟨hl, h⟩ := h
  have subE := sub_enumerate
  have isT : Heap.IsTuple (Shared.heap ⟨hp, g, d, tk, os⟩) l items := ⟨_, hl, rfl, n, rfl⟩
  wp_walk using AutoSeq1.wpAny_loadPart' hl
  refine wpAny_stack_any fun st => wpAny_pure ?_
  split
  · rename_i c _ _ _ _ _
    cases (c == Value.type "enumerate") <;> (wp_walk using AutoSeq1.wpAny_loadPart' hl, wpAny_pyIter_tuple isT; exact ⟨_, rfl, h⟩)
  · wp_walk using AutoSeq1.wpAny_loadPart' hl, wpAny_pyIter_tuple isT
    exact ⟨_, rfl, h⟩
theorem call_enumT {prog : Program} {w : World} {A : Around} {E : Value → Shared → Prop} {s : Shared} {l : Addr} {items : Array Value} {Q : Value → Shared → Prop} (hL : s.heap.IsTuple l items)
    (h : ∀ h', IsEnum h' (s.heap.objs.size + 1) s.heap.objs.size 0 .none → h'.IsTupleIter s.heap.objs.size l 0 →
      (∀ b o, s.heap.get? b = some o → h'.get? b = some o) → Q (.ref (s.heap.objs.size + 1)) { s with heap := h' }) :
    wpAny (model prog w) A (call (.type "enumerate") [.ref l]) Q E s := by
  obtain ⟨⟨c, dct, dt, sl⟩, hl, hc, n, hd⟩ := hL
  have hc' : c = .type "tuple" := hc
  have hd' : dt = .seq items n := hd
  subst hc' hd'
  refine callType_new F.called_enumerate (by decide) (F.typeCall_enumerate_1 _) (F.newCall_enumerate_1 _) (fun obj => F.args_object_init_2 obj _) F.entry_enumerate_new (enum_newT l items n dct sl) ⟨hl, ?_⟩
  have hz : (s.heap.push { cls := .type "tuple_iterator", data := .fields #[.ref l, .int 0 0] }).objs.size = s.heap.objs.size + 1 := Heap.size_push ..
  have he := Heap.get?_push_size (s.heap.push { cls := .type "tuple_iterator", data := .fields #[.ref l, .int 0 0] })
    (o := { cls := .type "enumerate", data := .fields #[.none, .bool false, .ref s.heap.objs.size, rawInt 0, .none, .none] }) rfl
  rw [hz] at he
  show _ ∧ _
  rw [hz]
  exact ⟨⟨_, he, rfl⟩, h _ he ⟨{ cls := .type "tuple_iterator", data := .fields #[.ref l, .int 0 0] }, Heap.get?_push_of_some _ (Heap.get?_push_size _ rfl), rfl, rfl⟩ fun b o x => Heap.get?_push_of_some _ (Heap.get?_push_of_some _ x)⟩
/-- the tuple at a, its items in new pairs with their places -/
def IteT (K : PySem.W.Frag) (a : Addr) : It where
  go i H := ∃ (xs : List V) (x : V), SqT K H a xs ∧ xs[i]? = some x
  yld i H v H' := ∃ T x, v = .ref T ∧ H T = none ∧ H' = upd H T (.tup [.int (i : Nat), x]) ∧ ∀ xs, SqT K H a xs → xs[i]? = some x
  stop i H := ∃ xs : List V, SqT K H a xs ∧ xs.length ≤ i
theorem turn_enumT {P : Program} {w : World} {K : PySem.W.Frag} {elts : List Expr} {kk : Nat} {tpos : Pos} (a e it : Addr) (hei : e ≠ it) (hae : a ≠ e) (hai : a ≠ it) :
    Turn P w K (.Tuple elts kk tpos) (IteT K a) [e, it] e (fun i h => (∃ old, IsEnum h e it ((i : Nat) : Int) old) ∧ h.IsTupleIter it a i) where
  mem := by simp
  obj i h st b hb := by
    obtain ⟨⟨old, he⟩, ⟨o, ho, hc, hd⟩⟩ := st
    rcases (show b = e ∨ b = it by simpa using hb) with z | z
    · rw [z]; exact ⟨_, he, fun v q => nomatch q⟩
    · rw [z]; exact ⟨o, ho, fun v q => by rw [hd] at q; cases q⟩
  keep i h h' st k := by
    obtain ⟨⟨old, he⟩, hi⟩ := st
    exact ⟨⟨old, k e (by simp) _ he⟩, hi.at fun o q => k it (by simp) o q⟩
  item := by
    intro X hP hw hK hc i pins s σ H E I hf st hg
    subst hP hw hK
    obtain ⟨⟨old, he⟩, hit⟩ := st
    obtain ⟨xs, x, hq, hx⟩ := hg
    obtain ⟨its, rv, p, hz⟩ := I.tuple hq
    have p2 : s.heap.IsTuple a its.toArray := p
    obtain ⟨u, hu, ru⟩ := rv.get hx
    have hlt : i < its.toArray.size := by
      rw [List.size_toArray]
      exact get_lt hu
    have D := draws_tuple (prog := X.prog) (w := X.w) (A := X.A.in1) (show X.A.in1.handled = none from I.ok.hd hc) it a hai its.toArray
    have hel : e < s.heap.objs.size := Heap.lt_size he
    have hil : it < s.heap.objs.size := by obtain ⟨_, q, _⟩ := hit; exact Heap.lt_size q
    refine wpAny_pyNext_enum_itemD D he ⟨hit, p2⟩ hlt hei (by simp [hei, hae.symm]) fun y h' tk hy ho hst hT hsz hk => ?_
    have ey : y = u := by
      have : its.toArray[i]? = some y := hy
      rw [List.getElem?_toArray, hu] at this
      exact (Option.some.inj this).symm
    subst ey
    refine ⟨_, rfl, wpAny_letOwnedTupleGo_enum (s := { s with heap := h', toks := tk + 1 }) ho fun h'' he' sb => ?_⟩
    have hT2 : h''.get? s.heap.objs.size = some { cls := .type "tuple", data := .seq #[.int i tk, y] } := (sb.2 _ (Nat.ne_of_gt hel)).trans hT
    have new : ObjOk X.prog X.w (upd H s.heap.objs.size (.tup [.int (i : Nat), x])) h'' s.heap.objs.size (.tup [.int (i : Nat), x]) :=
      ⟨by show 2 ≤ sizeLine; decide, [.int i tk, y], .cons ⟨_, rfl⟩ (.cons ru .nil), ⟨_, hT2, rfl, _, rfl⟩⟩
    have I1 := I.turnedNew (t' := tk + 1) (h' := h'') (ch := [e, it]) (fun b ob hb q => (sb.2 b (fun z => hb (by simp [z]))).trans (hk b ob (fun z => hb (by simp [z])) (fun z => hb (by simp [z])) q)) hf (Nat.le_refl _) new
    refine ⟨.ref s.heap.objs.size, _, I1, rfl, ⟨_, x, rfl, I.hok.fresh (Nat.le_refl _), rfl, fun ys hy => by rw [I.tuple_inj hy hq]; exact hx⟩, ⟨⟨y, ?_⟩, hst.1.at fun o q => (sb.2 it hei.symm).trans q⟩, fun b hb => ?_⟩
    · rw [show ((i + 1 : Nat) : Int) = (i : Int) + 1 by omega]; exact he'
    · have hb' : b < s.heap.objs.size := by
        rcases (show b = e ∨ b = it by simpa using hb) with z | z
        · rw [z]; exact hel
        · rw [z]; exact hil
      rw [upd_ne (Nat.ne_of_lt hb')]
      exact (hf b hb).1
  done := by
    intro X hP hw hK hc i pins s σ H E I hf st hg
    subst hP hw hK
    obtain ⟨⟨old, he⟩, hit⟩ := st
    obtain ⟨xs, hq, hx⟩ := hg
    obtain ⟨its, rv, p, hz⟩ := I.tuple hq
    have p2 : s.heap.IsTuple a its.toArray := p
    obtain ⟨f0, f1, f2, f3, f4, f5⟩ := hf it (by simp)
    have hl := rv.length
    have hT : s.TypeIs (.ref e) "enumerate" := ⟨_, he, rfl⟩
    unfold pyNext
    refine wpAny_bind (wpAny_attempt (wpAny_callSpecial?_slot (name := Str.ofString "__next__") hT F.slot_enumerate_next (wpAny_call_entry F.slot_enumerate_next hT F.entry_enumerate_next ?_ (F.args_enumerate_next_1 _))))
    show wpAny _ _ (field (.ref e) 2 >>= _) _ _ _
    refine wpAny_bind (wpAny_field he rfl (x := .ref it) rfl ?_)
    refine wpAny_bind (nextOf_tuple_end (show X.A.in1.handled = none from I.ok.hd hc) hit p2 (by simp; omega) fun h' x he' hx' => ?_)
    obtain ⟨o, ho, hcl⟩ := hx'
    refine wpAny_bind (wpAny_isInstance (T := "StopIteration") (b := true) ⟨o, ho, hcl⟩ isSubtype_stop ?_)
    exact wpAny_pure ⟨rfl, I.turned (t' := s.toks) (fun b o hb q => he' b o hb q) f0 f1 f3 f4 f5⟩
  self A i s Q E st h := by
    obtain ⟨⟨_, he⟩, _⟩ := st
    exact wpAny_pyIter_enum he h
/-- enumerate of a list or a tuple -/
def iEnumA (K : PySem.W.Frag) (ta : TA) : TI := fun σ H R => ta σ H fun vs H1 => ∃ a xs, vs = [.ref a] ∧ ((SqL K H1 a xs ∧ R (Ite K a) H1) ∨ (SqT K H1 a xs ∧ R (IteT K a) H1))
theorem pi_enumA {X : Cx} {e : Expr} {ta : TA} {p pos tpos : Pos} {elts : List Expr} {kk : Nat} (hg : Gl X "enumerate") (hm : X.mg "enumerate" = none) (ha : PA X [e] ta) (hs : starEach [e] X.env = [(false, eval e X.env)] := by rfl) :
    PI X (.Tuple elts kk tpos) (.Call (.Name "enumerate" p) [e] [] pos) (iEnumA X.K ta) := by
  constructor
  intro pins s σ H R I h
  refine Call_ (ld_blt I hg hm boot_enumerate (callWith_type1 (thn (ha.run pos pins s σ H _ I h) fun us s1 r => ?_) hs rfl))
  obtain ⟨vs, H1, I1, r1, a, xs, ex, q1⟩ := r
  subst ex
  cases r1 with
  | cons r rr =>
    cases rr
    cases r
    have fr : ∀ b, b ∈ [s1.heap.objs.size + 1, s1.heap.objs.size] → FpOk X pins H1 b := fun b hb => by
      have hle : s1.heap.objs.size ≤ b := by
        rcases (show b = s1.heap.objs.size + 1 ∨ b = s1.heap.objs.size by simpa using hb) with z | z <;> omega
      exact I1.fpOk hle (I1.hok.fresh hle)
    rcases q1 with ⟨hq, q⟩ | ⟨hq, q⟩
    · obtain ⟨its, rv, p', hz⟩ := I1.list hq
      refine call_enumerate_list p'.isList fun h' he hit _ hk => wpAny_pyIter_enum he ?_
      exact ⟨_, _, _, _, H1, rfl, I1.kept (t' := s1.toks) hk, turn_enum a (s1.heap.objs.size + 1) s1.heap.objs.size, ⟨⟨.none, he⟩, hit, Nat.succ_ne_self _⟩, fr, q⟩
    · obtain ⟨its, rv, p', hz⟩ := I1.tuple hq
      have p2 : s1.heap.IsTuple a its.toArray := p'
      have hlt : a < s1.heap.objs.size := by obtain ⟨o, ho, _⟩ := p2; exact Heap.lt_size ho
      refine call_enumT p2 fun h' he hit hk => wpAny_pyIter_enum he ?_
      exact ⟨_, _, _, _, H1, rfl, I1.kept (t' := s1.toks) hk, turn_enumT a (s1.heap.objs.size + 1) s1.heap.objs.size (Nat.succ_ne_self _) (Nat.ne_of_lt (Nat.lt_succ_of_lt hlt)) (Nat.ne_of_lt hlt), ⟨⟨.none, he⟩, hit⟩, fr, q⟩
theorem walk_enumT {K : PySem.W.Frag} {a : Addr} {xs : List V} : Walk (IteT K a) xs.length (fun H => SqT K H a xs) (YPair (fun i => some (.int (i : Nat))) (fun i => xs[i]?)) where
  goes i H hi q := by
    obtain ⟨x, hx⟩ := get_some hi
    exact ⟨xs, x, q, hx⟩
  stops H q := ⟨xs, q, Nat.le_refl _⟩
  yields i H v H' hi q y := by
    obtain ⟨T, x, h1, h2, h3, h4⟩ := y
    exact ⟨T, .int (i : Nat), x, h1, h2, h3, rfl, h4 xs q⟩
end Pc
namespace Pc
open PySem PySem.Spec PyProof.Rows L2 RZ
/-! ### t[::-1] of a pair -/
section
variable {prog : Program} {w : World} {A : Around} {E : Value → Shared → Prop} {s : Shared}
theorem applied_rev2 {sl : Addr} {vk : Value} {Q : Int × Int × Nat → Shared → Prop} (hs : s.heap.IsSliceOf sl .none .none vk) (pk : IsPart vk (some (-1))) (h : Q (1, -1, 2) s) :
    wpAny (model prog w) A (Builtin.Slice.sliceApplied (.ref sl) (pure (2 : Int))) Q E s := by
  obtain ⟨os, hos, hcs, hds⟩ := id hs
  unfold Builtin.Slice.sliceApplied Builtin.Slice.sliceFields
  refine wpAny_bind (wpAny_bind (wpAny_field hos hds (x := .none) rfl ?_))
  refine wpAny_bind (wpAny_field hos hds (x := .none) rfl ?_)
  refine wpAny_bind (wpAny_field hos hds (x := vk) rfl (wpAny_pure ?_))
  refine wpAny_bind (HT.slicePart_ pk ?_)
  show wpAny _ _ (if ((-1 : Int) == 0) = true then _ else _) _ _ s
  rw [if_neg (by decide)]
  refine wpAny_bind (HT.slicePart_ .none (wpAny_bind (HT.slicePart_ .none (wpAny_bind (wpAny_pure ?_)))))
  exact wpAny_pure h
theorem item_rev2 {t sl : Addr} {u v vk : Value} {Q : Value → Shared → Prop} (ht : IsTup s.heap t #[u, v]) (hs : s.heap.IsSliceOf sl .none .none vk) (pk : IsPart vk (some (-1)))
    (h : Q (.ref s.heap.objs.size) { s with heap := s.heap.push { cls := .type "tuple", data := .seq #[v, u] } }) : wpAny (model prog w) A (getItem (.ref t) (.ref sl)) Q E s := by
  obtain ⟨os, hos, hcs, hds⟩ := id hs
  have hTs : s.TypeIs (.ref sl) "slice" := ⟨os, hos, hcs⟩
  unfold getItem
  try with_reducible refine wpAny_holding ?_
  first | refine wpAny_bind (wpAny_pure ?_) | skip
  refine wpAny_bind (wpAny_sequenceKey ht.typeIs (by decide) ?_)
  refine wpAny_bind (wpAny_callSpecial?_slot (name := Str.ofString "__getitem__") ht.typeIs PyProof.Rows.slot_tuple_getitem (wpAny_call_entry PyProof.Rows.slot_tuple_getitem ht.typeIs entry_tuple_getitem ?_ (args_tuple_getitem _ _)))
  show wpAny _ _ (Builtin.Tuple.tupleItemsOf (.ref t) >>= _) _ _ s
  refine wpAny_bind (tupleItemsOf_ ht ?_)
  refine wpAny_bind (wpAny_typeOf hTs ?_)
  rw [if_pos (by decide)]
  refine wpAny_bind (applied_rev2 hs pk ?_)
  show wpAny _ _ (if ((1 : Int) == 0 && (-1 : Int) == 1 && (2 : Nat) == 2) = true then _ else _) _ _ s
  rw [if_neg (by decide)]
  have e : ((List.range 2).filterMap fun (k : Nat) => (#[u, v] : Array Value)[((1 : Int) + (k : Int) * -1).toNat]?).toArray = #[v, u] := rfl
  rw [e]
  have hz : sizeOk (.seq (#[v, u] : Array Value)) := by show 2 ≤ sizeLine; decide
  first
    | exact wpAny_bind (m := Builtin.Tuple.tupleExact _) (wpAny_newObj_type (wpAny_pure ⟨_, rfl, wpAny_pure h⟩) hz)
    | exact wpAny_bind (wpAny_bind (m := Builtin.Tuple.tupleExact _) (wpAny_newObj_type (wpAny_pure (wpAny_pure ⟨_, rfl, wpAny_pure h⟩)) hz))
    | exact wpAny_bind (wpAny_bind (m := Builtin.Tuple.tupleExact _) (wpAny_newObj_type (wpAny_pure ⟨_, rfl, wpAny_pure h⟩) hz))
    | exact wpAny_bind (m := Builtin.Tuple.tupleExact _) (wpAny_newObj_type (wpAny_bind (wpAny_pure (wpAny_pure ⟨_, rfl, wpAny_pure h⟩))) hz)
end
def tRev2 (K : PySem.W.Frag) (te : TE) : TE := fun σ H Q => te σ H fun x H1 => ∃ a y z, x = .ref a ∧ SqT K H1 a [y, z] ∧ ∀ p, H1 p = none → Q (.ref p) (upd H1 p (.tup [z, y]))
theorem pe_rev2 {X : Cx} {e : Expr} {te : TE} {k : Nat} {p1 p2 p3 pos : Pos} (he : PE X e te) : PE X (.Subscript e (.Slice none none (some (.UnaryOp .USub (.Constant (.int 1) k p1) p2)) p3) pos) (tRev2 X.K te) := by
  constructor
  intro pins s σ H Q I h
  refine Subscript_ (thn (he.run pins s σ H _ I h) fun v s1 r => ?_)
  obtain ⟨x, H1, I1, r1, a, y, z, ex, hx, q⟩ := r
  subst ex
  cases r1
  have hst : PO X (some (.UnaryOp .USub (.Constant (.int 1) k p1) p2)) (tPart (tUn (rU fun i => .int (-i)) (tC (.int 1)))) := po_some (pe_un un_neg pe_int)
  refine wpAny_Slice (thn (po_none.run pins s1 σ H1 (fun o H2 => o = none ∧ H2 = H1) I1 ⟨rfl, rfl⟩) fun vl s2 ⟨l, H2, I2, pl, el, e2⟩ => ?_)
  subst el e2
  refine thn (po_none.run pins s2 σ H2 (fun o H3 => o = none ∧ H3 = H2) I2 ⟨rfl, rfl⟩) fun vu s3 ⟨u, H3, I3, pu, eu, e3⟩ => ?_
  subst eu e3
  refine thn (hst.run pins s3 σ H3 (fun o H4 => o = some (-1) ∧ H4 = H3) I3 ⟨1, rfl, -1, rfl, rfl, rfl⟩) fun vs s4 ⟨o, H4, I4, ps, eo, e4⟩ => ?_
  subst eo e4
  cases pl
  cases pu
  have I5 : Inv X pins σ H4 { s4 with heap := s4.heap.push { cls := .type "slice", data := .fields #[.none, .none, vs] } } := I4.kept (t' := s4.toks) fun b ob q => Heap.get?_push_of_some _ q
  obtain ⟨its, r, ht, hz⟩ := I5.tuple hx
  obtain ⟨w1, w2, ei, r1, r2⟩ := vals2 r
  subst ei
  show wpAny (model X.prog X.w) X.A (subscriptTail e (.Slice none none (some (.UnaryOp .USub (.Constant (.int 1) k p1) p2)) p3) (.ref a) (.ref s4.heap.objs.size)) (EP X pins σ Q) X.xe _
  refine tail_any (ops := [.ref a, .ref s4.heap.objs.size]) ht.typeIs PyProof.Rows.slot_tuple_getitem.lookup ?_ (by with_unfolding_all rfl)
  refine item_rev2 ht (Heap.IsSliceOf.new _ .none .none vs) ps ?_
  refine ⟨.ref _, _, I5.laid (t' := s4.toks) (o := .tup [z, y]) (fun b ob q => Heap.get?_push_of_some _ q) (Nat.le_refl _) ?_, rfl, q _ (I5.hok.fresh (Nat.le_refl _))⟩
  exact ⟨by show 2 ≤ sizeLine; decide, [w2, w1], .cons r2 (.cons r1 .nil), IsTup.new _ _⟩
end Pc
namespace Pc
open PySem PySem.Spec PyProof.Rows L2 RZ
/-! ### defs that run where no repr is under way (repr asks for that) -/
structure FnG (P : Program) (w : World) (K : PySem.W.Frag) (mg : Str → Option Value) (base : Heap) (CX : CXT) (k : Nat) (f : Addr) (fd : FuncData) (ps : List Str) (sp : Sp) : Prop where
  len : ∀ vs H Q E, sp vs H Q E → vs.length = ps.length
  run : ∀ (A : Around) (outer : List PySem.Env) (s : Shared) (H : Hp) (args : Args) (us : List Value) (vs : List V) (Q : VK) (E : XK), Room k A → A.guards = some [] → Env0 P w K mg base A outer s H →
    BindsTo s fd args (ps.zip us) → Vals vs us → sp vs H Q E → codeAny (model P w) A (.call (.ref f) args) (CR CX outer P w H s Q E) s
section
variable {P : Program} {w : World} {K : PySem.W.Frag} {mg : Str → Option Value} {base : Heap}
theorem fun_g {x qual : Str} {st : Stmt} {f : Addr} {fd : FuncData} {N ps : List Str} {k : Nat} {sp : Sp} (F : Fun K x qual st f fd) (S : FnScope N ps (defScope st)) (len : ∀ vs H Q E, sp vs H Q E → vs.length = ps.length)
    (hbody : ∀ (cdv : Value) (A : Around) (outer : List PySem.Env) (s : Shared) (H : Hp) (vs : List V) (Q : VK) (E : XK), Room k (A.deeper (envOfC qual (defScope st) s.heap.objs.size f cdv)) → A.guards = some [] → sp vs H Q E →
      ∃ t, PSs (cxOf CX0 P w K mg base N qual (defScope st) f cdv A outer s H E).nox (defBody st) t ∧ t { nx := fun _ H' => Q .non H', rt := Q } (start N vs) H) : FnG P w K mg base CX0 (k + 1) f fd ps sp := by
  obtain ⟨oc, od, kV, doc, pm, an, cdv, ct, osl, rfl, lk, hcd⟩ := F.ex
  constructor
  · exact len
  intro A outer s H args us vs Q E hr hgd e0 hb r hsp
  have hl := len _ _ _ _ hsp
  have up : ∀ b o, base.get? b = some o → s.heap.get? b = some o := fun b o e => (e0.bs b o e).1
  have KX : K.In s.heap := e0.mod.kin.keeps up
  have lim : s.heap.NoLimit := e0.mod.nolimit.keeps up
  obtain ⟨t, ht, hq⟩ := hbody cdv A outer s H vs Q E (hr.deeper _) hgd hsp
  refine codeAny_call_function hr.depth (KX _ _ lk) rfl S.co S.gen rfl (PySem.W.codeRec_of KX hcd) (hb _ _ _ _ ?_)
  refine wpAny_newFunctionEnv_cells S.kind ?_ ?_
  · rintro ⟨n, v⟩ hy
    rcases S.par n (List.of_mem_zip hy).1 with z | z
    · exact Or.inl z
    · exact Or.inr ⟨z, PySem.W.cellsFrom_some _ _ _ (Or.inl z)⟩
  intro env he s1 x
  subst he
  refine ⟨lim.keeps x.toInCall.keep, codeAny_func ?_⟩
  have I := inv_start (CX := CX0) (E := E) S hr.hd e0 hl r x
  refine wpAny_mono (ht.nox.run [] s1 (start N vs) H _ I hq) ?_ (fun _ _ z => z)
  intro fl s' hs
  cases fl with
  | brk => obtain ⟨_, _, _, z⟩ := hs; exact z.elim
  | cont => obtain ⟨_, _, _, z⟩ := hs; exact z.elim
  | next =>
    obtain ⟨σ', H', J, z⟩ := hs
    exact ⟨V.non, H', J.os, J.bare, J.base, J.hok, rfl, z⟩
  | ret u =>
    obtain ⟨v, σ', H', J, rv, z⟩ := hs
    exact ⟨v, H', J.os, J.bare, J.base, J.hok, rv, z⟩
end
section
variable {X : Cx} {CX : CXT} {k : Nat} {f : Addr} {fd : FuncData} {ps : List Str} {sp : Sp} {x : Str} {e : Expr} {es : List Expr} {ds : List Value} {dvs : List V} {E : XK} {t : TA} {p pos : Pos}
theorem pe_callG (F : FnG X.prog X.w X.K X.mg X.base CX k f fd ps sp) (hr : Room k X.A) (hgd : X.A.guards = some []) (hg : Gl X x) (hm : X.mg x = some (.ref f)) (hk : PySem.W.keepIn X.K (.ref f) = true) (hb : Binds X.K fd ps ds) (hd : Vals dvs ds) (hx : Passes CX X E)
    (ha : PA X (e :: es) t) (hdb : (x == ("__debug__" : Str)) = false := by decide) (he : starEach (e :: es) X.env = (false, eval e X.env) :: starEach es X.env := by rfl) (hpl : (backTo pos (starEach es X.env)).any (·.1) = false := by rfl) :
    PE X (.Call (.Name x p) (e :: es) [] pos) (tCall sp dvs E t) := by
  constructor
  intro pins s σ H Q I h
  refine wpAny_Call_Name_kw (ld_glob I hg hm ?_ hdb)
  refine PySem.W.callWith_K (h₀ := X.base) I.ok.mod.kin hk (thn (ha.run pos pins s σ H _ I h) ?_) he hpl
  rintro us s1 ⟨vs, H1, I1, r, q⟩
  refine ⟨I1.kIn, ?_⟩
  have r2 : Vals (vs ++ dvs) (us ++ ds) := r.append hd
  have hl : (us ++ ds).length = ps.length := by
    rw [← r2.length]
    exact F.len _ _ _ _ q
  refine wpAny_call (codeAny_mono (F.run X.A X.stack s1 H1 ⟨us, []⟩ (us ++ ds) (vs ++ dvs) Q E hr hgd I1.env0 (hb s1 us I1.kIn hl) r2 q) ?_)
  intro res s' hq
  cases res with
  | error e => exact hx pins σ H1 s1 e s' I1 hq
  | ok fl =>
    cases fl with
    | ret u => exact I1.after hq
    | next => exact hq.elim
    | brk => exact hq.elim
    | cont => exact hq.elim
end
/-! ### the law's own call, where no repr is under way -/
theorem law_g {P : Program} {w : World} {K : PySem.W.Frag} {mg mb : Str → Option Value} {CX : CXT} {k : Nat} {fa a : Addr} {fd : FuncData} {x : Str} {sp : Sp} {s₁ : Shared} {vs : List Value} {ns : List Int}
    (KX : K.In s₁.heap) (hns : s₁.heap.Ns mainGlobals mg) (hb : s₁.heap.Ns builtinsNs mb) (hbb : ∀ x : Str, x ≠ "__name__" → mb x = bootBuiltins x) (hlim : s₁.heap.NoLimit) (hg : s₁.gens = #[])
    (ha : s₁.heap.get? a = some { cls := .type "list", data := .seq vs.toArray }) (hi : IntsAre vs ns) (hl : ns.length ≤ sizeLine) (hr : Room k callerA)
    (F : ∀ base : Heap, K.In base → base.Ns mainGlobals mg → FnG P w K mg base CX k fa fd [x] sp) (hbind : ∀ (s : Shared) (u : Value), BindsTo s fd ⟨[u], []⟩ [(x, u)])
    (hsp : ∀ H : Hp, SqL K H a (ns.map V.int) → sp [.ref a] H (fun v _ => v = .bl true) fun _ _ _ => False)
    (hCX : ∀ H e s', CX [] H s₁ (fun _ _ _ => False) e s' → False) :
    codeAny (model P w) callerA (.call (.ref fa) ⟨[.ref a], []⟩) (fun r s' => r = .ok (.ret (.bool true)) ∧ OldK s₁.heap s'.heap ∧ s'.os = s₁.os ∧ AllBare s'.gens) s₁ := by
  have rv := vals_ints hi
  have len0 := hi.length
  let lo : Obj := { cls := .type "list", data := .seq vs.toArray }
  have main : ∀ H : Hp, SqL K H a (ns.map V.int) → HOk P w H s₁.heap → (∀ b u, H b = some u → b = a ∧ u = .frz lo (.lst (ns.map V.int)) ∧ K.lookup a = none) →
      codeAny (model P w) callerA (.call (.ref fa) ⟨[.ref a], []⟩) (fun r s' => r = .ok (.ret (.bool true)) ∧ OldK s₁.heap s'.heap ∧ s'.os = s₁.os ∧ AllBare s'.gens) s₁ := by
    intro H hS hok hA
    have free : ∀ {b : Addr} {o : Obj}, s₁.heap.get? b = some o → (∀ n, o.data ≠ .seq vs.toArray n) → H b = none := by
      intro b o e d
      cases z : H b with
      | none => rfl
      | some u =>
        obtain ⟨rfl, _⟩ := hA b u z
        rw [ha] at e
        cases e
        exact absurd rfl (d _)
    have nsK : ∀ {b : Addr} {m : Str → Option Value}, s₁.heap.Ns b m → (hidT s₁.heap H).Ns b m := by
      rintro b m ⟨o, es, ep, e, d, r⟩
      exact ⟨o, es, ep, hidT_get e (free e fun n => by rw [d]; exact fun z => nomatch z), d, r⟩
    have hKb : K.In (hidT s₁.heap H) := by
      intro b o e
      refine hidT_get (KX b o e) ?_
      cases z : H b with
      | none => rfl
      | some u =>
        obtain ⟨rfl, _, hn⟩ := hA b u z
        rw [hn] at e
        cases e
    obtain ⟨mc, l1, l2⟩ := hlim
    have e0 : Env0 P w K mg (hidT s₁.heap H) callerA [] s₁ H :=
      { frames := rfl, mod := ⟨hKb, nsK hns, ⟨mb, nsK hb, hbb⟩, ⟨mc, nsK l1, l2⟩⟩, bs := fun b o e => of_hidT e, bsz := Nat.le_of_eq (hidT_size _ _), funs := trivial, frf := fun b hb => absurd (show b ∈ ([] : List Addr) from hb) (by simp), hok := hok, bare := .of_eq hg }
    have R := (F _ hKb (nsK hns)).run callerA [] s₁ H ⟨[.ref a], []⟩ [.ref a] [.ref a] _ _ hr rfl e0 (hbind s₁ (.ref a)) (.cons rfl .nil) (hsp H hS)
    refine codeAny_mono R ?_
    intro res s' h
    cases res with
    | error e => exact (hCX H e s' h).elim
    | ok fl =>
      cases fl with
      | next => exact h.elim
      | brk => exact h.elim
      | cont => exact h.elim
      | ret u =>
        obtain ⟨v, H', os, bare, un, hok', r', q⟩ := h
        have q' : v = .bl true := q
        subst q'
        obtain rfl : u = Value.bool true := r'
        refine ⟨rfl, OldK.of_keep ?_, os, bare⟩
        intro b o e
        cases z : H b with
        | none => exact un.keep b o e z (fun y => absurd (show b ∈ ([] : List Addr) from y) (by simp)) (by simp)
        | some u =>
          obtain ⟨rfl, rfl, _⟩ := hA b u z
          obtain ⟨g1, _⟩ := hok _ _ z
          obtain ⟨g2, _⟩ := hok' _ _ (un.frzs _ lo _ z)
          rw [e] at g1
          cases g1
          exact g2
  cases hk : K.lookup a with
  | some o =>
    have e := KX a o hk
    rw [ha] at e
    cases e
    refine main (fun _ => none) ?_ (fun b u z => nomatch z) (fun b u z => nomatch z)
    exact Or.inr ⟨_, vs.toArray, _, hk, rfl, rfl, rfl, by rw [List.size_toArray, len0]; exact hl, by simpa using rv⟩
  | none =>
    have sp1 : ∀ b u, (upd (fun _ => none) a (.frz lo (.lst (ns.map V.int)))) b = some u → b = a ∧ u = .frz lo (.lst (ns.map V.int)) ∧ K.lookup a = none := by
      intro b u z
      by_cases hba : b = a
      · subst hba
        rw [upd_same] at z
        exact ⟨rfl, (Option.some.inj z).symm, hk⟩
      · rw [upd_ne hba] at z
        cases z
    refine main (upd (fun _ => none) a (.frz lo (.lst (ns.map V.int)))) (Or.inl (Or.inr ⟨lo, upd_same⟩)) ?_ sp1
    intro b u z
    obtain ⟨rfl, rfl, _⟩ := sp1 b u z
    exact ⟨ha, by rw [List.length_map]; exact hl, vs, _, rv, ha⟩
theorem walk_g {l : PySem.W.OpenLaw} {n k : Nat} {q : Program} {loose : List Str} {XP : (Str → Option Value) → Heap → Prop} {YP : World → Heap → Prop} {d : DefRec} {K : Params → PySem.W.Frag} {sp : World → Sp} {x : Str}
    (hn : l.most = some n) (hn2 : n ≤ sizeLine) (hdf : d.params.defaults = []) (hr : Room k callerA) (hY : ∀ (w : World) (h : Heap), YP w h → (K w.params).In h)
    (F : ∀ (w : World) (mg : Str → Option Value) (fa : Addr) (h : Heap), (K w.params).In h → h.Ns mainGlobals mg → mg d.name = some (.ref fa) →
      ∃ fd : FuncData, (∀ (s : Shared) (u : Value), BindsTo s fd ⟨[u], []⟩ [(x, u)]) ∧ ∀ base : Heap, (K w.params).In base → base.Ns mainGlobals mg → FnG l.prog w (K w.params) mg base CX0 k fa fd [x] (sp w))
    (hsp : ∀ (w : World) (H : Hp) (a : Addr) (ns : List Int), ns.length ≤ n → SqL (K w.params) H a (ns.map V.int) → sp w [.ref a] H (fun v _ => v = .bl true) fun _ _ _ => False) :
    PySem.W.WalkO q loose XP YP l.row.toRowW d [] (fun f vs => PySem.call f vs) := by
  refine Att.attach_call hn hdf ?_
  intro w s₀ s₁ mg mb fa o pm cd doc a vs ns G Y ho hd hcd hmg hobj hints hlen hg
  obtain ⟨fd, hb, hF⟩ := F w mg fa _ (hY w _ Y) G.T.g hmg
  exact law_g (hY w _ Y) G.T.g G.T.b G.T.builtins G.T.nolimit hg hobj hints (Nat.le_trans hlen hn2) hr hF hb (fun H hS => hsp w H a ns hlen hS) fun _ _ _ z => z
/-! ### repr of data -/
theorem call_reprD {X : Cx} (hgd : X.A.guards = some []) (hu : X.A.units + 64 < cLine) : CallR X (.builtin "repr") (fun xs H Q => ∃ (a : Addr) (d : PyData), xs = [.ref a] ∧ Dp X.K H (.ref a) d ∧ d.canLay0 = true ∧ d.showable = true ∧ d.depth ≤ 60 ∧ d.shown.length ≤ sizeLine ∧ Q (.str d.shown) H) := by
  intro pins s σ H xs us Q I r h
  obtain ⟨a, d, rfl, hd, hl, hs, hdp, hz, q⟩ := h
  obtain ⟨u, rfl, ru⟩ := vals1 r
  cases ru
  obtain ⟨as, rd⟩ := Dp.reads I d (.ref a) (.ref a) hd rfl
  refine repr_of_reads' rd hs (PyData.noDict_hsm (PyData.hasDict_of_canLay d hl)) hgd (by omega) (fun _ _ e => e) ?_ hz
  intro h' u tk hk
  exact ⟨.str d.shown, H, I.kept (t' := tk) hk, ⟨u, rfl⟩, q⟩
end Pc
namespace Pc
open PySem PySem.Spec PyProof.Rows L2 RZ
/-! ### data of small size: its depth is at most k, its text has at most m signs -/
structure Fine (k m : Nat) (d : PyData) : Prop where
  lay : d.canLay0 = true
  show_ : d.showable = true
  depth : d.depth ≤ k
  nar : narrow d
  len : d.shown.length ≤ m
theorem Fine.mono {k m k' m' : Nat} {d : PyData} (h : Fine k m d) (hk : k ≤ k') (hm : m ≤ m') : Fine k' m' d := ⟨h.lay, h.show_, Nat.le_trans h.depth hk, h.nar, Nat.le_trans h.len hm⟩
theorem Fine.shaped {k m : Nat} {d : PyData} (h : Fine k m d) (hk : k ≤ 64) : SeqAt.shaped d = true := by
  unfold SeqAt.shaped
  rw [Bool.and_eq_true]
  exact ⟨h.lay, decide_eq_true (Nat.le_trans h.depth hk)⟩
theorem str_len (t : String) : (Str.ofString t).length = t.length := by
  rw [Str.ofString_eq_toList]
  show (t.toList.map Char.toNat).toArray.size = t.length
  rw [List.size_toArray, List.length_map, String.length_toList]
theorem log_lt {i : Int} {k : Nat} (h : i.natAbs < 2 ^ k) (hk : 0 < k) : i.natAbs.log2 < k := by
  by_cases h0 : i.natAbs = 0
  · rw [h0]; exact hk
  · exact (Nat.log2_lt h0).mpr h
theorem fine_int {i : Int} (h : i.natAbs < 2 ^ 60) : Fine 0 61 (.int i) := by
  have hl := log_lt h (by decide)
  refine ⟨rfl, decide_eq_true (Nat.lt_of_lt_of_le hl (by decide)), Nat.le_refl _, trivial, ?_⟩
  show (Str.ofString (toString i)).length ≤ 61
  rw [str_len]
  exact int_text_length_le (by decide) hl
theorem fine_nat {i : Nat} (h : i < 2 ^ 60) : Fine 0 61 (.int (i : Int)) := fine_int (by rw [Int.natAbs_natCast]; exact h)
theorem all_lay {ds : List PyData} (h : ∀ d ∈ ds, d.canLay0 = true) : PyData.canLayAll0 ds = true := by
  induction ds with
  | nil => rfl
  | cons d r ih =>
    show (d.canLay0 && PyData.canLayAll0 r) = true
    rw [h d List.mem_cons_self, ih fun x hx => h x (List.mem_cons_of_mem _ hx)]; rfl
theorem all_showable {ds : List PyData} (h : ∀ d ∈ ds, d.showable = true) : PyData.showableAll ds = true := by
  induction ds with
  | nil => rfl
  | cons d r ih =>
    show (d.showable && PyData.showableAll r) = true
    rw [h d List.mem_cons_self, ih fun x hx => h x (List.mem_cons_of_mem _ hx)]; rfl
theorem all_depth {ds : List PyData} {k : Nat} (h : ∀ d ∈ ds, d.depth ≤ k) : PyData.depthAll ds ≤ k := by
  induction ds with
  | nil => exact Nat.zero_le _
  | cons d r ih => exact Nat.max_le.mpr ⟨h d List.mem_cons_self, ih fun x hx => h x (List.mem_cons_of_mem _ hx)⟩
theorem all_shown {ds : List PyData} {m : Nat} (h : ∀ d ∈ ds, d.shown.length ≤ m) : ((PyData.shownAll ds).map (·.length)).sum ≤ ds.length * m ∧ (PyData.shownAll ds).length = ds.length := by
  induction ds with
  | nil => exact ⟨Nat.zero_le _, rfl⟩
  | cons d r ih =>
    obtain ⟨h1, h2⟩ := ih fun x hx => h x (List.mem_cons_of_mem _ hx)
    have h3 := h d List.mem_cons_self
    refine ⟨?_, congrArg (· + 1) h2⟩
    show ((d.shown :: PyData.shownAll r).map (·.length)).sum ≤ (r.length + 1) * m
    rw [List.map_cons, List.sum_cons, Nat.add_mul, Nat.one_mul]
    omega
theorem fine_list {ds : List PyData} {k m n : Nat} (h : ∀ d ∈ ds, Fine k m d) (hn : ds.length ≤ n) (hb : n ≤ 100000) : Fine (k + 1) (n * (m + 2) + 3) (.list ds) := by
  refine ⟨all_lay fun d hd => (h d hd).lay, all_showable fun d hd => (h d hd).show_, Nat.succ_le_succ (all_depth fun d hd => (h d hd).depth), ⟨Nat.le_trans hn hb, narrow_of fun d hd => (h d hd).nar⟩, ?_⟩
  obtain ⟨h1, h2⟩ := all_shown fun d hd => (h d hd).len
  have h3 := listText_len_le (PyData.shownAll ds)
  have h4 : ds.length * m ≤ n * m := Nat.mul_le_mul_right _ hn
  show (listText (PyData.shownAll ds)).length ≤ _
  rw [Nat.mul_add]
  omega
theorem fine_tuple {ds : List PyData} {k m n : Nat} (h : ∀ d ∈ ds, Fine k m d) (hn : ds.length ≤ n) (hb : n ≤ 100000) : Fine (k + 1) (n * (m + 2) + 3) (.tuple ds) := by
  refine ⟨all_lay fun d hd => (h d hd).lay, all_showable fun d hd => (h d hd).show_, Nat.succ_le_succ (all_depth fun d hd => (h d hd).depth), ⟨Nat.le_trans hn hb, narrow_of fun d hd => (h d hd).nar⟩, ?_⟩
  obtain ⟨h1, h2⟩ := all_shown fun d hd => (h d hd).len
  have h3 := tupleText_len_le (PyData.shownAll ds)
  have h4 : ds.length * m ≤ n * m := Nat.mul_le_mul_right _ hn
  show (tupleText (PyData.shownAll ds)).length ≤ _
  rw [Nat.mul_add]
  omega
/-- numbers as data -/
def nd (l : List Nat) : List PyData := l.map fun (i : Nat) => PyData.int (i : Int)
theorem nd_length (l : List Nat) : (nd l).length = l.length := List.length_map _
theorem dp_nats {K : PySem.W.Frag} {H : Hp} : ∀ l : List Nat, DpAll K H (nv l) (nd l)
  | [] => .nil
  | i :: r => .cons (.int i) (dp_nats r)
theorem fine_nd {l : List Nat} (h : ∀ i ∈ l, i < 2 ^ 60) : ∀ d ∈ nd l, Fine 0 61 d := fun d hd => by
  obtain ⟨i, hi, rfl⟩ := List.mem_map.mp hd
  exact fine_nat (h i hi)
/-- a tuple of numbers -/
theorem fine_tup {l : List Nat} {n : Nat} (h : ∀ i ∈ l, i < 2 ^ 60) (hn : l.length ≤ n) (hb : n ≤ 100000) : Fine 1 (n * 63 + 3) (.tuple (nd l)) := fine_tuple (fine_nd h) (by rw [nd_length]; exact hn) hb
/-! ### lists of pairs of numbers -/
/-- at the places as stand the pairs ps -/
def Prs (H : Hp) (as : List Addr) (ps : List (Nat × Nat)) : Prop := Paired (fun a (p : Nat × Nat) => H a = some (.tup [.int p.1, .int p.2])) as ps
theorem Prs.length {H : Hp} {as : List Addr} {ps : List (Nat × Nat)} (h : Prs H as ps) : as.length = ps.length := Paired.length h
theorem prs_same {H H' : Hp} (e : Same H H') : ∀ {as : List Addr} {ps : List (Nat × Nat)}, Prs H as ps → Prs H' as ps
  | _, _, .nil => .nil
  | _, _, .cons h r => .cons (e _ _ h) (prs_same e r)
theorem prs_keep {b : Addr} {H H' : Hp} {ys : List V} (k : Keep b H H') (hb : H b = some (.lst ys)) : ∀ {as : List Addr} {ps : List (Nat × Nat)}, Prs H as ps → Prs H' as ps
  | _, _, .nil => .nil
  | _, _, .cons h r => .cons (k.tup hb h) (prs_keep k hb r)
theorem prs_get {H : Hp} : ∀ {as : List Addr} {ps : List (Nat × Nat)} {i : Nat} {a : Addr}, Prs H as ps → as[i]? = some a → ∃ p, ps[i]? = some p ∧ H a = some (.tup [.int p.1, .int p.2])
  | _, _, _, _, .nil, h => by simp at h
  | _, _, 0, _, .cons (b := p) h _, e => by
    cases Option.some.inj e
    exact ⟨p, rfl, h⟩
  | _, _, i + 1, a, .cons _ r, e => prs_get (i := i) r e
theorem prs_append {H : Hp} : ∀ {as bs : List Addr} {ps qs : List (Nat × Nat)}, Prs H as ps → Prs H bs qs → Prs H (as ++ bs) (ps ++ qs)
  | _, _, _, _, .nil, s => s
  | _, _, _, _, .cons h r, s => .cons h (prs_append r s)
def pd (p : Nat × Nat) : PyData := .tuple [.int (p.1 : Int), .int (p.2 : Int)]
theorem prs_dp {K : PySem.W.Frag} {H : Hp} : ∀ {as : List Addr} {ps : List (Nat × Nat)}, Prs H as ps → DpAll K H (as.map V.ref) (ps.map pd)
  | _, _, .nil => .nil
  | _, _, .cons h r => .cons (.tup (.inl (.inl h)) (.cons (.int _) (.cons (.int _) .nil))) (prs_dp r)
theorem fine_pd {p : Nat × Nat} (h1 : p.1 < 2 ^ 60) (h2 : p.2 < 2 ^ 60) : Fine 1 129 (pd p) := fine_tuple (n := 2) (fun d hd => by
  rcases List.mem_cons.mp hd with z | z
  · rw [z]; exact fine_nat h1
  · rw [List.mem_singleton.mp z]; exact fine_nat h2) (Nat.le_refl _) (by decide)
/-- a list of pairs -/
theorem fine_pds {ps : List (Nat × Nat)} {n : Nat} (h : ∀ p ∈ ps, p.1 < 2 ^ 60 ∧ p.2 < 2 ^ 60) (hn : ps.length ≤ n) (hb : n ≤ 100000) : Fine 2 (n * 131 + 3) (.list (ps.map pd)) :=
  fine_list (fun d hd => by
    obtain ⟨p, hp, rfl⟩ := List.mem_map.mp hd
    exact fine_pd (h p hp).1 (h p hp).2) (by rw [List.length_map]; exact hn) hb
end Pc
namespace Pc
open PySem PySem.Spec PyProof.Rows L2 RZ
/-! ### a list or a tuple: walked, unpacked -/
/-- a list or a tuple is read -/
def Sq (K : PySem.W.Frag) (H : Hp) (a : Addr) (xs : List V) : Prop := SqL K H a xs ∨ SqT K H a xs
theorem Sq.same {K : PySem.W.Frag} {H H' : Hp} {a : Addr} {xs : List V} (h : Sq K H a xs) (e : Same H H') : Sq K H' a xs := h.imp (fun z => e.seq z) (fun z => same_tup e z)
def iSeq (K : PySem.W.Frag) (tl : TE) : TI := fun σ H R => tl σ H fun x H1 => ∃ a, x = .ref a ∧ (((∃ xs, SqL K H1 a xs) ∧ R (Itl K a) H1) ∨ ((∃ xs, SqT K H1 a xs) ∧ R (Itt K a) H1))
section
variable {X : Cx}
theorem pi_seq {tg l : Expr} {tl : TE} (hl : PE X l tl) : PI X tg l (iSeq X.K tl) := by
  constructor
  intro pins s σ H R I h
  refine thn (hl.run pins s σ H _ I h) ?_
  rintro v s1 ⟨x, H1, I1, r1, a, ex, q⟩
  subst ex
  cases r1
  rcases q with ⟨⟨xs, hx⟩, q⟩ | ⟨⟨xs, hx⟩, q⟩
  · obtain ⟨its, _, p, _⟩ := I1.list hx
    refine wpAny_pyIter_list p.isList ?_
    exact pi_one (tk := s1.toks) I1 _ (turn_list _ _) ⟨_, Heap.get?_push_size _ rfl, rfl, rfl⟩ q
  · obtain ⟨its, _, p, _⟩ := I1.tuple hx
    refine wpAny_pyIter_tuple p ?_
    exact pi_one (tk := s1.toks) I1 _ (turn_tuple _ _) ⟨_, Heap.get?_push_size _ rfl, rfl, rfl⟩ q
/-- names unpacked from a tuple or a list -/
def gSeq (K : PySem.W.Frag) (n : Nat) (t : TGs) : TG := fun v σ H Q => ∃ a xs, v = .ref a ∧ Sq K H a xs ∧ xs.length = n ∧ t xs σ H Q
theorem pg_seq {es : List Expr} {k : Nat} {t : TGs} {n : Nat} {pos : Pos} (hc : X.calm = true) (h : PGs X es t)
    (hn : (assignEach es X.env).length = n := by rfl) (hst : (assignEach es X.env).findIdx? (·.1) = none := by rfl) : PG X (.Tuple es k pos) (gSeq X.K n t) := by
  constructor
  intro pins s σ H v u Q I r hw
  obtain ⟨a, xs, e, hq, hl, hw⟩ := hw
  rcases hq with hq | hq
  · exact (pg_unl (pos := pos) (k := k) hc h hn hst).run pins s σ H v u Q I r ⟨a, xs, e, hq, hl, hw⟩
  · exact (pg_tup (pos := pos) (k := k) hc h hn hst).run pins s σ H v u Q I r ⟨a, xs, e, hq, hl, hw⟩
/-! ### a call with keywords alone -/
def tKw (n : Nat) (sp : Sp) (gV : List V → List V) (E : XK) (tk : TA) : TE := fun σ H Q => tk σ H fun zs H1 => zs.length = n ∧ sp (gV zs) H1 Q E
theorem pe_kw {CX : CXT} {k : Nat} {f : Addr} {fd : FuncData} {ps ks : List Str} {sp : Sp} {E : XK} {x : Str} {p pos : Pos} {kws : List Keyword} {tk : TA} {g : List Value → List Value} {gV : List V → List V}
    (F : FnOk X.prog X.w X.K X.mg X.base CX k f fd ps sp) (hr : Room k X.A) (hg : Gl X x) (hm : X.mg x = some (.ref f)) (hk : PySem.W.keepIn X.K (.ref f) = true)
    (hb : ∀ (s : Shared) (ws : List Value), ws.length = ks.length → BindsTo s fd ⟨[], ks.zip ws⟩ (ps.zip (g ws))) (rel : ∀ {zs : List V} {ws : List Value}, zs.length = ks.length → Vals zs ws → Vals (gV zs) (g ws)) (hx : Passes CX X E) (hkw : PK X kws tk)
    (hall : (backToKw pos (keywordEach kws X.env)).all (·.1.isSome) = true := by rfl) (hks : (backToKw pos (keywordEach kws X.env)).filterMap (·.1) = ks := by rfl) (hdb : (x == ("__debug__" : Str)) = false := by decide)
    (hpl : ((backTo pos (starEach [] X.env)).any (·.1) || (backToKw pos (keywordEach kws X.env)).any (·.1.isNone)) = false := by rfl) :
    PE X (.Call (.Name x p) [] kws pos) (tKw ks.length sp gV E tk) := by
  constructor
  intro pins s σ H Q I h
  refine wpAny_Call_Name_kw (ld_glob I hg hm ?_ hdb)
  refine PySem.W.callWith_KW0 (h₀ := X.base) I.ok.mod.kin hk hall (thn (hkw.run pos pins s σ H _ I h) ?_) hpl
  rintro ws s2 ⟨zs, H2, I2, rz, hz, q⟩
  refine ⟨I2.kIn, ?_⟩
  rw [hks]
  refine wpAny_call (codeAny_mono (F.run X.A X.stack s2 H2 ⟨[], ks.zip ws⟩ (g ws) (gV zs) Q E hr I2.env0 (hb s2 ws (by rw [← rz.length, hz])) (rel hz rz) q) ?_)
  intro res s' hq
  cases res with
  | error e => exact hx pins σ H2 s2 e s' I2 hq
  | ok fl =>
    cases fl with
    | ret u => exact I2.after hq
    | next => exact hq.elim
    | brk => exact hq.elim
    | cont => exact hq.elim
end
theorem kw_to {K : PySem.W.Frag} {x qual : Str} {st : Stmt} {f : Addr} {fd : FuncData} {ps ks : List Str} {g : List Value → List Value} (F : Fun K x qual st f fd)
    (h : ∀ (kV doc pm : Value) (an : Option Addr) (cdv ct : Value) (ws : List Value), ws.length = ks.length → bindArgs (PySem.W.fnOf x qual (defArgs st) (defBody st) (defScope st) .none kV doc pm an cdv ct) ⟨[], ks.zip ws⟩ = pure (ps.zip (g ws))) :
    ∀ (s : Shared) (ws : List Value), ws.length = ks.length → BindsTo s fd ⟨[], ks.zip ws⟩ (ps.zip (g ws)) := by
  obtain ⟨oc, od, kV, doc, pm, an, cdv, ct, osl, rfl, lk, hcd⟩ := F.ex
  intro s ws hl
  exact .of_eq (h kV doc pm an cdv ct ws hl)
end Pc
namespace Pc
open PySem PySem.Spec PyProof.Rows L2 RZ
/-! ### the couples of a pairing -/
/-- the couples whose first person is below i -/
def cplN (ps : List Nat) (i : Nat) : List (Nat × Nat) := ((List.range i).filter fun x => decide (x < ps.getD x 0)).map fun x => (x, ps.getD x 0)
def cpl (ps : List Nat) : List (Nat × Nat) := cplN ps ps.length
theorem getD_of {ps : List Nat} {x y : Nat} (h : ps[x]? = some y) : ps.getD x 0 = y := by
  rw [List.getD_eq_getElem?_getD, h]; rfl
theorem cplN_yes {ps : List Nat} {i y : Nat} (h : ps[i]? = some y) (hl : i < y) : cplN ps (i + 1) = cplN ps i ++ [(i, y)] := by
  unfold cplN
  rw [List.range_succ, List.filter_append, List.map_append]
  congr 1
  rw [List.filter_cons_of_pos (by rw [getD_of h]; exact decide_eq_true hl), List.filter_nil, List.map_cons, List.map_nil, getD_of h]
theorem cplN_no {ps : List Nat} {i y : Nat} (h : ps[i]? = some y) (hl : ¬ i < y) : cplN ps (i + 1) = cplN ps i := by
  unfold cplN
  rw [List.range_succ, List.filter_append, List.map_append, List.filter_cons_of_neg (by rw [getD_of h]; simpa using hl), List.filter_nil, List.map_nil, List.append_nil]
theorem cplN_len (ps : List Nat) (i : Nat) : (cplN ps i).length ≤ i := by
  unfold cplN
  rw [List.length_map]
  exact Nat.le_trans (List.length_filter_le _ _) (by rw [List.length_range]; exact Nat.le_refl _)
theorem mem_cpl {n : Nat} {ps : List Nat} (h : IsPair n ps) {p : Nat × Nat} : p ∈ cpl ps ↔ ps[p.1]? = some p.2 ∧ p.1 < p.2 := by
  unfold cpl cplN
  rw [h.len]
  constructor
  · intro hp
    obtain ⟨x, hx, rfl⟩ := List.mem_map.mp hp
    obtain ⟨h1, h2⟩ := List.mem_filter.mp hx
    obtain ⟨y, e, _⟩ := h.par x (List.mem_range.mp h1)
    rw [getD_of e] at h2 ⊢
    exact ⟨e, of_decide_eq_true h2⟩
  · rintro ⟨e, hl⟩
    refine List.mem_map.mpr ⟨p.1, List.mem_filter.mpr ⟨List.mem_range.mpr ?_, ?_⟩, ?_⟩
    · rw [← h.len]; exact get_lt e
    · rw [getD_of e]; exact decide_eq_true hl
    · rw [getD_of e]
theorem IsPair.back {n : Nat} {ps : List Nat} (h : IsPair n ps) {x y : Nat} (e : ps[x]? = some y) : ps[y]? = some x ∧ y < n ∧ x < n ∧ y ≠ x := by
  have hx : x < n := by rw [← h.len]; exact get_lt e
  obtain ⟨z, e1, e2, e3, e4⟩ := h.par x hx
  cases Option.some.inj (e.symm.trans e1)
  exact ⟨e4, e2, hx, e3⟩
theorem cpl_cover {n : Nat} {ps : List Nat} (h : IsPair n ps) {z : Nat} (hz : z < n) : ∃ p ∈ cpl ps, p.1 = z ∨ p.2 = z := by
  obtain ⟨y, e1, e2, e3, e4⟩ := h.par z hz
  rcases Nat.lt_or_gt_of_ne e3 with l | l
  · exact ⟨(y, z), (mem_cpl h).mpr ⟨e4, l⟩, .inr rfl⟩
  · exact ⟨(z, y), (mem_cpl h).mpr ⟨e1, l⟩, .inl rfl⟩
theorem filter_split {α : Type} (f : α → Bool) : ∀ l : List α, (l.filter f).length + (l.filter fun x => !f x).length = l.length
  | [] => rfl
  | a :: r => by
    have ih := filter_split f r
    cases e : f a with
    | true => rw [List.filter_cons_of_pos e, List.filter_cons_of_neg (by rw [e]; decide), List.length_cons, List.length_cons]; omega
    | false => rw [List.filter_cons_of_neg (by rw [e]; decide), List.filter_cons_of_pos (by rw [e]; rfl), List.length_cons, List.length_cons]; omega
theorem cpl_half {n : Nat} {ps : List Nat} (h : IsPair n ps) : 2 * (cpl ps).length = n := by
  have e1 : (cpl ps).length = ((List.range n).filter fun x => decide (x < ps.getD x 0)).length := by
    unfold cpl cplN; rw [List.length_map, h.len]
  have inj : ∀ x y, x < n → y < n → ps.getD x 0 = ps.getD y 0 → x = y := fun x y hx hy e => by
    obtain ⟨u, a1, _, _, a4⟩ := h.par x hx
    obtain ⟨v, b1, _, _, b4⟩ := h.par y hy
    rw [getD_of a1, getD_of b1] at e
    subst e
    exact Option.some.inj (a4.symm.trans b4)
  have nd0 : (List.range n).Nodup := List.nodup_range
  have p1 : (((List.range n).filter fun x => decide (x < ps.getD x 0)).map fun x => ps.getD x 0).Perm ((List.range n).filter fun x => !decide (x < ps.getD x 0)) := by
    refine (List.perm_ext_iff_of_nodup ?_ (nd0.filter _)).mpr fun z => ?_
    · refine List.Pairwise.map _ (fun a b hab => hab) ?_
      refine List.Pairwise.imp_of_mem (fun {a b} ha hb hab => ?_) (nd0.filter fun x => decide (x < ps.getD x 0))
      exact fun e => hab (inj a b (List.mem_range.mp (List.mem_filter.mp ha).1) (List.mem_range.mp (List.mem_filter.mp hb).1) e)
    · constructor
      · intro hz
        obtain ⟨x, hx, rfl⟩ := List.mem_map.mp hz
        obtain ⟨h1, h2⟩ := List.mem_filter.mp hx
        obtain ⟨y, a1, a2, a3, a4⟩ := h.par x (List.mem_range.mp h1)
        rw [getD_of a1] at h2 ⊢
        have h3 := of_decide_eq_true h2
        refine List.mem_filter.mpr ⟨List.mem_range.mpr a2, ?_⟩
        rw [getD_of a4, decide_eq_false (by omega)]; rfl
      · intro hz
        obtain ⟨h1, h2⟩ := List.mem_filter.mp hz
        obtain ⟨y, a1, a2, a3, a4⟩ := h.par z (List.mem_range.mp h1)
        rw [getD_of a1] at h2
        have h3 : ¬ z < y := by simpa using h2
        refine List.mem_map.mpr ⟨y, List.mem_filter.mpr ⟨List.mem_range.mpr a2, ?_⟩, getD_of a4⟩
        rw [getD_of a4]
        exact decide_eq_true (by omega)
  have e2 := p1.length_eq
  rw [List.length_map] at e2
  have e3 := filter_split (fun x => decide (x < ps.getD x 0)) (List.range n)
  rw [List.length_range] at e3
  omega
/-- what pairs must be so that they make the pairing ps -/
structure Makes (qs : List (Nat × Nat)) (ps : List Nat) : Prop where
  half : 2 * qs.length = ps.length
  ok : ∀ p ∈ qs, ps[p.1]? = some p.2 ∧ ps[p.2]? = some p.1
  all : ∀ z, z < ps.length → ∃ p ∈ qs, p.1 = z ∨ p.2 = z
theorem makes_cpl {n : Nat} {ps : List Nat} (h : IsPair n ps) : Makes (cpl ps) ps where
  half := by rw [cpl_half h, h.len]
  ok p hp := by
    obtain ⟨e, _⟩ := (mem_cpl h).mp hp
    exact ⟨e, (h.back e).1⟩
  all z hz := cpl_cover h (by rw [← h.len]; exact hz)
/-- the pairs of qs in any order, turned or not -/
theorem Makes.turned {qs rs : List (Nat × Nat)} {ps : List Nat} (h : Makes qs ps) (hl : rs.length = qs.length) (h1 : ∀ p ∈ rs, p ∈ qs ∨ (p.2, p.1) ∈ qs) (h2 : ∀ p ∈ qs, p ∈ rs ∨ (p.2, p.1) ∈ rs) : Makes rs ps where
  half := by rw [hl]; exact h.half
  ok p hp := by
    rcases h1 p hp with z | z
    · exact h.ok p z
    · obtain ⟨a, b⟩ := h.ok _ z
      exact ⟨b, a⟩
  all z hz := by
    obtain ⟨p, hp, e⟩ := h.all z hz
    rcases h2 p hp with q | q
    · exact ⟨p, q, e⟩
    · exact ⟨_, q, e.symm⟩
def CInv (ps : List Nat) (qs : List (Nat × Nat)) (fs : List Nat) (i : Nat) : Prop := fs.length = ps.length ∧ ∀ j, j < i → ∀ p, qs[j]? = some p → fs[p.1]? = ps[p.1]? ∧ fs[p.2]? = ps[p.2]?
theorem set_keeps {ps fs : List Nat} {x y z : Nat} (hy : ps[x]? = some y) (hx : x < fs.length) (h : fs[z]? = ps[z]?) : (fs.set x y)[z]? = ps[z]? := by
  by_cases e : x = z
  · subst e
    rw [List.getElem?_set_self hx, hy]
  · rw [List.getElem?_set_ne e]; exact h
theorem CInv.step {ps fs : List Nat} {qs : List (Nat × Nat)} {i : Nat} {p : Nat × Nat} (m : Makes qs ps) (h : CInv ps qs fs i) (hp : qs[i]? = some p) : CInv ps qs ((fs.set p.1 p.2).set p.2 p.1) (i + 1) := by
  obtain ⟨hl, hj⟩ := h
  obtain ⟨o1, o2⟩ := m.ok p (List.mem_of_getElem? hp)
  have l1 : p.1 < fs.length := by rw [hl]; exact get_lt o1
  have l2 : p.2 < (fs.set p.1 p.2).length := by rw [List.length_set, hl]; exact get_lt o2
  refine ⟨by rw [List.length_set, List.length_set, hl], fun j hj2 r hr => ?_⟩
  by_cases e : j = i
  · subst e
    cases Option.some.inj (hp.symm.trans hr)
    refine ⟨set_keeps o2 l2 ?_, ?_⟩
    · rw [List.getElem?_set_self l1, o1]
    · rw [List.getElem?_set_self l2, o2]
  · obtain ⟨a, b⟩ := hj j (by omega) r hr
    exact ⟨set_keeps o2 l2 (set_keeps o1 l1 a), set_keeps o2 l2 (set_keeps o1 l1 b)⟩
theorem CInv.done {ps fs : List Nat} {qs : List (Nat × Nat)} (m : Makes qs ps) (h : CInv ps qs fs qs.length) : fs = ps := by
  refine List.ext_getElem? fun z => ?_
  by_cases hz : z < ps.length
  · obtain ⟨p, hp, e⟩ := m.all z hz
    obtain ⟨i, hi, ei⟩ := List.mem_iff_getElem.mp hp
    obtain ⟨a, b⟩ := h.2 i hi p (by rw [List.getElem?_eq_getElem hi, ei])
    rcases e with e | e
    · rw [← e]; exact a
    · rw [← e]; exact b
  · rw [List.getElem?_eq_none (by rw [h.1]; omega), List.getElem?_eq_none (by omega)]
end Pc
namespace Pc
open PySem PySem.Spec PyProof.Rows L2 RZ
section
variable {K : PySem.W.Frag}
/-- the values us are the pairs qs, each a tuple or a list -/
def Items (K : PySem.W.Frag) (H : Hp) (us : List V) (qs : List (Nat × Nat)) : Prop := us.length = qs.length ∧ ∀ (i : Nat) (v : V), us[i]? = some v → ∃ (c : Addr) (p : Nat × Nat), v = .ref c ∧ qs[i]? = some p ∧ Sq K H c [.int p.1, .int p.2]
theorem Items.same {H H' : Hp} {us : List V} {qs : List (Nat × Nat)} (h : Items K H us qs) (e : Same H H') : Items K H' us qs := ⟨h.1, fun i v hv => by
  obtain ⟨c, p, h1, h2, h3⟩ := h.2 i v hv
  exact ⟨c, p, h1, h2, h3.same e⟩⟩
theorem items_of {H : Hp} {as : List Addr} {qs : List (Nat × Nat)} (h : Prs H as qs) : Items K H (as.map V.ref) qs := ⟨by rw [List.length_map]; exact h.length, fun i v hv => by
  rw [List.getElem?_map] at hv
  cases e : as[i]? with
  | none => rw [e] at hv; cases hv
  | some c =>
    rw [e] at hv
    obtain ⟨p, h1, h2⟩ := prs_get h e
    exact ⟨c, p, (Option.some.inj hv).symm, h1, .inr (.inl (.inl h2))⟩⟩
end
end Pc
namespace Pc
open PySem PySem.Spec PyProof.Rows L2 RZ
theorem paired_perm {α β : Type} {R : α → β → Prop} {as bs : List α} (h : as.Perm bs) : ∀ ps : List β, Paired R as ps → ∃ qs : List β, qs.Perm ps ∧ Paired R bs qs := by
  induction h with
  | nil => exact fun ps h => ⟨ps, List.Perm.refl _, h⟩
  | cons x _ ih =>
    intro ps h
    cases h with
    | cons r t =>
      obtain ⟨qs, h1, h2⟩ := ih _ t
      exact ⟨_ :: qs, h1.cons _, .cons r h2⟩
  | swap x y l =>
    intro ps h
    cases h with
    | cons r t =>
      cases t with
      | cons r2 t2 => exact ⟨_, List.Perm.swap _ _ _, .cons r2 (.cons r t2)⟩
  | trans _ _ ih1 ih2 =>
    intro ps h
    obtain ⟨qs, h1, h2⟩ := ih1 ps h
    obtain ⟨rs, h3, h4⟩ := ih2 qs h2
    exact ⟨rs, h3.trans h1, h4⟩
/-- the same pairs, some turned -/
def Turned (qs rs : List (Nat × Nat)) : Prop := rs.length = qs.length ∧ ∀ (j : Nat) (p q : Nat × Nat), qs[j]? = some p → rs[j]? = some q → q = p ∨ q = (p.2, p.1)
theorem Turned.mem1 {qs rs : List (Nat × Nat)} (h : Turned qs rs) : ∀ p ∈ rs, p ∈ qs ∨ (p.2, p.1) ∈ qs := fun p hp => by
  obtain ⟨j, hj, e⟩ := List.mem_iff_getElem.mp hp
  obtain ⟨q, hq⟩ := get_some (l := qs) (i := j) (by rw [← h.1]; exact hj)
  rcases h.2 j q p hq (by rw [List.getElem?_eq_getElem hj, e]) with z | z
  · exact .inl (z ▸ List.mem_of_getElem? hq)
  · refine .inr ?_
    rw [z]
    exact List.mem_of_getElem? hq
theorem Turned.mem2 {qs rs : List (Nat × Nat)} (h : Turned qs rs) : ∀ p ∈ qs, p ∈ rs ∨ (p.2, p.1) ∈ rs := fun p hp => by
  obtain ⟨j, hj, e⟩ := List.mem_iff_getElem.mp hp
  obtain ⟨q, hq⟩ := get_some (l := rs) (i := j) (by rw [h.1]; exact hj)
  rcases h.2 j p q (by rw [List.getElem?_eq_getElem hj, e]) hq with z | z
  · exact .inl (z ▸ List.mem_of_getElem? hq)
  · exact .inr (z ▸ List.mem_of_getElem? hq)
theorem Makes.perm {qs rs : List (Nat × Nat)} {ps : List Nat} (h : Makes qs ps) (e : rs.Perm qs) : Makes rs ps := h.turned e.length_eq (fun p hp => .inl (e.mem_iff.mp hp)) (fun p hp => .inl (e.mem_iff.mpr hp))
theorem IsPair.lt {n : Nat} {ps : List Nat} (h : IsPair n ps) : ∀ i ∈ ps, i < n := fun i hi => by
  obtain ⟨x, hx, e⟩ := List.mem_iff_getElem.mp hi
  obtain ⟨y, e1, e2, _⟩ := h.par x (by rw [← h.len]; exact hx)
  rw [List.getElem?_eq_getElem hx, e] at e1
  cases Option.some.inj e1
  exact e2
theorem Makes.lt {qs : List (Nat × Nat)} {ps : List Nat} (h : Makes qs ps) : ∀ p ∈ qs, p.1 < ps.length ∧ p.2 < ps.length := fun p hp => ⟨get_lt (h.ok p hp).1, get_lt (h.ok p hp).2⟩
theorem iteN {A B : Prop} (h : B) : if (!true) = true then A else B := by
  rw [if_neg (by decide)]
  exact h
end Pc
namespace Pc
open PySem PySem.Spec PyProof.Rows L2 RZ
/-! ### a loop over a list or a tuple that stays as it is -/
theorem for_seq {K : PySem.W.Frag} {a : Addr} {xs : List V} {g : TG} {tb : TS} {D : Ends} {σ : L2.St} {H0 H : Hp} (hS : Sq K H0 a xs) (Pv : Nat → L2.St → Hp → Prop) (h0 : Pv 0 σ H) (hst : ∀ i σ H', Pv i σ H' → Same H0 H')
    (hs : ∀ i x σ H', xs[i]? = some x → Pv i σ H' → g x σ H' fun σ2 H2 => tb { D with nx := Pv (i + 1), ct := Pv (i + 1), bk := D.nx } σ2 H2) (hd : ∀ σ H', Pv xs.length σ H' → D.nx σ H') :
    ((∃ ys, SqL K H a ys) ∧ ∃ W : Nat → Nat → L2.St → Hp → Prop, (∃ m, W 0 m σ H) ∧ ∀ i m σ H, W i m σ H → ((Itl K a).stop i H ∧ D.nx σ H) ∨ ((Itl K a).go i H ∧ ∃ N : L2.St → Hp → Prop, (∀ σ' H', N σ' H' → ∃ m', m' < m ∧ W (i + 1) m' σ' H') ∧ ∀ x H', (Itl K a).yld i H x H' → g x σ H' fun σ2 H2 => tb { D with nx := N, ct := N, bk := D.nx } σ2 H2)) ∨
    ((∃ ys, SqT K H a ys) ∧ ∃ W : Nat → Nat → L2.St → Hp → Prop, (∃ m, W 0 m σ H) ∧ ∀ i m σ H, W i m σ H → ((Itt K a).stop i H ∧ D.nx σ H) ∨ ((Itt K a).go i H ∧ ∃ N : L2.St → Hp → Prop, (∀ σ' H', N σ' H' → ∃ m', m' < m ∧ W (i + 1) m' σ' H') ∧ ∀ x H', (Itt K a).yld i H x H' → g x σ H' fun σ2 H2 => tb { D with nx := N, ct := N, bk := D.nx } σ2 H2)) := by
  rcases hS with h | h
  · exact .inl ⟨⟨_, (hst 0 σ H h0).seq h⟩, for_list Pv h0 (fun i σ H' _ p => (hst i σ H' p).seq h) hs hd⟩
  · exact .inr ⟨⟨_, same_tup (hst 0 σ H h0) h⟩, for_tup Pv h0 (fun i σ H' _ p => same_tup (hst i σ H' p) h) hs hd⟩
/-! ### two are joined, and the two that are left -/
def jn (fs : List Nat) (a b : Nat) : List Nat := if fs.getD a 0 = b then fs else (((fs.set a b).set b a).set (fs.getD a 0) (fs.getD b 0)).set (fs.getD b 0) (fs.getD a 0)
theorem jn_len (fs : List Nat) (a b : Nat) : (jn fs a b).length = fs.length := by
  unfold jn
  split
  · rfl
  · simp only [List.length_set]
/-- the four are different -/
theorem four {n : Nat} {fs : List Nat} (h : IsPair n fs) {a b c d : Nat} (hab : a ≠ b) (ea : fs[a]? = some c) (eb : fs[b]? = some d) (hcb : c ≠ b) : c ≠ a ∧ d ≠ b ∧ d ≠ a ∧ c ≠ d ∧ a < n ∧ b < n ∧ c < n ∧ d < n := by
  obtain ⟨a1, a2, a3, a4⟩ := h.back ea
  obtain ⟨b1, b2, b3, b4⟩ := h.back eb
  refine ⟨a4, b4, fun e => ?_, fun e => ?_, a3, b3, a2, b2⟩
  · rw [e, ea] at b1; exact hcb (Option.some.inj b1)
  · rw [e, b1] at a1; exact hab (Option.some.inj a1).symm
theorem jn_same {fs : List Nat} {a b : Nat} (e : fs[a]? = some b) : jn fs a b = fs := by
  unfold jn
  rw [getD_of e, if_pos rfl]
theorem jn_get {n : Nat} {fs : List Nat} (h : IsPair n fs) {a b c d : Nat} (hab : a ≠ b) (ea : fs[a]? = some c) (eb : fs[b]? = some d) (hcb : c ≠ b) (z : Nat) :
    (jn fs a b)[z]? = if z = a then some b else if z = b then some a else if z = c then some d else if z = d then some c else fs[z]? := by
  obtain ⟨x1, x2, x3, x4, l1, l2, l3, l4⟩ := four h hab ea eb hcb
  unfold jn
  rw [getD_of ea, getD_of eb, if_neg hcb]
  have hl := h.len
  by_cases z4 : z = d
  · subst z4
    rw [List.getElem?_set_self (by simp only [List.length_set]; omega), if_neg x3, if_neg x2, if_neg (Ne.symm x4), if_pos rfl]
  · rw [List.getElem?_set_ne (Ne.symm z4)]
    by_cases z3 : z = c
    · subst z3
      rw [List.getElem?_set_self (by simp only [List.length_set]; omega), if_neg x1, if_neg hcb, if_pos rfl]
    · rw [List.getElem?_set_ne (Ne.symm z3)]
      by_cases z2 : z = b
      · subst z2
        rw [List.getElem?_set_self (by simp only [List.length_set]; omega), if_neg (Ne.symm hab), if_pos rfl]
      · rw [List.getElem?_set_ne (Ne.symm z2)]
        by_cases z1 : z = a
        · subst z1
          rw [List.getElem?_set_self (by omega), if_pos rfl]
        · rw [List.getElem?_set_ne (Ne.symm z1), if_neg z1, if_neg z2, if_neg z3, if_neg z4]
theorem jn_pair {n : Nat} {fs : List Nat} (h : IsPair n fs) {a b : Nat} (hab : a ≠ b) (ha : a < n) (hb : b < n) : IsPair n (jn fs a b) := by
  obtain ⟨c, ea, _⟩ := h.par a ha
  obtain ⟨d, eb, _⟩ := h.par b hb
  by_cases hcb : c = b
  · subst hcb; rw [jn_same ea]; exact h
  · have G := jn_get h hab ea eb hcb
    obtain ⟨x1, x2, x3, x4, _, _, l3, l4⟩ := four h hab ea eb hcb
    refine ⟨by rw [jn_len]; exact h.len, fun x hx => ?_⟩
    by_cases z1 : x = a
    · subst z1
      exact ⟨b, by rw [G, if_pos rfl], hb, hab.symm, by rw [G, if_neg hab.symm, if_pos rfl]⟩
    · by_cases z2 : x = b
      · subst z2
        exact ⟨a, by rw [G, if_neg z1, if_pos rfl], ha, hab, by rw [G, if_pos rfl]⟩
      · by_cases z3 : x = c
        · subst z3
          exact ⟨d, by rw [G, if_neg z1, if_neg z2, if_pos rfl], l4, x4.symm, by rw [G, if_neg x3, if_neg x2, if_neg x4.symm, if_pos rfl]⟩
        · by_cases z4 : x = d
          · subst z4
            exact ⟨c, by rw [G, if_neg z1, if_neg z2, if_neg z3, if_pos rfl], l3, x4, by rw [G, if_neg x1, if_neg hcb, if_pos rfl]⟩
          · obtain ⟨y, e1, e2, e3, e4⟩ := h.par x hx
            have back : ∀ {u : Nat}, y = u → fs[u]? = some x := fun e => by rw [← e]; exact e4
            refine ⟨y, by rw [G, if_neg z1, if_neg z2, if_neg z3, if_neg z4]; exact e1, e2, e3, ?_⟩
            rw [G, if_neg, if_neg, if_neg, if_neg]
            · exact e4
            · intro e; have q := back e; rw [(h.back eb).1] at q; exact z2 (Option.some.inj q).symm
            · intro e; have q := back e; rw [(h.back ea).1] at q; exact z1 (Option.some.inj q).symm
            · intro e; have q := back e; rw [eb] at q; exact z4 (Option.some.inj q).symm
            · intro e; have q := back e; rw [ea] at q; exact z3 (Option.some.inj q).symm
/-- all pairs are calls of n people -/
def Calls (n : Nat) (qs : List (Nat × Nat)) : Prop := ∀ q ∈ qs, q.1 < q.2 ∧ q.2 < n
/-- the calls done one after another -/
def runs (qs : List (Nat × Nat)) (ps : List Nat) : List Nat := qs.foldl (fun fs q => jn fs q.1 q.2) ps
theorem runs_take {qs : List (Nat × Nat)} {ps : List Nat} {i : Nat} {q : Nat × Nat} (h : qs[i]? = some q) : runs (qs.take (i + 1)) ps = jn (runs (qs.take i) ps) q.1 q.2 := by
  unfold runs
  rw [List.take_add_one, h, List.foldl_append]
  rfl
theorem runs_pair {n : Nat} : ∀ (qs : List (Nat × Nat)) {ps : List Nat}, IsPair n ps → Calls n qs → IsPair n (runs qs ps)
  | [], _, h, _ => h
  | q :: r, ps, h, hc => by
    have h1 := hc q List.mem_cons_self
    exact runs_pair r (jn_pair h (by omega) (by omega) h1.2) (fun x hx => hc x (List.mem_cons_of_mem _ hx))
theorem Calls.take {n : Nat} {qs : List (Nat × Nat)} (h : Calls n qs) (i : Nat) : Calls n (qs.take i) := fun q hq => h q (List.mem_of_mem_take hq)
end Pc
namespace Pc
open PySem PySem.Spec PyProof.Rows L2 RZ
section
variable {P : Program} {w : World} {K : PySem.W.Frag} {mg : Str → Option Value} {base : Heap}
/-! ### drawn calls -/
def spSomeCalls : Sp := fun vs H Q _ => ∃ (b : Addr) (k n m : Nat), vs = [.ref b, .int n, .int m] ∧ Box (k + n * m + n + 10) H b ∧ 2 ≤ n ∧ n ≤ 1000 ∧ m ≤ 1000 ∧
  ∀ (H' : Hp) (p : Addr) (as : List Addr) (qs : List (Nat × Nat)), Calls n qs → qs.length ≤ m → H p = none → H' p = some (.lst (as.map V.ref)) → Prs H' as qs → Keep b H H' → Box k H' b → Q (.ref p) H'
theorem ok_some_calls (T : Env K mg) : FnOk P w K mg base CX0 4 T.f_random_word T.d_random_word ["_law_source", "_law_crowd", "_law_most"] spSomeCalls := by
  have GT : FnOk P w K mg base CX0 1 T.f_draw T.d_draw ["_law_source", "_law_bound"] spTake := ok_take T
  have GS : FnOk P w K mg base CX0 2 T.f_shuffled T.d_shuffled ["_law_source", "_law_some"] (spStrewn K) := ok_strewn T
  have GA : FnOk P w K mg base CX0 3 T.f_random_call T.d_random_call ["_law_source", "_law_some"] (spCallOf K) := ok_call_of T
  refine T.F_random_word.ok sc_random_word (fun vs H Q E h => ?_) (fun cdv A outer s H vs Q E hr h => ?_)
  · obtain ⟨b, k, n, m, rfl, _⟩ := h
    rfl
  · obtain ⟨b, k, n, m, rfl, hB, h2', hn, hm, q⟩ := h
    have h1 := hr.mono (show 1 ≤ 3 by decide)
    have h2 := hr.mono (show 2 ≤ 3 by decide)
    refine ⟨_, pss_cons (ps_set (i := 3) sc_random_word.nd rfl (.inr rfl) (pe_listRg rfl (by rfl) T.n_list (prg_1 (by rfl) T.n_range (pv 1)))) <|
      pss_cons (ps_if (PW.pt (pw_and (pt_cmpR op_gt (pv 1) pe_int (nomark _)) (pw_and1 (pt_cmpR op_eq (pe_call GT h1 (by rfl) T.g_draw T.F_draw.kp T.b_draw .nil pass0 (pa_cons (pv 0) (pa_cons pe_int pa_nil))) pe_int (nomark _)))))
        (pss_one (ps_set (i := 3) sc_random_word.nd rfl (.inr rfl) (pe_slice sl_list (pe_call GS h2 (by rfl) T.g_shuffled T.F_shuffled.kp T.b_shuffled .nil pass0 (pa_cons (pv 0) (pa_cons (pv 3) pa_nil))) po_none (po_some pe_int)))) pss_nil) <|
      pss_one (ps_ret (pe_lc (own := [("_law_turn", 4)]) (g := gName 4) (tt := tYes) (te := tCall (spCallOf K) [] E0 (tCons (tVar 0) (tCons (tVar 3) tNil))) rfl sc_random_word.nd
        (pi_range1 (by rfl) T.n_range (pa_cons (pe_call GT h1 (by rfl) T.g_draw T.F_draw.kp T.b_draw .nil pass0 (pa_cons (pv 0) (pa_cons (pe_op op_add (pv 2) pe_int) pa_nil))) pa_nil))
        (blkOk_by (N := N_random_word) (sc := defScope s_random_word) (by decide +kernel))
        (fun _ _ _ _ _ => pg_name (i := 4) sc_random_word.nd rfl (.inl rfl)) (fun _ _ _ _ _ => pts_nil)
        (fun _ _ _ _ _ => pe_call GA hr (by rfl) T.g_random_call T.F_random_call.kp T.b_random_call .nil pass0 (pa_cons (pv 0) (pa_cons (pv 3) pa_nil))))), ?_⟩
    refine ⟨.int n, rfl, n, rfl, RgOk.of_le (by decide) (by omega) (by decide) (by omega), fun rl nrl => ?_⟩
    rw [rg_nv]
    have sr : Same H _ := same_new (o := .lst (nv (List.range n))) nrl
    have er : (upd H rl (.lst (nv (List.range n)))) rl = some (.lst (nv (List.range n))) := upd_same
    have rb : rl ≠ b := (hB.ne_new nrl).symm
    have hBr := hB.same sr
    revert sr er hBr
    generalize upd H rl (.lst (nv (List.range n))) = Hr
    intro sr er hBr
    have kr : Keep b H Hr := Keep.of_same sr
    have lr : (List.range n).length = n := List.length_range
    refine ⟨.int n, rfl, n, 4, rfl, rfl, _, rfl, ite2 (fun c => ?_) (fun c => ?_)⟩
    · have c' : 4 < n := by have := of_decide_eq_true c; omega
      refine ⟨.ref b, rfl, b, k + n * m + n + 9, 3, rfl, hBr, by decide, by decide, fun r3 H3 r30 r31 hB3 k3 => ⟨rfl, _, rfl, ite2 (fun c3 => ?_) (fun c3 => ?_)⟩⟩
      · refine ⟨.ref b, rfl, .ref rl, rfl, b, rl, k + n * m + 9, nv (List.range n), rfl, hB3.mono (by rw [nv_length, lr]; omega), .inl (.inl (k3 _ _ rb er)), by rw [nv_length, lr]; exact hn, fun H4 p4 ys hpy k4 hB4 np4 ep4 => ?_⟩
        obtain ⟨os, e1, hp⟩ := perm_map_inv (fun (i : Nat) => V.int (i : Int)) hpy.symm (List.range n) rfl
        have ep : H4 p4 = some (.lst (nv os)) := by rw [ep4, e1]; rfl
        refine ⟨4, rfl, p4, nv os, rfl, .inl (.inl ep), fun sa nsa => ?_⟩
        have ec : cutV (nv os) none (some 4) = nv (os.take 4) := cut_head os 4
        rw [ec]
        have hol : os.length = n := by rw [hp.length_eq, lr]
        have s5 : Same H4 _ := same_new (o := .lst (nv (os.take 4))) nsa
        have f3 : (upd H4 sa (.lst (nv (os.take 4)))) sa = some (.lst (nv (os.take 4))) := upd_same
        have f0 : Keep b H _ := kr.trans (k3.trans (k4.trans (Keep.of_same s5)))
        have f1 := (hB4.same s5).mono (show k + n * m + 5 ≤ _ by omega)
        have f2 : sa ≠ b := (hB4.ne_new nsa).symm
        have f4 : (os.take 4).Nodup := (List.take_sublist 4 os).nodup (hp.nodup_iff.mpr List.nodup_range)
        have f5 : 2 ≤ (os.take 4).length := by rw [List.length_take]; omega
        have f6 : (os.take 4).length ≤ n := by rw [List.length_take]; omega
        have f7 : ∀ x ∈ os.take 4, x < n := fun x hx => List.mem_range.mp (hp.mem_iff.mp (List.mem_of_mem_take hx))
        revert s5 f3 f0 f1 f4 f5 f6 f7
        generalize upd H4 sa (.lst (nv (os.take 4))) = H0
        generalize os.take 4 = ss
        intro s5 f3 f0 f1 f4 f5 f6 f7
        have hnm : ∀ j : Nat, j < m → n * (m - (j + 1)) + n ≤ n * (m - j) := fun j hj => by
          rw [show m - j = (m - (j + 1)) + 1 by omega, Nat.mul_succ]; exact Nat.le_refl _
        refine ⟨.ref b, rfl, .int m, rfl, m, 1, rfl, rfl, b, k + n * m + 4, (m : Int) + 1, rfl, f1, by omega, by omega, fun r H2 r0 r1 hB2 k2 => ?_⟩
        refine ⟨r, rfl, by omega, by omega, fun D nD => ?_⟩
        have bD : b ≠ D := hB2.ne_new nD
        have k02 : Keep b H H2 := f0.trans k2
        have nD0 : H D = none := keep_none k02 hB2 nD
        have eS2 := k2 _ _ f2 f3
        have sD : sa ≠ D := ne_of_none eS2 nD
        refine lc_range (n := r.toNat) (fun j H' => Keep b H2 H' ∧ Box (k + n * (m - j)) H' b ∧ ∃ (as : List Addr) (qs : List (Nat × Nat)), H' D = some (.lst (as.map V.ref)) ∧ Prs H' as qs ∧ Calls n qs ∧ qs.length = j)
          ⟨Keep.of_same (same_new nD), (hB2.same (same_new nD)).mono (by rw [Nat.sub_zero]; omega), [], [], upd_same, .nil, fun q hq => by simp at hq, rfl⟩ (fun j H' hj hPv => ?_) (fun H' hPv => ?_)
        · obtain ⟨k3, hB3, as, qs, eD, hA, hc, hql⟩ := hPv
          have hj' := hnm j (by omega)
          refine ⟨rfl, yes_if ⟨_, rfl, _, rfl, b, sa, k + n * (m - (j + 1)), n, ss, rfl, hB3.mono (by omega), .inl (.inl (k3 _ _ f2 eS2)), f4, f5, by omega, f7, fun H4 t x y hxy hy nt et k4 hB4 => ?_⟩⟩
          have eD4 := k4 _ _ bD.symm eD
          have ntD : t ≠ D := fun z => by rw [z, eD4] at et; cases et
          obtain ⟨yb, hyb⟩ := hB3.lst
          refine ⟨_, eD4, small1000 (by rw [List.length_map, hA.length]; omega), fun a o na ha => ?_, hB4.keep (c := D) keep_upd bD, as ++ [t], qs ++ [(x, y)], ?_, ?_, ?_, ?_⟩
          · rw [upd_ne (ne_of_none ha nD)]; exact k4 _ _ na (k3 _ _ na ha)
          · rw [upd_same, List.map_append]; rfl
          · refine prs_append (prs_keep (b := D) keep_upd eD4 (prs_keep k4 hyb hA)) (.cons ?_ .nil)
            rw [upd_ne ntD]; exact et
          · intro q hq
            rcases List.mem_append.mp hq with z | z
            · exact hc q z
            · rw [List.mem_singleton.mp z]; exact ⟨hxy, by show y < n; omega⟩
          · rw [List.length_append, hql]; rfl
        · obtain ⟨k3, hB3, as, qs, eD, hA, hc, hql⟩ := hPv
          exact q H' D as qs hc (by omega) nD0 eD hA (k02.trans k3) (hB3.mono (by omega))
      · have f0 : Keep b H H3 := kr.trans k3
        have f1 : Box (k + n * m + 5) H3 b := hB3.mono (by omega)
        have f2 := rb
        have f3 := k3 _ _ rb er
        have f4 : (List.range n).Nodup := List.nodup_range
        have f5 : 2 ≤ (List.range n).length := by rw [lr]; exact h2'
        have f6 : (List.range n).length ≤ n := Nat.le_of_eq lr
        have f7 : ∀ x ∈ List.range n, x < n := fun x hx => List.mem_range.mp hx
        clear er
        revert f3 f4 f5 f6 f7
        generalize List.range n = ss
        intro f3 f4 f5 f6 f7
        have hnm : ∀ j : Nat, j < m → n * (m - (j + 1)) + n ≤ n * (m - j) := fun j hj => by
          rw [show m - j = (m - (j + 1)) + 1 by omega, Nat.mul_succ]; exact Nat.le_refl _
        refine ⟨.ref b, rfl, .int m, rfl, m, 1, rfl, rfl, b, k + n * m + 4, (m : Int) + 1, rfl, f1, by omega, by omega, fun r H2 r0 r1 hB2 k2 => ?_⟩
        refine ⟨r, rfl, by omega, by omega, fun D nD => ?_⟩
        have bD : b ≠ D := hB2.ne_new nD
        have k02 : Keep b H H2 := f0.trans k2
        have nD0 : H D = none := keep_none k02 hB2 nD
        have eS2 := k2 _ _ f2 f3
        have sD : rl ≠ D := ne_of_none eS2 nD
        refine lc_range (n := r.toNat) (fun j H' => Keep b H2 H' ∧ Box (k + n * (m - j)) H' b ∧ ∃ (as : List Addr) (qs : List (Nat × Nat)), H' D = some (.lst (as.map V.ref)) ∧ Prs H' as qs ∧ Calls n qs ∧ qs.length = j)
          ⟨Keep.of_same (same_new nD), (hB2.same (same_new nD)).mono (by rw [Nat.sub_zero]; omega), [], [], upd_same, .nil, fun q hq => by simp at hq, rfl⟩ (fun j H' hj hPv => ?_) (fun H' hPv => ?_)
        · obtain ⟨k3, hB3, as, qs, eD, hA, hc, hql⟩ := hPv
          have hj' := hnm j (by omega)
          refine ⟨rfl, yes_if ⟨_, rfl, _, rfl, b, rl, k + n * (m - (j + 1)), n, ss, rfl, hB3.mono (by omega), .inl (.inl (k3 _ _ f2 eS2)), f4, f5, by omega, f7, fun H4 t x y hxy hy nt et k4 hB4 => ?_⟩⟩
          have eD4 := k4 _ _ bD.symm eD
          have ntD : t ≠ D := fun z => by rw [z, eD4] at et; cases et
          obtain ⟨yb, hyb⟩ := hB3.lst
          refine ⟨_, eD4, small1000 (by rw [List.length_map, hA.length]; omega), fun a o na ha => ?_, hB4.keep (c := D) keep_upd bD, as ++ [t], qs ++ [(x, y)], ?_, ?_, ?_, ?_⟩
          · rw [upd_ne (ne_of_none ha nD)]; exact k4 _ _ na (k3 _ _ na ha)
          · rw [upd_same, List.map_append]; rfl
          · refine prs_append (prs_keep (b := D) keep_upd eD4 (prs_keep k4 hyb hA)) (.cons ?_ .nil)
            rw [upd_ne ntD]; exact et
          · intro q hq
            rcases List.mem_append.mp hq with z | z
            · exact hc q z
            · rw [List.mem_singleton.mp z]; exact ⟨hxy, by show y < n; omega⟩
          · rw [List.length_append, hql]; rfl
        · obtain ⟨k3, hB3, as, qs, eD, hA, hc, hql⟩ := hPv
          exact q H' D as qs hc (by omega) nD0 eD hA (k02.trans k3) (hB3.mono (by omega))
    · have f0 : Keep b H Hr := kr
      have f1 : Box (k + n * m + 5) Hr b := hBr.mono (by omega)
      have f2 := rb
      have f3 := er
      have f4 : (List.range n).Nodup := List.nodup_range
      have f5 : 2 ≤ (List.range n).length := by rw [lr]; exact h2'
      have f6 : (List.range n).length ≤ n := Nat.le_of_eq lr
      have f7 : ∀ x ∈ List.range n, x < n := fun x hx => List.mem_range.mp hx
      clear er
      revert f3 f4 f5 f6 f7
      generalize List.range n = ss
      intro f3 f4 f5 f6 f7
      have hnm : ∀ j : Nat, j < m → n * (m - (j + 1)) + n ≤ n * (m - j) := fun j hj => by
        rw [show m - j = (m - (j + 1)) + 1 by omega, Nat.mul_succ]; exact Nat.le_refl _
      refine ⟨.ref b, rfl, .int m, rfl, m, 1, rfl, rfl, b, k + n * m + 4, (m : Int) + 1, rfl, f1, by omega, by omega, fun r H2 r0 r1 hB2 k2 => ?_⟩
      refine ⟨r, rfl, by omega, by omega, fun D nD => ?_⟩
      have bD : b ≠ D := hB2.ne_new nD
      have k02 : Keep b H H2 := f0.trans k2
      have nD0 : H D = none := keep_none k02 hB2 nD
      have eS2 := k2 _ _ f2 f3
      have sD : rl ≠ D := ne_of_none eS2 nD
      refine lc_range (n := r.toNat) (fun j H' => Keep b H2 H' ∧ Box (k + n * (m - j)) H' b ∧ ∃ (as : List Addr) (qs : List (Nat × Nat)), H' D = some (.lst (as.map V.ref)) ∧ Prs H' as qs ∧ Calls n qs ∧ qs.length = j)
        ⟨Keep.of_same (same_new nD), (hB2.same (same_new nD)).mono (by rw [Nat.sub_zero]; omega), [], [], upd_same, .nil, fun q hq => by simp at hq, rfl⟩ (fun j H' hj hPv => ?_) (fun H' hPv => ?_)
      · obtain ⟨k3, hB3, as, qs, eD, hA, hc, hql⟩ := hPv
        have hj' := hnm j (by omega)
        refine ⟨rfl, yes_if ⟨_, rfl, _, rfl, b, rl, k + n * (m - (j + 1)), n, ss, rfl, hB3.mono (by omega), .inl (.inl (k3 _ _ f2 eS2)), f4, f5, by omega, f7, fun H4 t x y hxy hy nt et k4 hB4 => ?_⟩⟩
        have eD4 := k4 _ _ bD.symm eD
        have ntD : t ≠ D := fun z => by rw [z, eD4] at et; cases et
        obtain ⟨yb, hyb⟩ := hB3.lst
        refine ⟨_, eD4, small1000 (by rw [List.length_map, hA.length]; omega), fun a o na ha => ?_, hB4.keep (c := D) keep_upd bD, as ++ [t], qs ++ [(x, y)], ?_, ?_, ?_, ?_⟩
        · rw [upd_ne (ne_of_none ha nD)]; exact k4 _ _ na (k3 _ _ na ha)
        · rw [upd_same, List.map_append]; rfl
        · refine prs_append (prs_keep (b := D) keep_upd eD4 (prs_keep k4 hyb hA)) (.cons ?_ .nil)
          rw [upd_ne ntD]; exact et
        · intro q hq
          rcases List.mem_append.mp hq with z | z
          · exact hc q z
          · rw [List.mem_singleton.mp z]; exact ⟨hxy, by show y < n; omega⟩
        · rw [List.length_append, hql]; rfl
      · obtain ⟨k3, hB3, as, qs, eD, hA, hc, hql⟩ := hPv
        exact q H' D as qs hc (by omega) nD0 eD hA (k02.trans k3) (hB3.mono (by omega))
end
end Pc
namespace Pc
open PySem PySem.Spec PyProof.Rows L2 RZ
/-! ### lists of tuples of numbers -/
def Tups (H : Hp) (as : List Addr) (ls : List (List Nat)) : Prop := Paired (fun a l => H a = some (.tup (nv l))) as ls
theorem Tups.length {H : Hp} {as : List Addr} {ls : List (List Nat)} (h : Tups H as ls) : as.length = ls.length := Paired.length h
theorem tups_same {H H' : Hp} (e : Same H H') : ∀ {as : List Addr} {ls : List (List Nat)}, Tups H as ls → Tups H' as ls
  | _, _, .nil => .nil
  | _, _, .cons h r => .cons (e _ _ h) (tups_same e r)
theorem tups_keep {b : Addr} {H H' : Hp} {ys : List V} (k : Keep b H H') (hb : H b = some (.lst ys)) : ∀ {as : List Addr} {ls : List (List Nat)}, Tups H as ls → Tups H' as ls
  | _, _, .nil => .nil
  | _, _, .cons h r => .cons (k.tup hb h) (tups_keep k hb r)
theorem tups_append {H : Hp} : ∀ {as bs : List Addr} {ls ms : List (List Nat)}, Tups H as ls → Tups H bs ms → Tups H (as ++ bs) (ls ++ ms)
  | _, _, _, _, .nil, s => s
  | _, _, _, _, .cons h r, s => .cons h (tups_append r s)
theorem tups_get {H : Hp} : ∀ {as : List Addr} {ls : List (List Nat)} {i : Nat} {a : Addr}, Tups H as ls → as[i]? = some a → ∃ l, ls[i]? = some l ∧ H a = some (.tup (nv l))
  | _, _, _, _, .nil, h => by simp at h
  | _, _, 0, _, .cons (b := p) h _, e => by
    cases Option.some.inj e
    exact ⟨p, rfl, h⟩
  | _, _, i + 1, a, .cons _ r, e => tups_get (i := i) r e
def td (l : List Nat) : PyData := .tuple (nd l)
theorem tups_dp {K : PySem.W.Frag} {H : Hp} : ∀ {as : List Addr} {ls : List (List Nat)}, Tups H as ls → DpAll K H (as.map V.ref) (ls.map td)
  | _, _, .nil => .nil
  | _, _, .cons (b := l) h r => .cons (.tup (.inl (.inl h)) (dp_nats l)) (tups_dp r)
theorem fine_tds {ls : List (List Nat)} {n m : Nat} (h : ∀ l ∈ ls, l.length ≤ m ∧ ∀ i ∈ l, i < 2 ^ 60) (hn : ls.length ≤ n) (hb : n ≤ 100000) (hm : m ≤ 100000) : Fine 2 (n * (m * 63 + 5) + 3) (.list (ls.map td)) :=
  fine_list (fun d hd => by
    obtain ⟨l, hl, rfl⟩ := List.mem_map.mp hd
    exact fine_tup (h l hl).2 (h l hl).1 hm) (by rw [List.length_map]; exact hn) hb
/-- the pairings before the first call and behind each -/
def alongs (qs : List (Nat × Nat)) (ps : List Nat) (i : Nat) : List (List Nat) := (List.range (i + 1)).map fun j => runs (qs.take j) ps
theorem alongs_zero (qs : List (Nat × Nat)) (ps : List Nat) : alongs qs ps 0 = [ps] := rfl
theorem alongs_succ (qs : List (Nat × Nat)) (ps : List Nat) (i : Nat) : alongs qs ps (i + 1) = alongs qs ps i ++ [runs (qs.take (i + 1)) ps] := by
  unfold alongs
  rw [List.range_succ, List.map_append]
  rfl
theorem alongs_len (qs : List (Nat × Nat)) (ps : List Nat) (i : Nat) : (alongs qs ps i).length = i + 1 := by
  unfold alongs
  rw [List.length_map, List.length_range]
theorem alongs_mem {n i : Nat} {qs : List (Nat × Nat)} {ps l : List Nat} (hP : IsPair n ps) (hc : Calls n qs) (h : l ∈ alongs qs ps i) : IsPair n l := by
  obtain ⟨j, _, rfl⟩ := List.mem_map.mp h
  exact runs_pair _ hP (hc.take j)
end Pc
namespace Pc
open PySem PySem.Spec PyProof.Rows L2 RZ
/-! ### sheets as lists of natural numbers -/
/-- the empty sheet of n people -/
def emp (n : Nat) : List Nat := (List.range (2 * n)).map fun e => (e + n) % (2 * n)
theorem emp_len (n : Nat) : (emp n).length = 2 * n := by unfold emp; rw [List.length_map, List.length_range]
theorem emp_get {n e : Nat} (h : e < 2 * n) : (emp n)[e]? = some ((e + n) % (2 * n)) := by
  unfold emp
  rw [List.getElem?_map, List.getElem?_range h]
  rfl
theorem emp_lo {n e : Nat} (h : e < n) : (emp n)[e]? = some (n + e) := by
  rw [emp_get (by omega), Nat.mod_eq_of_lt (by omega), Nat.add_comm]
theorem emp_hi {n e : Nat} (h : e < n) : (emp n)[n + e]? = some e := by
  rw [emp_get (by omega), show n + e + n = e + 1 * (2 * n) by omega, Nat.add_mul_mod_self_right, Nat.mod_eq_of_lt (by omega)]
theorem emp_pair {n : Nat} (hn : 0 < n) : IsPair (2 * n) (emp n) := by
  refine ⟨emp_len n, fun x hx => ?_⟩
  by_cases h : x < n
  · exact ⟨n + x, emp_lo h, by omega, by omega, emp_hi h⟩
  · have e : x = n + (x - n) := by omega
    refine ⟨x - n, ?_, by omega, by omega, ?_⟩
    · have := emp_hi (n := n) (e := x - n) (by omega)
      rw [← e] at this; exact this
    · have := emp_lo (n := n) (e := x - n) (by omega)
      rw [← e] at this; exact this
/-- the calls at the lower ends -/
def low (n : Nat) (qs : List (Nat × Nat)) : List (Nat × Nat) := qs.map fun q => (n + q.1, n + q.2)
theorem low_calls {n : Nat} {qs : List (Nat × Nat)} (h : Calls n qs) : Calls (2 * n) (low n qs) := fun q hq => by
  obtain ⟨r, hr, rfl⟩ := List.mem_map.mp hq
  have := h r hr
  exact ⟨by show n + r.1 < n + r.2; omega, by show n + r.2 < 2 * n; omega⟩
theorem low_take (n : Nat) (qs : List (Nat × Nat)) (i : Nat) : (low n qs).take i = low n (qs.take i) := by unfold low; rw [List.map_take]
theorem low_get {n i : Nat} {qs : List (Nat × Nat)} {q : Nat × Nat} (h : qs[i]? = some q) : (low n qs)[i]? = some (n + q.1, n + q.2) := by
  unfold low; rw [List.getElem?_map, h]; rfl
/-- the sheet with calls added -/
def shw (n : Nat) (qs : List (Nat × Nat)) (fs : List Nat) : List Nat := runs (low n qs) fs
theorem shw_take {n i : Nat} {qs : List (Nat × Nat)} {fs : List Nat} {q : Nat × Nat} (h : qs[i]? = some q) : shw n (qs.take (i + 1)) fs = jn (shw n (qs.take i) fs) (n + q.1) (n + q.2) := by
  unfold shw
  rw [← low_take, ← low_take, runs_take (low_get h)]
theorem shw_pair {n : Nat} {qs : List (Nat × Nat)} {fs : List Nat} (hP : IsPair (2 * n) fs) (h : Calls n qs) : IsPair (2 * n) (shw n qs fs) := runs_pair _ hP (low_calls h)
/-- the other order of the stores -/
theorem jn_alt {n : Nat} {fs : List Nat} (h : IsPair n fs) {a b c d : Nat} (hab : a ≠ b) (ea : fs[a]? = some c) (eb : fs[b]? = some d) (hcb : c ≠ b) : (((fs.set c d).set d c).set a b).set b a = jn fs a b := by
  obtain ⟨x1, x2, x3, x4, l1, l2, l3, l4⟩ := four h hab ea eb hcb
  have hl := h.len
  refine List.ext_getElem? fun z => ?_
  rw [jn_get h hab ea eb hcb]
  by_cases z2 : z = b
  · subst z2
    rw [List.getElem?_set_self (by simp only [List.length_set]; omega), if_neg hab.symm, if_pos rfl]
  · rw [List.getElem?_set_ne (Ne.symm z2)]
    by_cases z1 : z = a
    · subst z1
      rw [List.getElem?_set_self (by simp only [List.length_set]; omega), if_pos rfl]
    · rw [List.getElem?_set_ne (Ne.symm z1), if_neg z1, if_neg z2]
      by_cases z4 : z = d
      · subst z4
        rw [List.getElem?_set_self (by simp only [List.length_set]; omega), if_neg (Ne.symm x4), if_pos rfl]
      · rw [List.getElem?_set_ne (Ne.symm z4)]
        by_cases z3 : z = c
        · subst z3
          rw [List.getElem?_set_self (by omega), if_pos rfl]
        · rw [List.getElem?_set_ne (Ne.symm z3), if_neg z3, if_neg z4]
theorem range_shift (n : Nat) : rgV (n : Int) (2 * (n : Int)) = nv ((List.range n).map fun i => n + i) := by
  unfold rgV nv
  rw [show (2 * (n : Int) - (n : Int)).toNat = n by omega, List.map_map]
  refine List.map_congr_left fun i _ => ?_
  show V.int ((n : Int) + (i : Nat)) = V.int (((n + i : Nat) : Int))
  rw [show (((n + i : Nat) : Int)) = (n : Int) + (i : Nat) by omega]
/-- strands in any order: the upper ends in turn, the lower ends as drawn -/
def SInv (n : Nat) (ls fs : List Nat) (t : Nat) : Prop := fs.length = 2 * n ∧ ∀ j, j < t → ∀ l, ls[j]? = some l → fs[j]? = some l ∧ fs[l]? = some j
theorem SInv.step {n : Nat} {ls fs : List Nat} {t l : Nat} (hp : ls.Perm ((List.range n).map fun i => n + i)) (h : SInv n ls fs t) (hl : ls[t]? = some l) : SInv n ls ((fs.set t l).set l t) (t + 1) := by
  have hln : ls.length = n := by rw [hp.length_eq, List.length_map, List.length_range]
  have hnd : ls.Nodup := hp.nodup_iff.mpr (List.Pairwise.map _ (fun a b (hab : a ≠ b) => show n + a ≠ n + b by omega) List.nodup_range)
  have big : ∀ {j x : Nat}, ls[j]? = some x → n ≤ x ∧ x < 2 * n := fun hx => by
    obtain ⟨i, hi, e⟩ := List.mem_map.mp (hp.mem_iff.mp (List.mem_of_getElem? hx))
    have := List.mem_range.mp hi
    omega
  have ht : t < n := by rw [← hln]; exact get_lt hl
  have hb := big hl
  obtain ⟨h1, h2⟩ := h
  refine ⟨by simp only [List.length_set]; exact h1, fun j hj x hx => ?_⟩
  have hjn : j < n := by rw [← hln]; exact get_lt hx
  have hbx := big hx
  by_cases e : j = t
  · subst e
    cases Option.some.inj (hl.symm.trans hx)
    exact ⟨by rw [List.getElem?_set_ne (by omega), List.getElem?_set_self (by omega)], by rw [List.getElem?_set_self (by simp only [List.length_set]; omega)]⟩
  · obtain ⟨g1, g2⟩ := h2 j (by omega) x hx
    have xl : l ≠ x := fun z => by subst z; exact e (nd_ix hnd hx hl)
    exact ⟨by rw [List.getElem?_set_ne (by omega), List.getElem?_set_ne (by omega)]; exact g1, by rw [List.getElem?_set_ne xl, List.getElem?_set_ne (by omega)]; exact g2⟩
theorem SInv.done {n : Nat} {ls fs : List Nat} (hp : ls.Perm ((List.range n).map fun i => n + i)) (h : SInv n ls fs n) : IsPair (2 * n) fs := by
  have hln : ls.length = n := by rw [hp.length_eq, List.length_map, List.length_range]
  refine ⟨h.1, fun x hx => ?_⟩
  by_cases e : x < n
  · obtain ⟨l, hl⟩ := get_some (l := ls) (i := x) (by omega)
    obtain ⟨i, hi, e'⟩ := List.mem_map.mp (hp.mem_iff.mp (List.mem_of_getElem? hl))
    have := List.mem_range.mp hi
    obtain ⟨g1, g2⟩ := h.2 x e l hl
    exact ⟨l, g1, by omega, by omega, g2⟩
  · have hm : x ∈ ls := hp.mem_iff.mpr (List.mem_map.mpr ⟨x - n, List.mem_range.mpr (by omega), by omega⟩)
    obtain ⟨j, hj, ej⟩ := List.mem_iff_getElem.mp hm
    obtain ⟨g1, g2⟩ := h.2 j (by omega) x (by rw [List.getElem?_eq_getElem hj, ej])
    exact ⟨j, g2, by omega, by omega, g1⟩
theorem emp_step (n i : Nat) (h : i < 2 * n) : (emp n).take (i + 1) = (emp n).take i ++ [(i + n) % (2 * n)] := by
  rw [List.take_add_one, emp_get h]
  rfl
theorem nv_snoc' (l : List Nat) (x : Nat) : nv l ++ [.int (x : Int)] = nv (l ++ [x]) := by
  unfold nv
  rw [List.map_append]; rfl
theorem mod_cast_n (i n : Nat) : ((0 : Int) + (i : Nat) + (n : Int)) % (2 * (n : Int)) = (((i + n) % (2 * n) : Nat) : Int) := by
  have h : (((i + n) % (2 * n) : Nat) : Int) = ((i + n : Nat) : Int) % ((2 * n : Nat) : Int) := Int.natCast_emod _ _
  rw [h, Int.natCast_add, Int.natCast_mul, Int.zero_add]
  rfl
end Pc
namespace Pc
open PySem PySem.Spec PyProof.Rows L2 RZ
/-! ### pairs that are chosen from a range -/
def selN (c : Nat → Bool) (g : Nat → Nat × Nat) (i : Nat) : List (Nat × Nat) := ((List.range i).filter c).map g
theorem selN_yes {c : Nat → Bool} {g : Nat → Nat × Nat} {i : Nat} (h : c i = true) : selN c g (i + 1) = selN c g i ++ [g i] := by
  unfold selN
  rw [List.range_succ, List.filter_append, List.map_append, List.filter_cons_of_pos h, List.filter_nil, List.map_cons, List.map_nil]
theorem selN_no {c : Nat → Bool} {g : Nat → Nat × Nat} {i : Nat} (h : c i = false) : selN c g (i + 1) = selN c g i := by
  unfold selN
  rw [List.range_succ, List.filter_append, List.map_append, List.filter_cons_of_neg (by rw [h]; decide), List.filter_nil, List.map_nil, List.append_nil]
theorem selN_len (c : Nat → Bool) (g : Nat → Nat × Nat) (i : Nat) : (selN c g i).length ≤ i := by
  unfold selN
  rw [List.length_map]
  exact Nat.le_trans (List.length_filter_le _ _) (by rw [List.length_range]; exact Nat.le_refl _)
theorem selN_mem {c : Nat → Bool} {g : Nat → Nat × Nat} {i : Nat} {p : Nat × Nat} : p ∈ selN c g i ↔ ∃ x, x < i ∧ c x = true ∧ g x = p := by
  unfold selN
  rw [List.mem_map]
  constructor
  · rintro ⟨x, hx, e⟩
    have := List.mem_filter.mp hx
    exact ⟨x, List.mem_range.mp this.1, this.2, e⟩
  · rintro ⟨x, h1, h2, e⟩
    exact ⟨x, List.mem_filter.mpr ⟨List.mem_range.mpr h1, h2⟩, e⟩
/-- one more pair is put to the list -/
theorem sel_step {H H1 : Hp} {D u : Addr} {as : List Addr} {c : Nat → Bool} {g : Nat → Nat × Nat} {i : Nat} {v1 v2 : V} (nD : H D = none) (sm : Same H H1) (eD : H1 D = some (.lst (as.map V.ref))) (hA : Prs H1 as (selN c g i)) (hc : c i = true) (nu : H1 u = none)
    (hv : [v1, v2] = [V.int ((g i).1 : Int), V.int ((g i).2 : Int)]) (hi : i ≤ 999) : ∃ acc, (upd H1 u (.tup [v1, v2])) D = some (.lst acc) ∧ acc.length < sizeLine ∧
      (Same H (upd (upd H1 u (.tup [v1, v2])) D (.lst (acc ++ [.ref u]))) ∧ ∃ as' : List Addr, (upd (upd H1 u (.tup [v1, v2])) D (.lst (acc ++ [.ref u]))) D = some (.lst (as'.map V.ref)) ∧ Prs (upd (upd H1 u (.tup [v1, v2])) D (.lst (acc ++ [.ref u]))) as' (selN c g (i + 1))) := by
  have su : Same H1 (upd H1 u (.tup [v1, v2])) := same_new nu
  have nuD : u ≠ D := fun e => by rw [e, eD] at nu; cases nu
  refine ⟨_, su _ _ eD, ?_, fun b' o hb => ?_, as ++ [u], ?_, ?_⟩
  · rw [List.length_map, hA.length]
    have := selN_len c g i
    exact small1000 (by omega)
  · rw [upd_ne (ne_of_none hb nD)]; exact su _ _ (sm _ _ hb)
  · rw [upd_same, List.map_append]; rfl
  · rw [selN_yes hc]
    refine prs_append (prs_keep (b := D) (ys := as.map V.ref) keep_upd (su _ _ eD) (prs_same su hA)) (.cons ?_ .nil)
    rw [upd_ne nuD, upd_same, hv]
theorem ix_sq {K : PySem.W.Frag} {H : Hp} {a : Addr} {xs : List V} {i : Int} {v : V} {Q : VK} (h : Sq K H a xs) (e : atI xs i = some v) (q : Q v H) : rIx K (.ref a) (.int i) H Q :=
  h.elim (fun z => .inl ⟨a, xs, i, v, rfl, rfl, z, e, q⟩) (fun z => .inr (.inl ⟨a, xs, i, v, rfl, rfl, z, e, q⟩))
/-! ### upper pairs, lower pairs, strands -/
def upC (fs : List Nat) (n x : Nat) : Bool := decide (x < fs.getD x 0) && decide (fs.getD x 0 < n)
def upG (fs : List Nat) (x : Nat) : Nat × Nat := (x, fs.getD x 0)
def loC (fs : List Nat) (n x : Nat) : Bool := decide (n + x < fs.getD (n + x) 0)
def loG (fs : List Nat) (n x : Nat) : Nat × Nat := (x, fs.getD (n + x) 0 - n)
def stC (fs : List Nat) (n x : Nat) : Bool := decide (n ≤ fs.getD x 0)
def stG (fs : List Nat) (n x : Nat) : Nat × Nat := (x, fs.getD x 0 - n)
def ups (fs : List Nat) (n : Nat) : List (Nat × Nat) := selN (upC fs n) (upG fs) n
def los (fs : List Nat) (n : Nat) : List (Nat × Nat) := selN (loC fs n) (loG fs n) n
def sts (fs : List Nat) (n : Nat) : List (Nat × Nat) := selN (stC fs n) (stG fs n) n
theorem ups_mem {n : Nat} {fs : List Nat} (h : IsPair (2 * n) fs) {p : Nat × Nat} (hp : p ∈ ups fs n) : fs[p.1]? = some p.2 ∧ p.1 < p.2 ∧ p.2 < n := by
  obtain ⟨x, hx, hc, e⟩ := selN_mem.mp hp
  obtain ⟨y, ey, _⟩ := h.par x (by omega)
  unfold upC at hc
  rw [getD_of ey, Bool.and_eq_true, decide_eq_true_iff, decide_eq_true_iff] at hc
  subst e
  show fs[x]? = some (fs.getD x 0) ∧ x < fs.getD x 0 ∧ fs.getD x 0 < n
  rw [getD_of ey]
  exact ⟨ey, hc.1, hc.2⟩
theorem los_mem {n : Nat} {fs : List Nat} (h : IsPair (2 * n) fs) {p : Nat × Nat} (hp : p ∈ los fs n) : fs[n + p.1]? = some (n + p.2) ∧ p.1 < p.2 ∧ p.2 < n := by
  obtain ⟨x, hx, hc, e⟩ := selN_mem.mp hp
  obtain ⟨y, ey, hy, _⟩ := h.par (n + x) (by omega)
  unfold loC at hc
  rw [getD_of ey, decide_eq_true_iff] at hc
  subst e
  show fs[n + x]? = some (n + (fs.getD (n + x) 0 - n)) ∧ x < fs.getD (n + x) 0 - n ∧ fs.getD (n + x) 0 - n < n
  rw [getD_of ey, show n + (y - n) = y by omega]
  exact ⟨ey, by omega, by omega⟩
theorem sts_mem {n : Nat} {fs : List Nat} (h : IsPair (2 * n) fs) {p : Nat × Nat} (hp : p ∈ sts fs n) : fs[p.1]? = some (n + p.2) ∧ p.1 < n ∧ p.2 < n := by
  obtain ⟨x, hx, hc, e⟩ := selN_mem.mp hp
  obtain ⟨y, ey, hy, _⟩ := h.par x (by omega)
  unfold stC at hc
  rw [getD_of ey, decide_eq_true_iff] at hc
  subst e
  show fs[x]? = some (n + (fs.getD x 0 - n)) ∧ x < n ∧ fs.getD x 0 - n < n
  rw [getD_of ey, show n + (y - n) = y by omega]
  exact ⟨ey, by omega, by omega⟩
/-- all joins of a sheet, as pairs of ends -/
def jns (fs : List Nat) (n : Nat) : List (Nat × Nat) := ups fs n ++ ((los fs n).map (fun p => (n + p.1, n + p.2)) ++ (sts fs n).map (fun p => (p.1, n + p.2)))
theorem jns_ok {n : Nat} {fs : List Nat} (h : IsPair (2 * n) fs) : ∀ p ∈ jns fs n, fs[p.1]? = some p.2 ∧ p.1 < p.2 := fun p hp => by
  rcases List.mem_append.mp hp with z | z
  · have := ups_mem h z; exact ⟨this.1, this.2.1⟩
  · rcases List.mem_append.mp z with z | z
    · obtain ⟨r, hr, rfl⟩ := List.mem_map.mp z
      have := los_mem h hr
      exact ⟨this.1, by show n + r.1 < n + r.2; omega⟩
    · obtain ⟨r, hr, rfl⟩ := List.mem_map.mp z
      have := sts_mem h hr
      exact ⟨this.1, by show r.1 < n + r.2; omega⟩
theorem sel_fst {c : Nat → Bool} {g : Nat → Nat × Nat} {i : Nat} (h : ∀ x, (g x).1 = x) : (selN c g i).map Prod.fst = (List.range i).filter c := by
  unfold selN
  rw [List.map_map]
  conv => rhs; rw [← List.map_id ((List.range i).filter c)]
  exact List.map_congr_left fun x _ => h x
theorem jns_nodup {n : Nat} {fs : List Nat} (h : IsPair (2 * n) fs) : ((jns fs n).map Prod.fst).Nodup := by
  have e1 : (ups fs n).map Prod.fst = (List.range n).filter (upC fs n) := sel_fst fun _ => rfl
  have e2 : ((los fs n).map (fun p => (n + p.1, n + p.2))).map Prod.fst = ((List.range n).filter (loC fs n)).map (fun x => n + x) := by
    rw [← sel_fst (c := loC fs n) (g := loG fs n) (i := n) fun _ => rfl, List.map_map, List.map_map]; rfl
  have e3 : ((sts fs n).map (fun p => (p.1, n + p.2))).map Prod.fst = (List.range n).filter (stC fs n) := by
    rw [← sel_fst (c := stC fs n) (g := stG fs n) (i := n) fun _ => rfl, List.map_map]; rfl
  unfold jns
  rw [List.map_append, List.map_append, e1, e2, e3]
  have nr : (List.range n).Nodup := List.nodup_range
  refine List.nodup_append.mpr ⟨nr.filter _, List.nodup_append.mpr ⟨?_, nr.filter _, fun a ha b hb => ?_⟩, fun a ha b hb => ?_⟩
  · exact List.Pairwise.map _ (fun a b (hab : a ≠ b) => show n + a ≠ n + b by omega) (nr.filter _)
  · obtain ⟨x, _, rfl⟩ := List.mem_map.mp ha
    have := List.mem_range.mp (List.mem_filter.mp hb).1
    omega
  · have ha1 := List.mem_range.mp (List.mem_filter.mp ha).1
    have ha2 := (List.mem_filter.mp ha).2
    unfold upC at ha2
    rw [Bool.and_eq_true, decide_eq_true_iff, decide_eq_true_iff] at ha2
    rcases List.mem_append.mp hb with z | z
    · obtain ⟨x, _, rfl⟩ := List.mem_map.mp z; omega
    · have hb2 := (List.mem_filter.mp z).2
      unfold stC at hb2
      rw [decide_eq_true_iff] at hb2
      intro e; subst e; omega
theorem jns_all {n : Nat} {fs : List Nat} (h : IsPair (2 * n) fs) {z y : Nat} (e : fs[z]? = some y) (hz : z < y) : (z, y) ∈ jns fs n := by
  obtain ⟨_, hy, hz2, _⟩ := h.back e
  unfold jns
  by_cases c : z < n
  · by_cases d : y < n
    · refine List.mem_append.mpr (.inl (selN_mem.mpr ⟨z, c, ?_, ?_⟩))
      · unfold upC; rw [getD_of e, decide_eq_true hz, decide_eq_true d]; rfl
      · unfold upG; rw [getD_of e]
    · refine List.mem_append.mpr (.inr (List.mem_append.mpr (.inr (List.mem_map.mpr ⟨(z, y - n), selN_mem.mpr ⟨z, c, ?_, ?_⟩, ?_⟩))))
      · unfold stC; rw [getD_of e]; exact decide_eq_true (by omega)
      · unfold stG; rw [getD_of e]
      · show (z, n + (y - n)) = (z, y); rw [show n + (y - n) = y by omega]
  · have e' : fs[n + (z - n)]? = some y := by rw [show n + (z - n) = z by omega]; exact e
    refine List.mem_append.mpr (.inr (List.mem_append.mpr (.inl (List.mem_map.mpr ⟨(z - n, y - n), selN_mem.mpr ⟨z - n, by omega, ?_, ?_⟩, ?_⟩))))
    · unfold loC; rw [getD_of e']; exact decide_eq_true (by omega)
    · unfold loG; rw [getD_of e']
    · show (n + (z - n), n + (y - n)) = (z, y); rw [show n + (z - n) = z by omega, show n + (y - n) = y by omega]
/-- the ends of joins in a row -/
def flat : List (Nat × Nat) → List Nat
  | [] => []
  | p :: r => p.1 :: p.2 :: flat r
theorem flat_app : ∀ a b : List (Nat × Nat), flat (a ++ b) = flat a ++ flat b
  | [], _ => rfl
  | p :: r, b => by show p.1 :: p.2 :: flat (r ++ b) = _; rw [flat_app r b]; rfl
theorem flat_mem : ∀ {l : List (Nat × Nat)} {z : Nat}, z ∈ flat l ↔ ∃ p ∈ l, z = p.1 ∨ z = p.2
  | [], z => by simp [flat]
  | p :: r, z => by
    show z ∈ p.1 :: p.2 :: flat r ↔ _
    rw [List.mem_cons, List.mem_cons, flat_mem (l := r)]
    constructor
    · rintro (e | e | ⟨q, hq, e⟩)
      · exact ⟨p, List.mem_cons_self, .inl e⟩
      · exact ⟨p, List.mem_cons_self, .inr e⟩
      · exact ⟨q, List.mem_cons_of_mem _ hq, e⟩
    · rintro ⟨q, hq, e⟩
      rcases List.mem_cons.mp hq with z | z
      · subst z; exact e.elim .inl (fun e => .inr (.inl e))
      · exact .inr (.inr ⟨q, z, e⟩)
theorem flat_len : ∀ l : List (Nat × Nat), (flat l).length = 2 * l.length
  | [] => rfl
  | p :: r => by show (flat r).length + 1 + 1 = 2 * (r.length + 1); rw [flat_len r]; omega
theorem flat_nodup {n : Nat} {fs : List Nat} (h : IsPair n fs) : ∀ {l : List (Nat × Nat)}, (∀ p ∈ l, fs[p.1]? = some p.2 ∧ p.1 < p.2) → (l.map Prod.fst).Nodup → (flat l).Nodup
  | [], _, _ => List.nodup_nil
  | p :: r, ho, hd => by
    have hp := ho p List.mem_cons_self
    obtain ⟨n1, n2⟩ := List.nodup_cons.mp (show (p.1 :: r.map Prod.fst).Nodup from hd)
    have hr : ∀ q ∈ r, fs[q.1]? = some q.2 ∧ q.1 < q.2 := fun q hq => ho q (List.mem_cons_of_mem _ hq)
    have ih := flat_nodup h hr n2
    have bp := (h.back hp.1).1
    have ne1 : ∀ q ∈ r, p.1 ≠ q.1 := fun q hq e => n1 (List.mem_map.mpr ⟨q, hq, e.symm⟩)
    show (p.1 :: p.2 :: flat r).Nodup
    refine List.nodup_cons.mpr ⟨fun hm => ?_, List.nodup_cons.mpr ⟨fun hm => ?_, ih⟩⟩
    · rcases List.mem_cons.mp hm with e | e
      · omega
      · obtain ⟨q, hq, e⟩ := flat_mem.mp e
        have hq' := hr q hq
        rcases e with e | e
        · exact ne1 q hq e
        · have bq := (h.back hq'.1).1
          rw [← e, hp.1] at bq
          have := Option.some.inj bq
          omega
    · obtain ⟨q, hq, e⟩ := flat_mem.mp hm
      have hq' := hr q hq
      rcases e with e | e
      · have e1 := hq'.1
        rw [← e, bp] at e1
        have := Option.some.inj e1
        omega
      · have bq := (h.back hq'.1).1
        rw [← e, bp] at bq
        exact ne1 q hq (Option.some.inj bq)
theorem jns_perm {n : Nat} {fs : List Nat} (h : IsPair (2 * n) fs) : (flat (jns fs n)).Perm (List.range (2 * n)) := by
  refine (List.perm_ext_iff_of_nodup (flat_nodup h (jns_ok h) (jns_nodup h)) List.nodup_range).mpr fun z => ?_
  rw [flat_mem, List.mem_range]
  constructor
  · rintro ⟨p, hp, e⟩
    obtain ⟨b1, b2, b3, _⟩ := h.back (jns_ok h p hp).1
    rcases e with e | e <;> omega
  · intro hz
    obtain ⟨y, ey, hy, hne, eb⟩ := h.par z hz
    by_cases c : z < y
    · exact ⟨_, jns_all h ey c, .inl rfl⟩
    · exact ⟨_, jns_all h eb (by omega), .inr rfl⟩
theorem flat_two {f : Nat → Bool} : ∀ {l : List (Nat × Nat)}, (∀ p ∈ l, f p.1 = true ∧ f p.2 = true) → (flat l).countP f = 2 * l.length
  | [], _ => rfl
  | p :: r, h => by
    have hp := h p List.mem_cons_self
    show (p.1 :: p.2 :: flat r).countP f = _
    rw [List.countP_cons_of_pos hp.1, List.countP_cons_of_pos hp.2, flat_two fun q hq => h q (List.mem_cons_of_mem _ hq), List.length_cons]
    omega
theorem flat_none {f : Nat → Bool} : ∀ {l : List (Nat × Nat)}, (∀ p ∈ l, f p.1 = false ∧ f p.2 = false) → (flat l).countP f = 0
  | [], _ => rfl
  | p :: r, h => by
    have hp := h p List.mem_cons_self
    show (p.1 :: p.2 :: flat r).countP f = _
    rw [List.countP_cons_of_neg (by rw [hp.1]; decide), List.countP_cons_of_neg (by rw [hp.2]; decide), flat_none fun q hq => h q (List.mem_cons_of_mem _ hq)]
theorem flat_one {f : Nat → Bool} : ∀ {l : List (Nat × Nat)}, (∀ p ∈ l, f p.1 = true ∧ f p.2 = false) → (flat l).countP f = l.length
  | [], _ => rfl
  | p :: r, h => by
    have hp := h p List.mem_cons_self
    show (p.1 :: p.2 :: flat r).countP f = _
    rw [List.countP_cons_of_pos hp.1, List.countP_cons_of_neg (by rw [hp.2]; decide), flat_one fun q hq => h q (List.mem_cons_of_mem _ hq), List.length_cons]
theorem range_low (n : Nat) : (List.range (2 * n)).countP (fun z => decide (z < n)) = n := by
  rw [show 2 * n = n + n by omega, List.range_add, List.countP_append, List.countP_eq_length.mpr (fun a ha => decide_eq_true (List.mem_range.mp ha)), List.countP_eq_zero.mpr (fun a ha => ?_), List.length_range, Nat.add_zero]
  obtain ⟨x, _, rfl⟩ := List.mem_map.mp ha
  rw [decide_eq_true_iff]; omega
theorem ups_los {n : Nat} {fs : List Nat} (h : IsPair (2 * n) fs) : (ups fs n).length = (los fs n).length := by
  have hp := jns_perm h
  have hl := hp.length_eq
  have hc := hp.countP_eq (fun z => decide (z < n))
  rw [range_low] at hc
  rw [flat_len, List.length_range] at hl
  unfold jns at hc hl
  rw [List.length_append, List.length_append, List.length_map, List.length_map] at hl
  have x1 : (flat (ups fs n)).countP (fun z => decide (z < n)) = 2 * (ups fs n).length := flat_two fun p hp => by
    have := ups_mem h hp
    exact ⟨decide_eq_true (by omega), decide_eq_true (by omega)⟩
  have x2 : (flat ((los fs n).map (fun p => (n + p.1, n + p.2)))).countP (fun z => decide (z < n)) = 0 := flat_none fun p hp => by
    obtain ⟨r, hr, rfl⟩ := List.mem_map.mp hp
    exact ⟨decide_eq_false (by show ¬ n + r.1 < n; omega), decide_eq_false (by show ¬ n + r.2 < n; omega)⟩
  have x3 : (flat ((sts fs n).map (fun p => (p.1, n + p.2)))).countP (fun z => decide (z < n)) = ((sts fs n).map (fun p => (p.1, n + p.2))).length := flat_one fun p hp => by
    obtain ⟨r, hr, rfl⟩ := List.mem_map.mp hp
    have := sts_mem h hr
    exact ⟨decide_eq_true (by show r.1 < n; omega), decide_eq_false (by show ¬ n + r.2 < n; omega)⟩
  rw [flat_app, flat_app, List.countP_append, List.countP_append, x1, x2, x3, List.length_map] at hc
  omega
end Pc
namespace Pc
open PySem PySem.Spec PyProof.Rows L2 RZ
section
variable {P : Program} {w : World} {K : PySem.W.Frag} {mg : Str → Option Value} {base : Heap}
/-! ### the number of people of a sheet -/
def spPeople (K : PySem.W.Frag) : Sp := fun vs H Q _ => ∃ (a : Addr) (fs : List Nat) (n : Nat), vs = [.ref a] ∧ Sq K H a (nv fs) ∧ fs.length = 2 * n ∧ Q (.int n) H
theorem ok_p_people_of (T : Env K mg) : FnOk P w K mg base CX0 1 T.f_p_people_of T.d_p_people_of ["sheet"] (spPeople K) := by
  refine T.F_p_people_of.ok sc_p_people_of (fun vs H Q E h => ?_) (fun cdv A outer s H vs Q E hr h => ?_)
  · obtain ⟨a, fs, n, rfl, _⟩ := h
    rfl
  · obtain ⟨a, fs, n, rfl, hS, hl, q⟩ := h
    refine ⟨_, pss_one (ps_ret (pe_op op_fdiv (pe_callB call_len_seq (by rfl) T.n_len PySem.boot_len (pa_cons (pv 0) pa_nil)) pe_int)), ?_⟩
    refine ⟨.ref a, rfl, a, _, rfl, hS, _, 2, rfl, rfl, ⟨by decide, by decide⟩, ?_⟩
    show Q (.int (((nv fs).length : Int) / 2)) H
    rw [nv_length, hl, show (((2 * n : Nat) : Int) / 2) = (n : Int) by omega]
    exact q
end
end Pc
namespace Pc
/-! ### ways along a sheet and a pairing -/
/-- nodup numbers below n are n at most -/
theorem few_below : ∀ (n : Nat) (l : List Nat), l.Nodup → (∀ x ∈ l, x < n) → l.length ≤ n
  | 0, l, _, h => by
    cases l with
    | nil => exact Nat.le_refl _
    | cons a r => exact absurd (h a List.mem_cons_self) (Nat.not_lt_zero _)
  | n + 1, l, hd, h => by
    by_cases hm : n ∈ l
    · have h1 : (l.erase n).length = l.length - 1 := List.length_erase_of_mem hm
      have h2 := few_below n (l.erase n) (hd.erase n) (fun x hx => by
        have hx' := (hd.mem_erase_iff).mp hx
        have := h x hx'.2
        have := hx'.1
        omega)
      omega
    · have h2 := few_below n l hd (fun x hx => by
        have := h x hx
        have : x ≠ n := fun e => hm (e ▸ hx)
        omega)
      omega
/-- a function on the first n + 1 numbers into the n first ones takes one value twice -/
theorem pigeon (n : Nat) (f : Nat → Nat) (h : ∀ i, i ≤ n → f i < n) : ∃ i j, i < j ∧ j ≤ n ∧ f i = f j := by
  apply Classical.byContradiction
  intro hn
  have hd : ((List.range (n + 1)).map f).Nodup := by
    rw [List.nodup_iff_pairwise_ne, List.pairwise_map]
    refine List.Pairwise.imp_of_mem ?_ List.pairwise_lt_range
    intro a b ha hb hab e
    exact hn ⟨a, b, hab, by have := List.mem_range.mp hb; omega, e⟩
  have := few_below n _ hd (fun x hx => by
    obtain ⟨i, hi, rfl⟩ := List.mem_map.mp hx
    exact h i (by have := List.mem_range.mp hi; omega))
  rw [List.length_map, List.length_range] at this
  omega
section
variable (fs ps : List Nat) (n : Nat)
/-- the whole way from an end: along the join, along the couple, and so on until a lower end -/
inductive Trail : Nat → List Nat → Prop
  | stop {z : Nat} : n ≤ fs.getD z 0 → Trail z [z, fs.getD z 0]
  | go {z : Nat} {l : List Nat} : fs.getD z 0 < n → Trail (ps.getD (fs.getD z 0) 0) l → Trail z (z :: fs.getD z 0 :: l)
/-- where the steps of a way begin -/
def hop (z : Nat) : Nat → Nat
  | 0 => z
  | k + 1 => ps.getD (fs.getD (hop z k) 0) 0
end
theorem IsPair.d {n : Nat} {ps : List Nat} (h : IsPair n ps) {x : Nat} (hx : x < n) : ps.getD x 0 < n ∧ ps.getD x 0 ≠ x ∧ ps.getD (ps.getD x 0) 0 = x ∧ ps[x]? = some (ps.getD x 0) := by
  obtain ⟨y, h1, h2, h3, h4⟩ := h.par x hx
  rw [getD_of h1]
  exact ⟨h2, h3, getD_of h4, h1⟩
theorem IsPair.inj {n : Nat} {ps : List Nat} (h : IsPair n ps) {x y : Nat} (hx : x < n) (hy : y < n) (e : ps.getD x 0 = ps.getD y 0) : x = y := by
  rw [← (h.d hx).2.2.1, ← (h.d hy).2.2.1, e]
theorem Trail.det {fs ps : List Nat} {n z : Nat} {l m : List Nat} (h : Trail fs ps n z l) : Trail fs ps n z m → l = m := by
  induction h generalizing m with
  | stop h1 => intro h; cases h with
    | stop _ => rfl
    | go h2 _ => omega
  | go h1 _ ih => intro h; cases h with
    | stop h2 => omega
    | go _ h3 => rw [ih h3]
theorem Trail.len {fs ps : List Nat} {n z : Nat} {l : List Nat} (h : Trail fs ps n z l) : 2 ≤ l.length ∧ l.length % 2 = 0 ∧ n ≤ l.getLastD 0 := by
  induction h with
  | stop h1 => exact ⟨Nat.le_refl _, by simp only [List.length_cons, List.length_nil], h1⟩
  | @go z l h1 _ ih =>
    refine ⟨by simp only [List.length_cons]; omega, by simp only [List.length_cons]; omega, ?_⟩
    cases l with
    | nil => exact absurd ih.1 (by decide)
    | cons a r => exact ih.2.2
theorem hop_step (fs ps : List Nat) (z k : Nat) : hop fs ps (ps.getD (fs.getD z 0) 0) k = hop fs ps z (k + 1) := by
  induction k with
  | zero => rfl
  | succ k ih => rw [hop, ih]; rfl
theorem trail_of {fs ps : List Nat} {n : Nat} : ∀ (m z : Nat), n ≤ fs.getD (hop fs ps z m) 0 → ∃ l, Trail fs ps n z l ∧ l.length ≤ 2 * m + 2
  | 0, z, h => ⟨_, .stop h, Nat.le_refl _⟩
  | m + 1, z, h => by
    by_cases c : fs.getD z 0 < n
    · obtain ⟨l, h1, h2⟩ := trail_of m (ps.getD (fs.getD z 0) 0) (by rw [hop_step]; exact h)
      exact ⟨_, .go c h1, by simp only [List.length_cons]; omega⟩
    · exact ⟨_, .stop (by omega), by simp only [List.length_cons, List.length_nil]; omega⟩
/-- every way from a lower end comes to a lower end -/
theorem trail_ex {fs ps : List Nat} {n : Nat} (hF : IsPair (2 * n) fs) (hP : IsPair n ps) {z : Nat} (hz : n ≤ z) (hz2 : z < 2 * n) : ∃ l, Trail fs ps n z l ∧ l.length ≤ 2 * n + 2 := by
  apply Classical.byContradiction
  intro hn
  have small : ∀ k, k ≤ n → fs.getD (hop fs ps z k) 0 < n := fun k hk => by
    apply Classical.byContradiction
    intro h
    obtain ⟨l, h1, h2⟩ := trail_of (fs := fs) (ps := ps) (n := n) k z (by omega)
    exact hn ⟨l, h1, by omega⟩
  have hl : ∀ k, k ≤ n → hop fs ps z k < 2 * n ∧ (0 < k → hop fs ps z k < n) := fun k hk => by
    cases k with
    | zero => exact ⟨hz2, fun h => absurd h (Nat.lt_irrefl _)⟩
    | succ k =>
      have := (hP.d (small k (by omega))).1
      exact ⟨by show ps.getD _ 0 < 2 * n; omega, fun _ => this⟩
  have diff : ∀ i j, i < j → j ≤ n → hop fs ps z i ≠ hop fs ps z j := fun i => by
    induction i with
    | zero =>
      intro j hj hn2 e
      have := (hl j hn2).2 hj
      have e' : z = hop fs ps z j := e
      omega
    | succ i ih =>
      intro j hj hn2 e
      cases j with
      | zero => omega
      | succ j =>
        have e1 : fs.getD (hop fs ps z i) 0 = fs.getD (hop fs ps z j) 0 := hP.inj (small i (by omega)) (small j (by omega)) e
        exact ih j (by omega) (by omega) (hF.inj (hl i (by omega)).1 (hl j (by omega)).1 e1)
  obtain ⟨i, j, h1, h2, h3⟩ := pigeon n (fun k => fs.getD (hop fs ps z k) 0) small
  exact diff i j h1 h2 (hF.inj (hl i (by omega)).1 (hl j h2).1 h3)
/-- the way of a lower end, and where it ends -/
noncomputable def trl (fs ps : List Nat) (n z : Nat) : List Nat := open Classical in if h : ∃ l, Trail fs ps n z l then h.choose else []
noncomputable def far (fs ps : List Nat) (n z : Nat) : Nat := (trl fs ps n z).getLastD 0
theorem Trail.eq {fs ps : List Nat} {n z : Nat} {l : List Nat} (h : Trail fs ps n z l) : trl fs ps n z = l := by
  unfold trl
  rw [dif_pos ⟨l, h⟩]
  exact (Exists.choose_spec (⟨l, h⟩ : ∃ l, Trail fs ps n z l)).det h
theorem trl_trail {fs ps : List Nat} {n : Nat} (hF : IsPair (2 * n) fs) (hP : IsPair n ps) {z : Nat} (hz : n ≤ z) (hz2 : z < 2 * n) : Trail fs ps n z (trl fs ps n z) ∧ (trl fs ps n z).length ≤ 2 * n + 2 := by
  obtain ⟨l, h1, h2⟩ := trail_ex hF hP hz hz2
  rw [h1.eq]; exact ⟨h1, h2⟩
/-- what is read -/
noncomputable def rd (fs ps : List Nat) (n : Nat) : List Nat := (List.range n).map fun x => far fs ps n (n + x) - n
end Pc
namespace Pc
theorem lastc {l : List Nat} (h : 2 ≤ l.length) (a b d : Nat) : (a :: b :: l).getLastD d = l.getLastD d := by
  cases l with
  | nil => exact absurd h (by decide)
  | cons x r => rfl
theorem Trail.last {fs ps : List Nat} {n z : Nat} {l : List Nat} (hF : IsPair (2 * n) fs) (hP : IsPair n ps) (h : Trail fs ps n z l) : z < 2 * n → l.getLastD 0 < 2 * n := by
  induction h with
  | @stop z h1 => intro hz; exact (hF.d hz).1
  | @go z l h1 h2 ih =>
    intro hz
    rw [lastc h2.len.1]
    have := (hP.d h1).1
    exact ih (by omega)
theorem Trail.rev {fs ps : List Nat} {n z : Nat} {l : List Nat} (hF : IsPair (2 * n) fs) (hP : IsPair n ps) (h : Trail fs ps n z l) : z < 2 * n → ∀ t : List Nat, (n ≤ z → t = []) → (z < n → Trail fs ps n (ps.getD z 0) t) → Trail fs ps n (l.getLastD 0) (l.reverse ++ t) := by
  have one : ∀ {z : Nat} {t : List Nat}, z < 2 * n → (n ≤ z → t = []) → (z < n → Trail fs ps n (ps.getD z 0) t) → Trail fs ps n (fs.getD z 0) (fs.getD z 0 :: z :: t) := fun {z t} hz h1 h2 => by
    have e := (hF.d hz).2.2.1
    by_cases c : z < n
    · have := Trail.go (fs := fs) (ps := ps) (n := n) (z := fs.getD z 0) (l := t) (by rw [e]; exact c) (by rw [e]; exact h2 c)
      rw [e] at this; exact this
    · rw [h1 (by omega)]
      have := Trail.stop (fs := fs) (ps := ps) (n := n) (z := fs.getD z 0) (by rw [e]; omega)
      rw [e] at this; exact this
  induction h with
  | @stop z h1 => intro hz t a b; exact one hz a b
  | @go z l h1 h2 ih =>
    intro hz t a b
    have hz' := hP.d h1
    rw [lastc h2.len.1]
    have := ih (by omega) (fs.getD z 0 :: z :: t) (fun x => by omega) (fun _ => by rw [hz'.2.2.1]; exact one hz a b)
    simp only [List.reverse_cons, List.append_assoc, List.cons_append, List.nil_append]
    exact this
theorem Trail.back {fs ps : List Nat} {n z : Nat} {l : List Nat} (hF : IsPair (2 * n) fs) (hP : IsPair n ps) (h : Trail fs ps n z l) (hz : n ≤ z) (hz2 : z < 2 * n) : Trail fs ps n (l.getLastD 0) l.reverse := by
  have := h.rev hF hP hz2 [] (fun _ => rfl) (fun h => by omega)
  rw [List.append_nil] at this; exact this
theorem Trail.head {fs ps : List Nat} {n z : Nat} {l : List Nat} (h : Trail fs ps n z l) : l[0]? = some z := by
  cases h <;> rfl
theorem Trail.adj {fs ps : List Nat} {n z : Nat} {l : List Nat} (hF : IsPair (2 * n) fs) (hP : IsPair n ps) (h : Trail fs ps n z l) : z < 2 * n → ∀ i x, l[i]? = some x → l[i + 1]? ≠ some x := by
  induction h with
  | @stop z h1 =>
    intro hz i x h1 h2
    have hi : i + 1 < 2 := get_lt h2
    have : i = 0 := by omega
    subst this
    have e1 : z = x := Option.some.inj h1
    have e2 : fs.getD z 0 = x := Option.some.inj h2
    exact (hF.d hz).2.1 (e2.trans e1.symm)
  | @go z l h1 h2 ih =>
    intro hz i x g1 g2
    have hz' := hP.d h1
    cases i with
    | zero =>
      have e1 : z = x := Option.some.inj g1
      have e2 : fs.getD z 0 = x := Option.some.inj g2
      exact (hF.d hz).2.1 (e2.trans e1.symm)
    | succ i =>
      cases i with
      | zero =>
        have e1 : fs.getD z 0 = x := Option.some.inj g1
        have e2 : some (ps.getD (fs.getD z 0) 0) = some x := h2.head.symm.trans g2
        exact hz'.2.1 ((Option.some.inj e2).trans e1.symm)
      | succ i => exact ih (by omega) i x g1 g2
theorem last_get {l : List Nat} (h : 0 < l.length) : l[l.length - 1]? = some (l.getLastD 0) := by
  cases l with
  | nil => exact absurd h (by decide)
  | cons a r => rw [← List.getLast?_eq_getElem?, List.getLast?_eq_some_getLast (List.cons_ne_nil a r), List.getLastD_cons, ← List.getLast_eq_getLastD (h := List.cons_ne_nil a r)]
theorem far_is {fs ps : List Nat} {n z : Nat} {l : List Nat} (h : Trail fs ps n z l) : far fs ps n z = l.getLastD 0 := by
  unfold far; rw [h.eq]
theorem far_d {fs ps : List Nat} {n : Nat} (hF : IsPair (2 * n) fs) (hP : IsPair n ps) {z : Nat} (hz : n ≤ z) (hz2 : z < 2 * n) : n ≤ far fs ps n z ∧ far fs ps n z < 2 * n ∧ far fs ps n (far fs ps n z) = z ∧ far fs ps n z ≠ z := by
  obtain ⟨l, h1, _⟩ := trail_ex hF hP hz hz2
  have hb := h1.back hF hP hz hz2
  have hl := h1.len
  have e := far_is h1
  have e2 := far_is hb
  rw [e, e2]
  refine ⟨hl.2.2, h1.last hF hP hz2, ?_, fun c => ?_⟩
  · have g := last_get (l := l.reverse) (by rw [List.length_reverse]; omega)
    rw [List.length_reverse, List.getElem?_reverse (by omega), show l.length - 1 - (l.length - 1) = 0 by omega, h1.head] at g
    exact (Option.some.inj g).symm
  · rw [c] at hb
    have e3 : l = l.reverse := h1.det hb
    obtain ⟨k, hk⟩ : ∃ k, l.length = 2 * k := ⟨l.length / 2, by omega⟩
    have g1 : l[k - 1]? = l[k]? := by
      have g : l[k - 1]? = l.reverse[k - 1]? := congrArg (fun (m : List Nat) => m[k - 1]?) e3
      rw [List.getElem?_reverse (by omega), show l.length - 1 - (k - 1) = k by omega] at g
      exact g
    have lt : k - 1 < l.length := by omega
    exact h1.adj hF hP hz2 (k - 1) l[k - 1] (List.getElem?_eq_getElem lt) (by rw [show k - 1 + 1 = k by omega, ← g1]; exact List.getElem?_eq_getElem lt)
theorem rd_len (fs ps : List Nat) (n : Nat) : (rd fs ps n).length = n := by unfold rd; rw [List.length_map, List.length_range]
theorem rd_get (fs ps : List Nat) {n x : Nat} (h : x < n) : (rd fs ps n)[x]? = some (far fs ps n (n + x) - n) := by
  unfold rd; rw [List.getElem?_map, List.getElem?_range h]; rfl
theorem rd_pair {fs ps : List Nat} {n : Nat} (hF : IsPair (2 * n) fs) (hP : IsPair n ps) : IsPair n (rd fs ps n) := by
  refine ⟨rd_len _ _ _, fun x hx => ?_⟩
  obtain ⟨h1, h2, h3, h4⟩ := far_d hF hP (z := n + x) (by omega) (by omega)
  refine ⟨_, rd_get fs ps hx, by omega, by omega, ?_⟩
  rw [rd_get fs ps (by omega), show n + (far fs ps n (n + x) - n) = far fs ps n (n + x) by omega, h3, show n + x - n = x by omega]
/-- a sheet that differs only at four ends -/
structure Near (fs gs : List Nat) (n A B c d : Nat) : Prop where
  la : n ≤ A
  lb : n ≤ B
  ab : A ≠ B
  fc : fs.getD c 0 = A
  un : ∀ z, fs.getD z 0 = A → z = c
  fd : fs.getD d 0 = B
  fb : fs.getD B 0 = d
  gc : gs.getD c 0 = d
  eq : ∀ z, z ≠ A → z ≠ B → z ≠ c → z ≠ d → gs.getD z 0 = fs.getD z 0
theorem Trail.near {fs gs ps : List Nat} {n A B c d z : Nat} {l : List Nat} (hP : IsPair n ps) (N : Near fs gs n A B c d) (h : Trail fs ps n z l) : z ≠ A → z ≠ B → l.getLastD 0 ≠ A → l.getLastD 0 ≠ B → Trail gs ps n z l := by
  have la := N.la
  have lb := N.lb
  induction h with
  | @stop z h1 =>
    intro hA hB eA eB
    have e : gs.getD z 0 = fs.getD z 0 := N.eq z hA hB (fun e => eA (by rw [e]; exact N.fc)) (fun e => eB (by rw [e]; exact N.fd))
    rw [← e]; exact .stop (by rw [e]; exact h1)
  | @go z l h1 h2 ih =>
    intro hA hB eA eB
    rw [lastc h2.len.1] at eA eB
    have e : gs.getD z 0 = fs.getD z 0 := N.eq z hA hB (fun e => by rw [e, N.fc] at h1; omega) (fun e => by rw [e, N.fd] at h1; omega)
    have hz' := (hP.d h1).1
    have t := ih (by omega) (by omega) eA eB
    rw [← e] at h1 t ⊢
    exact .go h1 t
theorem Trail.over {fs gs ps : List Nat} {n A B c d z : Nat} {l m : List Nat} (hP : IsPair n ps) (N : Near fs gs n A B c d) (hm : Trail fs ps n B m) (mA : m.getLastD 0 ≠ A) (mB : m.getLastD 0 ≠ B) (h : Trail fs ps n z l) : z ≠ A → z ≠ B → l.getLastD 0 = A → ∃ k, Trail gs ps n z k ∧ k.getLastD 0 = m.getLastD 0 := by
  have la := N.la
  have lb := N.lb
  have fb := N.fb
  induction h with
  | @stop z h1 =>
    intro hA hB eA
    by_cases zc : z = c
    · subst zc
      cases hm with
      | stop h => 
        refine ⟨_, .stop (by rw [N.gc, ← fb]; exact h), ?_⟩
        rw [N.gc, ← fb]; rfl
      | @go _ m h h2 =>
        rw [lastc h2.len.1] at mA mB ⊢
        rw [fb] at h h2
        have := hP.d h
        refine ⟨_, .go (by rw [N.gc]; exact h) (by rw [N.gc]; exact h2.near hP N (by omega) (by omega) mA mB), ?_⟩
        rw [lastc h2.len.1]
    · exact absurd (N.un z eA) zc
  | @go z l h1 h2 ih =>
    intro hA hB eA
    rw [lastc h2.len.1] at eA
    have e : gs.getD z 0 = fs.getD z 0 := N.eq z hA hB (fun e => by rw [e, N.fc] at h1; omega) (fun e => by rw [e, N.fd] at h1; omega)
    have hz' := (hP.d h1).1
    obtain ⟨k, t1, t2⟩ := ih (by omega) (by omega) eA
    rw [← e] at h1 t1
    refine ⟨_, .go h1 t1, ?_⟩
    rw [lastc t1.len.1]; exact t2

theorem jn_near {fs : List Nat} {n A B : Nat} (hF : IsPair (2 * n) fs) (hA : n ≤ A) (hB : n ≤ B) (hA2 : A < 2 * n) (hB2 : B < 2 * n) (hab : A ≠ B) (hc : fs.getD A 0 ≠ B) : Near fs (jn fs A B) n A B (fs.getD A 0) (fs.getD B 0) ∧ Near fs (jn fs A B) n B A (fs.getD B 0) (fs.getD A 0) ∧ (jn fs A B).getD A 0 = B ∧ (jn fs A B).getD B 0 = A := by
  obtain ⟨a1, a2, a3, a4⟩ := hF.d hA2
  obtain ⟨b1, b2, b3, b4⟩ := hF.d hB2
  have G := jn_get hF hab a4 b4 hc
  obtain ⟨x1, x2, x3, x4, _⟩ := four hF hab a4 b4 hc
  have D : ∀ z, (jn fs A B).getD z 0 = ((jn fs A B)[z]?).getD 0 := fun z => List.getD_eq_getElem?_getD
  have un : ∀ {X : Nat}, n ≤ X → X < 2 * n → ∀ z, fs.getD z 0 = X → z = fs.getD X 0 := fun {X} h1 h2 z e => by
    by_cases hz : z < 2 * n
    · rw [← e, (hF.d hz).2.2.1]
    · rw [List.getD_eq_getElem?_getD, List.getElem?_eq_none (by rw [hF.len]; omega)] at e
      have e' : 0 = X := e
      omega
  have E : ∀ z, z ≠ A → z ≠ B → z ≠ fs.getD A 0 → z ≠ fs.getD B 0 → (jn fs A B).getD z 0 = fs.getD z 0 := fun z h1 h2 h3 h4 => by
    rw [D, G, if_neg h1, if_neg h2, if_neg h3, if_neg h4, ← List.getD_eq_getElem?_getD]
  refine ⟨⟨hA, hB, hab, a3, un hA hA2, b3, rfl, ?_, E⟩, ⟨hB, hA, hab.symm, b3, un hB hB2, a3, rfl, ?_, fun z h1 h2 h3 h4 => E z h2 h1 h4 h3⟩, ?_, ?_⟩
  · rw [D, G, if_neg x1, if_neg hc, if_pos rfl]; rfl
  · rw [D, G, if_neg x3, if_neg x2, if_neg (Ne.symm x4), if_pos rfl]; rfl
  · rw [D, G, if_pos rfl]; rfl
  · rw [D, G, if_neg hab.symm, if_pos rfl]; rfl
theorem IsPair.ofd {fs : List Nat} {n x y : Nat} (h : IsPair n fs) (hx : x < n) (e : fs.getD x 0 = y) : fs[x]? = some y := by
  rw [← e]; exact (h.d hx).2.2.2
/-- a call added to a sheet is a call behind what is read -/
theorem rd_jn {fs ps : List Nat} {n a b : Nat} (hF : IsPair (2 * n) fs) (hP : IsPair n ps) (hab : a ≠ b) (ha : a < n) (hb : b < n) : rd (jn fs (n + a) (n + b)) ps n = jn (rd fs ps n) a b := by
  have hR := rd_pair hF hP
  by_cases hc : fs.getD (n + a) 0 = n + b
  · rw [jn_same (hF.ofd (by omega) hc)]
    have t : Trail fs ps n (n + a) [n + a, n + b] := by
      have := Trail.stop (fs := fs) (ps := ps) (n := n) (z := n + a) (by rw [hc]; omega)
      rw [hc] at this; exact this
    refine (jn_same ?_).symm
    rw [rd_get fs ps ha, far_is t]
    show some (n + b - n) = some b
    rw [Nat.add_sub_cancel_left]
  · obtain ⟨N1, N2, gA, gB⟩ := jn_near hF (A := n + a) (B := n + b) (by omega) (by omega) (by omega) (by omega) (by omega) hc
    have hF' : IsPair (2 * n) (jn fs (n + a) (n + b)) := jn_pair hF (by omega) (by omega) (by omega)
    have fA := far_d hF hP (z := n + a) (by omega) (by omega)
    have fB := far_d hF hP (z := n + b) (by omega) (by omega)
    have tA : Trail (jn fs (n + a) (n + b)) ps n (n + a) [n + a, n + b] := by
      have := Trail.stop (fs := jn fs (n + a) (n + b)) (ps := ps) (n := n) (z := n + a) (by rw [gA]; omega)
      rw [gA] at this; exact this
    have tB : Trail (jn fs (n + a) (n + b)) ps n (n + b) [n + b, n + a] := by
      have := Trail.stop (fs := jn fs (n + a) (n + b)) (ps := ps) (n := n) (z := n + b) (by rw [gB]; omega)
      rw [gB] at this; exact this
    obtain ⟨lA, hlA, _⟩ := trail_ex hF hP (z := n + a) (by omega) (by omega)
    obtain ⟨lB, hlB, _⟩ := trail_ex hF hP (z := n + b) (by omega) (by omega)
    have eA := far_is hlA
    have eB := far_is hlB
    have ga := rd_get fs ps ha
    have gb := rd_get fs ps hb
    refine List.ext_getElem? fun x => ?_
    by_cases hx : x < n
    · rw [rd_get _ ps hx]
      have fX := far_d hF hP (z := n + x) (by omega) (by omega)
      obtain ⟨lX, hlX, _⟩ := trail_ex hF hP (z := n + x) (by omega) (by omega)
      have eX := far_is hlX
      by_cases xa : x = a
      · subst xa
        rw [far_is tA, show [n + x, n + b].getLastD 0 - n = b by show n + b - n = b; omega]
        by_cases c : far fs ps n (n + x) - n = b
        · rw [jn_same (by rw [rd_get fs ps hx, c]), rd_get fs ps hx, c]
        · rw [jn_get hR hab ga gb c, if_pos rfl]
      · by_cases xb : x = b
        · subst xb
          rw [far_is tB, show [n + x, n + a].getLastD 0 - n = a by show n + a - n = a; omega]
          by_cases c : far fs ps n (n + a) - n = x
          · rw [jn_same (by rw [rd_get fs ps ha, c]), rd_get fs ps hx, show n + x = far fs ps n (n + a) by omega, fA.2.2.1, Nat.add_sub_cancel_left]
          · rw [jn_get hR hab ga gb c, if_neg (Ne.symm hab), if_pos rfl]
        · by_cases yA : far fs ps n (n + x) = n + a
          · -- the way of x came to a
            have e1 : far fs ps n (n + a) = n + x := by rw [← yA]; exact fX.2.2.1
            have e2 : far fs ps n (n + b) ≠ n + a := fun z => by
              have := fB.2.2.1
              rw [z, e1] at this; omega
            obtain ⟨k, k1, k2⟩ := Trail.over hP N1 hlB (by rw [← eB]; exact e2) (by rw [← eB]; exact fB.2.2.2) hlX (by omega) (by omega) (by rw [← eX]; exact yA)
            rw [far_is k1, k2, ← eB, jn_get hR hab ga gb (by omega), if_neg xa, if_neg xb, if_pos (by omega)]
          · by_cases yB : far fs ps n (n + x) = n + b
            · have e1 : far fs ps n (n + b) = n + x := by rw [← yB]; exact fX.2.2.1
              have e2 : far fs ps n (n + a) ≠ n + b := fun z => by
                have := fA.2.2.1
                rw [z, e1] at this; omega
              obtain ⟨k, k1, k2⟩ := Trail.over hP N2 hlA (by rw [← eA]; exact e2) (by rw [← eA]; exact fA.2.2.2) hlX (by omega) (by omega) (by rw [← eX]; exact yB)
              have e3 : far fs ps n (n + a) ≠ n + x := fun z => by
                have := fA.2.2.1
                rw [z, yB] at this; omega
              rw [far_is k1, k2, ← eA, jn_get hR hab ga gb (by omega), if_neg xa, if_neg xb, if_neg (by omega), if_pos (by omega)]
            · have t := hlX.near hP N1 (by omega) (by omega) (by rw [← eX]; exact yA) (by rw [← eX]; exact yB)
              rw [far_is t, ← eX, ← rd_get fs ps hx]
              by_cases c : far fs ps n (n + a) - n = b
              · rw [jn_same (by rw [rd_get fs ps ha, c])]
              · have e1 : far fs ps n (n + a) ≠ n + x := fun z => by
                  have := fA.2.2.1
                  rw [z] at this; exact yA this
                have e2 : far fs ps n (n + b) ≠ n + x := fun z => by
                  have := fB.2.2.1
                  rw [z] at this; exact yB this
                rw [jn_get hR hab ga gb c, if_neg xa, if_neg xb, if_neg (by omega), if_neg (by omega)]
    · rw [List.getElem?_eq_none (by rw [rd_len]; omega), List.getElem?_eq_none (by rw [jn_len, rd_len]; omega)]
end Pc
namespace Pc
theorem rd_emp {ps : List Nat} {n : Nat} (hn : 0 < n) (hP : IsPair n ps) : rd (emp n) ps n = ps := by
  refine List.ext_getElem? fun x => ?_
  by_cases hx : x < n
  · obtain ⟨h1, _, _, h4⟩ := hP.d hx
    have e1 : (emp n).getD (n + x) 0 = x := getD_of (emp_hi hx)
    have e2 : (emp n).getD (ps.getD x 0) 0 = n + ps.getD x 0 := getD_of (emp_lo h1)
    have t2 := Trail.stop (fs := emp n) (ps := ps) (n := n) (z := ps.getD x 0) (by rw [e2]; omega)
    have t := Trail.go (fs := emp n) (ps := ps) (n := n) (z := n + x) (by rw [e1]; exact hx) (by rw [e1]; exact t2)
    rw [rd_get _ ps hx, far_is t, h4]
    show some ((emp n).getD (ps.getD x 0) 0 - n) = _
    rw [e2, Nat.add_sub_cancel_left]
  · rw [List.getElem?_eq_none (by rw [rd_len]; omega), List.getElem?_eq_none (by rw [hP.len]; omega)]
theorem rd_runs {n : Nat} {ps : List Nat} (hP : IsPair n ps) : ∀ (qs : List (Nat × Nat)) {fs : List Nat}, IsPair (2 * n) fs → Calls n qs → rd (shw n qs fs) ps n = runs qs (rd fs ps n)
  | [], _, _, _ => rfl
  | q :: r, fs, hF, hc => by
    have h1 := hc q List.mem_cons_self
    have h2 := rd_runs hP r (jn_pair hF (a := n + q.1) (b := n + q.2) (by omega) (by omega) (by omega)) (fun x hx => hc x (List.mem_cons_of_mem _ hx))
    rw [rd_jn hF hP (by omega) (by omega) h1.2] at h2
    exact h2
/-- guarantee (a) -/
theorem rd_word {n : Nat} {ps : List Nat} {qs : List (Nat × Nat)} (hn : 0 < n) (hP : IsPair n ps) (hc : Calls n qs) : rd (shw n qs (emp n)) ps n = runs qs ps := by
  rw [rd_runs hP qs (emp_pair hn) hc, rd_emp hn hP]
end Pc
namespace Pc
/-! ### walks along layers: a layer of m upper and n lower ends joins them in pairs -/
section
variable {S Y : Type} (step : S → S ⊕ Y)
inductive Ends : S → Y → Prop
  | stop {s : S} {y : Y} : step s = .inr y → Ends s y
  | go {s t : S} {y : Y} : step s = .inl t → Ends t y → Ends s y
/-- where a walk is after i steps -/
def itr (s : S) : Nat → S
  | 0 => s
  | i + 1 => match step (itr s i) with
    | .inl t => t
    | .inr _ => itr s i
end
theorem Ends.det {S Y : Type} {step : S → S ⊕ Y} {s : S} {x y : Y} (h : Ends step s x) : Ends step s y → x = y := by
  induction h with
  | stop h1 => intro h; cases h with
    | stop h2 => rw [h1] at h2; exact Sum.inr.inj h2
    | go h2 _ => rw [h1] at h2; cases h2
  | go h1 _ ih => intro h; cases h with
    | stop h2 => rw [h1] at h2; cases h2
    | go h2 h3 => rw [h1] at h2; cases h2; exact ih h3
theorem itr_step {S Y : Type} {step : S → S ⊕ Y} {s t : S} (h : step s = .inl t) : ∀ i, itr step t i = itr step s (i + 1)
  | 0 => by show t = (match step s with | .inl t => t | .inr _ => s); rw [h]
  | i + 1 => by
    show (match step (itr step t i) with | .inl t => t | .inr _ => itr step t i) = (match step (itr step s (i + 1)) with | .inl t => t | .inr _ => itr step s (i + 1))
    rw [itr_step h i]
theorem itr_succ {S Y : Type} {step : S → S ⊕ Y} {s t : S} {i : Nat} (h : step (itr step s i) = .inl t) : itr step s (i + 1) = t := by
  show (match step (itr step s i) with | .inl t => t | .inr _ => itr step s i) = t
  rw [h]
theorem Ends.nth {S Y : Type} {step : S → S ⊕ Y} {s : S} {y : Y} (h : Ends step s y) : ∃ m, (∀ i, i < m → step (itr step s i) = .inl (itr step s (i + 1))) ∧ step (itr step s m) = .inr y := by
  induction h with
  | stop h => exact ⟨0, fun i hi => absurd hi (Nat.not_lt_zero _), h⟩
  | go h _ ih =>
    obtain ⟨m, h1, h2⟩ := ih
    refine ⟨m + 1, fun i hi => ?_, by rw [← itr_step h]; exact h2⟩
    cases i with
    | zero => rw [← itr_step h 0]; exact h
    | succ i =>
      have := h1 i (by omega)
      rw [itr_step h, itr_step h] at this; exact this
theorem ends_of {S Y : Type} {step : S → S ⊕ Y} : ∀ (m : Nat) (s : S) (y : Y), step (itr step s m) = .inr y → ∃ z, Ends step s z
  | 0, s, y, h => ⟨y, .stop h⟩
  | m + 1, s, y, h => by
    cases e : step s with
    | inr z => exact ⟨z, .stop e⟩
    | inl t =>
      obtain ⟨z, hz⟩ := ends_of m t y (by rw [itr_step e]; exact h)
      exact ⟨z, .go e hz⟩
/-- the step of a walk along a layer f, of m and n ends, and a layer g behind it -/
def cstep (f g : List Nat) (m n : Nat) : Bool × Nat → (Bool × Nat) ⊕ Nat
  | (true, z) => if f.getD z 0 < m then .inr (f.getD z 0) else .inl (false, f.getD z 0 - m)
  | (false, z) => if g.getD z 0 < n then .inl (true, m + g.getD z 0) else .inr (m + (g.getD z 0 - n))
def cst (m n e : Nat) : Bool × Nat := if e < m then (true, e) else (false, n + (e - m))
theorem cs_tl {f g : List Nat} {m n z : Nat} (h : f.getD z 0 < m) : cstep f g m n (true, z) = .inr (f.getD z 0) := if_pos h
theorem cs_tg {f g : List Nat} {m n z : Nat} (h : m ≤ f.getD z 0) : cstep f g m n (true, z) = .inl (false, f.getD z 0 - m) := if_neg (by omega)
theorem cs_fl {f g : List Nat} {m n z : Nat} (h : g.getD z 0 < n) : cstep f g m n (false, z) = .inl (true, m + g.getD z 0) := if_pos h
theorem cs_fg {f g : List Nat} {m n z : Nat} (h : n ≤ g.getD z 0) : cstep f g m n (false, z) = .inr (m + (g.getD z 0 - n)) := if_neg (by omega)
def opp (f g : List Nat) : Bool × Nat → Bool × Nat
  | (true, z) => (true, f.getD z 0)
  | (false, z) => (false, g.getD z 0)
/-- the states of a walk -/
def Val (m n k : Nat) : Bool × Nat → Prop
  | (true, z) => z < m + n
  | (false, z) => z < n + k
section
variable {f g : List Nat} {m n k : Nat} (hf : IsPair (m + n) f) (hg : IsPair (n + k) g)
include hf hg
theorem cs_val {s t : Bool × Nat} (hs : Val m n k s) (h : cstep f g m n s = .inl t) : Val m n k t ∧ (t = (true, t.2) ∧ m ≤ t.2 ∨ t = (false, t.2) ∧ t.2 < n) ∧ t.1 = !s.1 ∧ cstep f g m n (opp f g t) = .inl (opp f g s) := by
  obtain ⟨b, z⟩ := s
  cases b with
  | true =>
    have hz : z < m + n := hs
    by_cases c : f.getD z 0 < m
    · rw [cs_tl c] at h; cases h
    · rw [cs_tg (by omega)] at h
      cases h
      have := hf.d hz
      have hx : f.getD z 0 - m < n + k := by omega
      have gx := hg.d hx
      refine ⟨hx, .inr ⟨rfl, by show f.getD z 0 - m < n; omega⟩, rfl, ?_⟩
      show cstep f g m n (false, g.getD (f.getD z 0 - m) 0) = .inl (true, f.getD z 0)
      rw [cs_fl (by rw [gx.2.2.1]; omega), gx.2.2.1, show m + (f.getD z 0 - m) = f.getD z 0 by omega]
  | false =>
    have hz : z < n + k := hs
    by_cases c : g.getD z 0 < n
    · rw [cs_fl c] at h
      cases h
      have hx : m + g.getD z 0 < m + n := by omega
      have fx := hf.d hx
      refine ⟨hx, .inl ⟨rfl, by show m ≤ m + g.getD z 0; omega⟩, rfl, ?_⟩
      show cstep f g m n (true, f.getD (m + g.getD z 0) 0) = .inl (false, g.getD z 0)
      rw [cs_tg (by rw [fx.2.2.1]; omega), fx.2.2.1, show m + g.getD z 0 - m = g.getD z 0 by omega]
    · rw [cs_fg (by omega)] at h; cases h
theorem opp_opp {s : Bool × Nat} (hs : Val m n k s) : opp f g (opp f g s) = s ∧ opp f g s ≠ s ∧ (opp f g s).1 = s.1 ∧ Val m n k (opp f g s) := by
  obtain ⟨b, z⟩ := s
  cases b with
  | true =>
    have := hf.d (show z < m + n from hs)
    exact ⟨by show (true, f.getD (f.getD z 0) 0) = (true, z); rw [this.2.2.1], fun e => this.2.1 (congrArg Prod.snd e), rfl, this.1⟩
  | false =>
    have := hg.d (show z < n + k from hs)
    exact ⟨by show (false, g.getD (g.getD z 0) 0) = (false, z); rw [this.2.2.1], fun e => this.2.1 (congrArg Prod.snd e), rfl, this.1⟩
theorem cs_inj {s t u : Bool × Nat} (hs : Val m n k s) (ht : Val m n k t) (h1 : cstep f g m n s = .inl u) (h2 : cstep f g m n t = .inl u) : s = t := by
  have a := (cs_val hf hg hs h1).2.2.2
  have b := (cs_val hf hg ht h2).2.2.2
  rw [a] at b
  have e : opp f g s = opp f g t := Sum.inl.inj b
  rw [← (opp_opp hf hg hs).1, e, (opp_opp hf hg ht).1]
theorem cs_end {s : Bool × Nat} {y : Nat} (hs : Val m n k s) (h : cstep f g m n s = .inr y) : cst m n y = opp f g s ∧ y < m + k := by
  obtain ⟨b, z⟩ := s
  cases b with
  | true =>
    by_cases c : f.getD z 0 < m
    · rw [cs_tl c] at h; cases h
      refine ⟨?_, by omega⟩
      unfold cst; rw [if_pos c]; rfl
    · rw [cs_tg (by omega)] at h; cases h
  | false =>
    have := hg.d (show z < n + k from hs)
    by_cases c : g.getD z 0 < n
    · rw [cs_fl c] at h; cases h
    · rw [cs_fg (by omega)] at h; cases h
      refine ⟨?_, by omega⟩
      unfold cst; rw [if_neg (by omega), show n + (m + (g.getD z 0 - n) - m) = g.getD z 0 by omega]; rfl
theorem cst_val {e : Nat} (he : e < m + k) : Val m n k (cst m n e) ∧ cstep f g m n (opp f g (cst m n e)) = .inr e := by
  unfold cst
  by_cases c : e < m
  · rw [if_pos c]
    have := hf.d (show e < m + n by omega)
    refine ⟨show e < m + n by omega, ?_⟩
    show cstep f g m n (true, f.getD e 0) = .inr e
    rw [cs_tl (by rw [this.2.2.1]; exact c), this.2.2.1]
  · rw [if_neg c]
    have := hg.d (show n + (e - m) < n + k by omega)
    refine ⟨show n + (e - m) < n + k by omega, ?_⟩
    show cstep f g m n (false, g.getD (n + (e - m)) 0) = .inr e
    rw [cs_fg (by rw [this.2.2.1]; omega), this.2.2.1, show m + (n + (e - m) - n) = e by omega]
theorem cs_out {e : Nat} (he : e < m + k) {s : Bool × Nat} (hs : Val m n k s) : cstep f g m n s ≠ .inl (cst m n e) := fun h => by
  have h1 := (cs_val hf hg hs h).2.2.2
  rw [(cst_val hf hg he).2] at h1
  cases h1
theorem walk_ends {e : Nat} (he : e < m + k) : ∃ y, Ends (cstep f g m n) (cst m n e) y := by
  apply Classical.byContradiction
  intro hn
  have go : ∀ i, cstep f g m n (itr (cstep f g m n) (cst m n e) i) = .inl (itr (cstep f g m n) (cst m n e) (i + 1)) := fun i => by
    cases h : cstep f g m n (itr (cstep f g m n) (cst m n e) i) with
    | inr y => exact absurd (ends_of i _ y h) hn
    | inl t => rw [itr_succ h]
  have val : ∀ i, Val m n k (itr (cstep f g m n) (cst m n e) i) := fun i => by
    induction i with
    | zero => exact (cst_val hf hg he).1
    | succ i ih => exact (cs_val hf hg ih (go i)).1
  have diff : ∀ i j, i < j → itr (cstep f g m n) (cst m n e) i ≠ itr (cstep f g m n) (cst m n e) j := fun i => by
    induction i with
    | zero =>
      intro j hj h
      cases j with
      | zero => omega
      | succ j => exact cs_out hf hg he (val j) ((go j).trans (congrArg Sum.inl h.symm))
    | succ i ih =>
      intro j hj h
      cases j with
      | zero => omega
      | succ j => exact ih j (by omega) (cs_inj hf hg (val i) (val j) (go i) ((go j).trans (congrArg Sum.inl h.symm)))
  let code : Bool × Nat → Nat := fun s => if s.1 = true then s.2 - m else n + s.2
  obtain ⟨i, j, h1, h2, h3⟩ := pigeon (2 * n) (fun i => code (itr (cstep f g m n) (cst m n e) (i + 1))) (fun i _ => by
    have v := val (i + 1)
    have := (cs_val hf hg (val i) (go i)).2.1
    generalize itr (cstep f g m n) (cst m n e) (i + 1) = s at v this
    obtain ⟨b, z⟩ := s
    cases b with
    | true =>
      rcases this with h | h
      · have hv : z < m + n := v
        have hz : m ≤ z := h.2
        show (if true = true then z - m else n + z) < 2 * n
        rw [if_pos rfl]; omega
      · cases h.1
    | false =>
      rcases this with h | h
      · cases h.1
      · have hz : z < n := h.2
        show (if false = true then z - m else n + z) < 2 * n
        rw [if_neg Bool.false_ne_true]; omega)
  refine diff (i + 1) (j + 1) (by omega) ?_
  have v1 := (cs_val hf hg (val i) (go i)).2.1
  have v2 := (cs_val hf hg (val j) (go j)).2.1
  have w1 := val (i + 1)
  have w2 := val (j + 1)
  have h3' : code (itr (cstep f g m n) (cst m n e) (i + 1)) = code (itr (cstep f g m n) (cst m n e) (j + 1)) := h3
  clear h3 diff val go hn
  generalize itr (cstep f g m n) (cst m n e) (i + 1) = s at v1 h3' w1
  generalize itr (cstep f g m n) (cst m n e) (j + 1) = t at v2 h3' w2
  obtain ⟨b, z⟩ := s
  obtain ⟨b', z'⟩ := t
  have T : ∀ z, code (true, z) = z - m := fun z => if_pos rfl
  have F : ∀ z, code (false, z) = n + z := fun z => if_neg Bool.false_ne_true
  cases b <;> cases b'
  · rw [F, F] at h3'
    have : z = z' := by omega
    rw [this]
  · rw [F, T] at h3'
    rcases v2 with h | h
    · have : z' < m + n := w2
      have : m ≤ z' := h.2
      omega
    · cases h.1
  · rw [T, F] at h3'
    rcases v1 with h | h
    · have : z < m + n := w1
      have : m ≤ z := h.2
      omega
    · cases h.1
  · rw [T, T] at h3'
    rcases v1 with h | h
    · rcases v2 with h' | h'
      · have : m ≤ z := h.2
        have : m ≤ z' := h'.2
        have : z = z' := by omega
        rw [this]
      · cases h'.1
    · cases h.1
theorem ends_back {s : Bool × Nat} {y : Nat} (h : Ends (cstep f g m n) s y) : Val m n k s → y < m + k ∧ ∀ y0, Ends (cstep f g m n) (opp f g s) y0 → Ends (cstep f g m n) (cst m n y) y0 := by
  induction h with
  | stop h1 =>
    intro hs
    have := cs_end hf hg hs h1
    exact ⟨this.2, fun y0 h0 => by rw [this.1]; exact h0⟩
  | go h1 _ ih =>
    intro hs
    obtain ⟨v1, _, _, v2⟩ := cs_val hf hg hs h1
    obtain ⟨i1, i2⟩ := ih v1
    exact ⟨i1, fun y0 h0 => i2 y0 (.go v2 h0)⟩
theorem ends_inv {e y : Nat} (he : e < m + k) (h : Ends (cstep f g m n) (cst m n e) y) : y < m + k ∧ Ends (cstep f g m n) (cst m n y) e ∧ y ≠ e := by
  obtain ⟨v, o⟩ := cst_val hf hg he
  obtain ⟨h1, h2⟩ := ends_back hf hg h v
  refine ⟨h1, h2 e (.stop o), fun c => ?_⟩
  subst c
  obtain ⟨t, g1, g2⟩ := h.nth
  have val : ∀ i, i ≤ t → Val m n k (itr (cstep f g m n) (cst m n y) i) := fun i => by
    induction i with
    | zero => exact fun _ => v
    | succ i ih => exact fun hi => (cs_val hf hg (ih (by omega)) (g1 i (by omega))).1
  have mir : ∀ j, j ≤ t → opp f g (itr (cstep f g m n) (cst m n y) (t - j)) = itr (cstep f g m n) (cst m n y) j := fun j => by
    induction j with
    | zero => intro _; exact (cs_end hf hg (val t (Nat.le_refl _)) g2).1.symm
    | succ j ih =>
      intro hj
      have a1 := ih (by omega)
      have a2 := g1 (t - (j + 1)) (by omega)
      rw [show t - (j + 1) + 1 = t - j by omega] at a2
      have a3 := (cs_val hf hg (val _ (by omega)) a2).2.2.2
      rw [a1, g1 j (by omega)] at a3
      exact (Sum.inl.inj a3).symm
  by_cases p : t % 2 = 0
  · have := mir (t / 2) (by omega)
    rw [show t - t / 2 = t / 2 by omega] at this
    exact (opp_opp hf hg (val (t / 2) (by omega))).2.1 this
  · have a := mir (t / 2) (by omega)
    rw [show t - t / 2 = t / 2 + 1 by omega] at a
    have b := (opp_opp hf hg (val (t / 2 + 1) (by omega))).2.2.1
    have c := (cs_val hf hg (val (t / 2) (by omega)) (g1 (t / 2) (by omega))).2.2.1
    rw [a] at b
    rw [← b] at c
    exact absurd c (by cases (itr (cstep f g m n) (cst m n y) (t / 2)).1 <;> decide)
end
/-- two layers one behind the other -/
noncomputable def cfar (f g : List Nat) (m n e : Nat) : Nat := open Classical in if h : ∃ y, Ends (cstep f g m n) (cst m n e) y then h.choose else 0
noncomputable def cmp (f g : List Nat) (m n k : Nat) : List Nat := (List.range (m + k)).map fun e => cfar f g m n e
theorem cfar_is {f g : List Nat} {m n e y : Nat} (h : Ends (cstep f g m n) (cst m n e) y) : cfar f g m n e = y := by
  unfold cfar
  rw [dif_pos ⟨y, h⟩]
  exact (Exists.choose_spec (⟨y, h⟩ : ∃ y, Ends (cstep f g m n) (cst m n e) y)).det h
theorem cmp_len (f g : List Nat) (m n k : Nat) : (cmp f g m n k).length = m + k := by unfold cmp; rw [List.length_map, List.length_range]
theorem cmp_get (f g : List Nat) {m n k e : Nat} (h : e < m + k) : (cmp f g m n k)[e]? = some (cfar f g m n e) := by unfold cmp; rw [List.getElem?_map, List.getElem?_range h]; rfl
theorem cmp_d (f g : List Nat) {m n k e : Nat} (h : e < m + k) : (cmp f g m n k).getD e 0 = cfar f g m n e := by
  rw [List.getD_eq_getElem?_getD, cmp_get f g h]; rfl
theorem cmp_ends {f g : List Nat} {m n k e : Nat} (hf : IsPair (m + n) f) (hg : IsPair (n + k) g) (he : e < m + k) : Ends (cstep f g m n) (cst m n e) ((cmp f g m n k).getD e 0) := by
  obtain ⟨y, h⟩ := walk_ends hf hg he
  rw [cmp_d f g he, cfar_is h]; exact h
theorem cmp_pair {f g : List Nat} {m n k : Nat} (hf : IsPair (m + n) f) (hg : IsPair (n + k) g) : IsPair (m + k) (cmp f g m n k) := by
  refine ⟨cmp_len .., fun e he => ?_⟩
  obtain ⟨y, h⟩ := walk_ends hf hg he
  obtain ⟨h1, h2, h3⟩ := ends_inv hf hg he h
  exact ⟨y, by rw [cmp_get f g he, cfar_is h], h1, h3, by rw [cmp_get f g h1, cfar_is h2]⟩
theorem cmp_ext {f g x : List Nat} {m n k : Nat} (hx : x.length = m + k) (h : ∀ e, e < m + k → Ends (cstep f g m n) (cst m n e) (x.getD e 0)) : cmp f g m n k = x := by
  refine List.ext_getElem? fun e => ?_
  by_cases he : e < m + k
  · rw [cmp_get f g he, cfar_is (h e he), List.getD_eq_getElem?_getD, List.getElem?_eq_getElem (by omega)]; rfl
  · rw [List.getElem?_eq_none (by rw [cmp_len]; omega), List.getElem?_eq_none (by omega)]
end Pc
namespace Pc
/-! ### three layers -/
def step3 (f g h : List Nat) (m n k : Nat) : Nat × Nat → (Nat × Nat) ⊕ Nat
  | (0, z) => if f.getD z 0 < m then .inr (f.getD z 0) else .inl (1, f.getD z 0 - m)
  | (1, z) => if g.getD z 0 < n then .inl (0, m + g.getD z 0) else .inl (2, g.getD z 0 - n)
  | (_, z) => if h.getD z 0 < k then .inl (1, n + h.getD z 0) else .inr (m + (h.getD z 0 - k))
section
variable {f g h : List Nat} {m n k l : Nat}
/-- the first two -/
def em1 : Bool × Nat → Nat × Nat
  | (true, z) => (0, z)
  | (false, z) => (1, z)
theorem first_two {s : Bool × Nat} {e : Nat} (w : Ends (cstep f g m n) s e) : (e < m → Ends (step3 f g h m n k) (em1 s) e) ∧ (m ≤ e → ∀ y, Ends (step3 f g h m n k) (2, e - m) y → Ends (step3 f g h m n k) (em1 s) y) := by
  induction w with
  | @stop s e h1 =>
    obtain ⟨b, z⟩ := s
    cases b with
    | true =>
      by_cases c : f.getD z 0 < m
      · rw [cs_tl c] at h1; cases h1
        exact ⟨fun _ => .stop (if_pos c), fun q => absurd c (by omega)⟩
      · rw [cs_tg (by omega)] at h1; cases h1
    | false =>
      by_cases c : g.getD z 0 < n
      · rw [cs_fl c] at h1; cases h1
      · rw [cs_fg (by omega)] at h1; cases h1
        refine ⟨fun q => by omega, fun _ y hy => .go (t := (2, g.getD z 0 - n)) (if_neg c) ?_⟩
        rw [show m + (g.getD z 0 - n) - m = g.getD z 0 - n by omega] at hy
        exact hy
  | @go s t e h1 _ ih =>
    have st : step3 f g h m n k (em1 s) = .inl (em1 t) := by
      obtain ⟨b, z⟩ := s
      cases b with
      | true =>
        by_cases c : f.getD z 0 < m
        · rw [cs_tl c] at h1; cases h1
        · rw [cs_tg (by omega)] at h1; cases h1
          exact if_neg c
      | false =>
        by_cases c : g.getD z 0 < n
        · rw [cs_fl c] at h1; cases h1
          exact if_pos c
        · rw [cs_fg (by omega)] at h1; cases h1
    exact ⟨fun q => .go st (ih.1 q), fun q y hy => .go st (ih.2 q y hy)⟩
/-- the last two -/
def em2 : Bool × Nat → Nat × Nat
  | (true, z) => (1, z)
  | (false, z) => (2, z)
theorem last_two {s : Bool × Nat} {e : Nat} (w : Ends (cstep g h n k) s e) : (n ≤ e → Ends (step3 f g h m n k) (em2 s) (m + (e - n))) ∧ (e < n → ∀ y, Ends (step3 f g h m n k) (0, m + e) y → Ends (step3 f g h m n k) (em2 s) y) := by
  induction w with
  | @stop s e h1 =>
    obtain ⟨b, z⟩ := s
    cases b with
    | true =>
      by_cases c : g.getD z 0 < n
      · rw [cs_tl c] at h1; cases h1
        exact ⟨fun q => absurd c (by omega), fun _ y hy => .go (t := (0, m + g.getD z 0)) (if_pos c) hy⟩
      · rw [cs_tg (by omega)] at h1; cases h1
    | false =>
      by_cases c : h.getD z 0 < k
      · rw [cs_fl c] at h1; cases h1
      · rw [cs_fg (by omega)] at h1; cases h1
        refine ⟨fun _ => .stop ?_, fun q => by omega⟩
        rw [show m + (n + (h.getD z 0 - k) - n) = m + (h.getD z 0 - k) by omega]
        exact if_neg c
  | @go s t e h1 _ ih =>
    have st : step3 f g h m n k (em2 s) = .inl (em2 t) := by
      obtain ⟨b, z⟩ := s
      cases b with
      | true =>
        by_cases c : g.getD z 0 < n
        · rw [cs_tl c] at h1; cases h1
        · rw [cs_tg (by omega)] at h1; cases h1
          exact if_neg c
      | false =>
        by_cases c : h.getD z 0 < k
        · rw [cs_fl c] at h1; cases h1
          exact if_pos c
        · rw [cs_fg (by omega)] at h1; cases h1
    exact ⟨fun q => .go st (ih.1 q), fun q y hy => .go st (ih.2 q y hy)⟩
def em3 (m n : Nat) : Bool × Nat → Nat × Nat
  | (true, z) => if z < m then (0, z) else (1, n + (z - m))
  | (false, z) => (2, z)
def em4 (n k : Nat) : Bool × Nat → Nat × Nat
  | (true, z) => (0, z)
  | (false, z) => if z < n then (1, z) else (2, k + (z - n))
theorem em3_cst (z : Nat) : em3 m n (true, z) = em1 (cst m n z) := by
  unfold cst
  by_cases c : z < m
  · rw [if_pos c]; exact if_pos c
  · rw [if_neg c]; exact if_neg c
theorem em4_cst (z : Nat) : em4 n k (false, z) = em2 (cst n k z) := by
  unfold cst
  by_cases c : z < n
  · rw [if_pos c]; exact if_pos c
  · rw [if_neg c]; exact if_neg c
theorem left_three (hf : IsPair (m + n) f) (hg : IsPair (n + k) g) (hh : IsPair (k + l) h) {s : Bool × Nat} {y : Nat} (w : Ends (cstep (cmp f g m n k) h m k) s y) : Val m k l s → Ends (step3 f g h m n k) (em3 m n s) y := by
  have hfg := cmp_pair hf hg
  induction w with
  | @stop s e h1 =>
    intro hs
    obtain ⟨b, z⟩ := s
    cases b with
    | true =>
      have W := first_two (h := h) (k := k) (cmp_ends hf hg (show z < m + k from hs))
      by_cases c : (cmp f g m n k).getD z 0 < m
      · rw [cs_tl c] at h1; cases h1
        rw [em3_cst]; exact W.1 c
      · rw [cs_tg (by omega)] at h1; cases h1
    | false =>
      by_cases c : h.getD z 0 < k
      · rw [cs_fl c] at h1; cases h1
      · rw [cs_fg (by omega)] at h1; cases h1
        exact .stop (if_neg c)
  | @go s t e h1 _ ih =>
    intro hs
    have ht := (cs_val hfg hh hs h1).1
    obtain ⟨b, z⟩ := s
    cases b with
    | true =>
      have W := first_two (h := h) (k := k) (cmp_ends hf hg (show z < m + k from hs))
      by_cases c : (cmp f g m n k).getD z 0 < m
      · rw [cs_tl c] at h1; cases h1
      · rw [cs_tg (by omega)] at h1; cases h1
        rw [em3_cst]; exact W.2 (by omega) _ (ih ht)
    | false =>
      by_cases c : h.getD z 0 < k
      · rw [cs_fl c] at h1; cases h1
        refine .go (t := (1, n + h.getD z 0)) (if_pos c) ?_
        have q := ih ht
        have e : em3 m n (true, m + h.getD z 0) = (1, n + h.getD z 0) := by
          show (if m + h.getD z 0 < m then _ else _) = _
          rw [if_neg (by omega), show m + h.getD z 0 - m = h.getD z 0 by omega]
        rw [e] at q; exact q
      · rw [cs_fg (by omega)] at h1; cases h1
theorem right_three (hf : IsPair (m + n) f) (hg : IsPair (n + k) g) (hh : IsPair (k + l) h) {s : Bool × Nat} {y : Nat} (w : Ends (cstep f (cmp g h n k l) m n) s y) : Val m n l s → Ends (step3 f g h m n k) (em4 n k s) y := by
  have hgh := cmp_pair hg hh
  induction w with
  | @stop s e h1 =>
    intro hs
    obtain ⟨b, z⟩ := s
    cases b with
    | true =>
      by_cases c : f.getD z 0 < m
      · rw [cs_tl c] at h1; cases h1
        exact .stop (if_pos c)
      · rw [cs_tg (by omega)] at h1; cases h1
    | false =>
      have W := last_two (f := f) (m := m) (cmp_ends hg hh (show z < n + l from hs))
      by_cases c : (cmp g h n k l).getD z 0 < n
      · rw [cs_fl c] at h1; cases h1
      · rw [cs_fg (by omega)] at h1; cases h1
        rw [em4_cst]; exact W.1 (by omega)
  | @go s t e h1 _ ih =>
    intro hs
    have ht := (cs_val hf hgh hs h1).1
    obtain ⟨b, z⟩ := s
    cases b with
    | true =>
      by_cases c : f.getD z 0 < m
      · rw [cs_tl c] at h1; cases h1
      · rw [cs_tg (by omega)] at h1; cases h1
        refine .go (t := (1, f.getD z 0 - m)) (if_neg c) ?_
        have q := ih ht
        have fz := hf.d (show z < m + n from hs)
        have e : em4 n k (false, f.getD z 0 - m) = (1, f.getD z 0 - m) := if_pos (by omega)
        rw [e] at q; exact q
    | false =>
      have W := last_two (f := f) (m := m) (cmp_ends hg hh (show z < n + l from hs))
      by_cases c : (cmp g h n k l).getD z 0 < n
      · rw [cs_fl c] at h1; cases h1
        rw [em4_cst]; exact W.2 c _ (ih ht)
      · rw [cs_fg (by omega)] at h1; cases h1
/-- the order of joining does not matter -/
theorem cmp_assoc (hf : IsPair (m + n) f) (hg : IsPair (n + k) g) (hh : IsPair (k + l) h) : cmp (cmp f g m n k) h m k l = cmp f (cmp g h n k l) m n l := by
  have hfg := cmp_pair hf hg
  have hgh := cmp_pair hg hh
  refine cmp_ext (by rw [cmp_len]) fun e he => ?_
  obtain ⟨y, w⟩ := walk_ends hfg hh he
  have a := left_three hf hg hh w (cst_val hfg hh he).1
  have b := right_three hf hg hh (cmp_ends hf hgh he) (cst_val hf hgh he).1
  have e1 : em3 m n (cst m k e) = em4 n k (cst m n e) := by
    unfold cst
    by_cases c : e < m
    · rw [if_pos c, if_pos c]; exact if_pos c
    · rw [if_neg c, if_neg c]
      show (2, k + (e - m)) = if n + (e - m) < n then _ else _
      rw [if_neg (by omega), show n + (e - m) - n = e - m by omega]
  rw [e1] at a
  rw [← a.det b]; exact w
end
/-! ### what is read is a layer behind a pairing -/
theorem trail_ends {fs ps : List Nat} {n z : Nat} {l : List Nat} (hP : IsPair n ps) (h : Trail fs ps n z l) : Ends (cstep ps fs 0 n) (false, z) (l.getLastD 0 - n) := by
  induction h with
  | @stop z h1 =>
    have := cs_fg (f := ps) (g := fs) (m := 0) (n := n) (z := z) h1
    rw [Nat.zero_add] at this
    exact .stop this
  | @go z l h1 h2 ih =>
    have a := cs_fl (f := ps) (g := fs) (m := 0) (n := n) (z := z) h1
    rw [Nat.zero_add] at a
    have b := cs_tg (f := ps) (g := fs) (m := 0) (n := n) (z := fs.getD z 0) (Nat.zero_le _)
    rw [Nat.sub_zero] at b
    rw [lastc h2.len.1]
    exact .go a (.go b ih)
theorem rd_cmp {fs ps : List Nat} {n : Nat} (hF : IsPair (2 * n) fs) (hP : IsPair n ps) : rd fs ps n = cmp ps fs 0 n n := by
  refine (cmp_ext (by rw [rd_len, Nat.zero_add]) fun e he => ?_).symm
  obtain ⟨l, h1, _⟩ := trail_ex hF hP (z := n + e) (by omega) (by omega)
  have := trail_ends hP h1
  rw [← far_is h1] at this
  have e1 : (rd fs ps n).getD e 0 = far fs ps n (n + e) - n := by
    rw [List.getD_eq_getElem?_getD, rd_get fs ps (by omega)]; rfl
  rw [e1]
  unfold cst
  rw [if_neg (Nat.not_lt_zero _), Nat.sub_zero]
  exact this
/-! ### a call added to the second layer -/
section
variable {f g g' : List Nat} {m n k A B c d : Nat}
theorem Ends.near (hf : IsPair (m + n) f) (hg : IsPair (n + k) g) (hN : Near g g' n A B c d) {s : Bool × Nat} {y : Nat} (w : Ends (cstep f g m n) s y) : Val m n k s → s ≠ (false, A) → s ≠ (false, B) → y ≠ m + (A - n) → y ≠ m + (B - n) → Ends (cstep f g' m n) s y := by
  have la := hN.la
  have lb := hN.lb
  induction w with
  | @stop s y h1 =>
    intro vs s1 s2 y1 y2
    obtain ⟨b, z⟩ := s
    cases b with
    | true =>
      by_cases q : f.getD z 0 < m
      · rw [cs_tl q] at h1; cases h1; exact .stop (cs_tl q)
      · rw [cs_tg (by omega)] at h1; cases h1
    | false =>
      by_cases q : g.getD z 0 < n
      · rw [cs_fl q] at h1; cases h1
      · rw [cs_fg (by omega)] at h1; cases h1
        have e : g'.getD z 0 = g.getD z 0 := hN.eq z (fun e => s1 (by rw [e])) (fun e => s2 (by rw [e])) (fun e => y1 (by rw [e, hN.fc])) (fun e => y2 (by rw [e, hN.fd]))
        have := cs_fg (f := f) (g := g') (m := m) (n := n) (z := z) (by rw [e]; omega)
        rw [e] at this; exact .stop this
  | @go s t y h1 _ ih =>
    intro vs s1 s2 y1 y2
    have cv := cs_val hf hg vs h1
    obtain ⟨b, z⟩ := s
    cases b with
    | true =>
      by_cases q : f.getD z 0 < m
      · rw [cs_tl q] at h1; cases h1
      · rw [cs_tg (by omega)] at h1; cases h1
        have hz := (hf.d (show z < m + n from vs)).1
        exact .go (cs_tg (by omega)) (ih cv.1 (fun h => by have := congrArg Prod.snd h; have e : f.getD z 0 - m = A := this; omega) (fun h => by have := congrArg Prod.snd h; have e : f.getD z 0 - m = B := this; omega) y1 y2)
    | false =>
      by_cases q : g.getD z 0 < n
      · rw [cs_fl q] at h1; cases h1
        have e : g'.getD z 0 = g.getD z 0 := hN.eq z (fun e => s1 (by rw [e])) (fun e => s2 (by rw [e])) (fun e => by rw [e, hN.fc] at q; omega) (fun e => by rw [e, hN.fd] at q; omega)
        have := cs_fl (f := f) (g := g') (m := m) (n := n) (z := z) (by rw [e]; exact q)
        rw [e] at this
        exact .go this (ih cv.1 (fun h => by cases h) (fun h => by cases h) y1 y2)
      · rw [cs_fg (by omega)] at h1; cases h1
theorem Ends.over (hf : IsPair (m + n) f) (hg : IsPair (n + k) g) (hN : Near g g' n A B c d) (hB : B < n + k) {y' : Nat} (wB : Ends (cstep f g m n) (false, B) y') (yA : y' ≠ m + (A - n)) (yB : y' ≠ m + (B - n)) {s : Bool × Nat} {y : Nat} (w : Ends (cstep f g m n) s y) :
    Val m n k s → s ≠ (false, A) → s ≠ (false, B) → y = m + (A - n) → Ends (cstep f g' m n) s y' := by
  have la := hN.la
  have lb := hN.lb
  have fb := hN.fb
  induction w with
  | @stop s y h1 =>
    intro vs s1 s2 y1
    obtain ⟨b, z⟩ := s
    cases b with
    | true =>
      by_cases q : f.getD z 0 < m
      · rw [cs_tl q] at h1; cases h1; omega
      · rw [cs_tg (by omega)] at h1; cases h1
    | false =>
      by_cases q : g.getD z 0 < n
      · rw [cs_fl q] at h1; cases h1
      · rw [cs_fg (by omega)] at h1; cases h1
        have zc : z = c := hN.un z (by omega)
        subst zc
        -- the way of B goes on from here
        cases wB with
        | stop h2 =>
          by_cases p : g.getD B 0 < n
          · rw [cs_fl p] at h2; cases h2
          · rw [cs_fg (by omega)] at h2; cases h2
            have := cs_fg (f := f) (g := g') (m := m) (n := n) (z := z) (by rw [hN.gc, ← fb]; omega)
            rw [hN.gc, ← fb] at this; exact .stop this
        | @go _ t _ h2 h3 =>
          have cv := cs_val hf hg (show Val m n k (false, B) from hB) h2
          by_cases p : g.getD B 0 < n
          · rw [cs_fl p] at h2; cases h2
            have := cs_fl (f := f) (g := g') (m := m) (n := n) (z := z) (by rw [hN.gc, ← fb]; exact p)
            rw [hN.gc, ← fb] at this
            exact .go this (h3.near hf hg hN cv.1 (fun h => by cases h) (fun h => by cases h) yA yB)
          · rw [cs_fg (by omega)] at h2; cases h2
  | @go s t y h1 _ ih =>
    intro vs s1 s2 y1
    have cv := cs_val hf hg vs h1
    obtain ⟨b, z⟩ := s
    cases b with
    | true =>
      by_cases q : f.getD z 0 < m
      · rw [cs_tl q] at h1; cases h1
      · rw [cs_tg (by omega)] at h1; cases h1
        have hz := (hf.d (show z < m + n from vs)).1
        exact .go (cs_tg (by omega)) (ih cv.1 (fun h => by have := congrArg Prod.snd h; have e : f.getD z 0 - m = A := this; omega) (fun h => by have := congrArg Prod.snd h; have e : f.getD z 0 - m = B := this; omega) y1)
    | false =>
      by_cases q : g.getD z 0 < n
      · rw [cs_fl q] at h1; cases h1
        have e : g'.getD z 0 = g.getD z 0 := hN.eq z (fun e => s1 (by rw [e])) (fun e => s2 (by rw [e])) (fun e => by rw [e, hN.fc] at q; omega) (fun e => by rw [e, hN.fd] at q; omega)
        have := cs_fl (f := f) (g := g') (m := m) (n := n) (z := z) (by rw [e]; exact q)
        rw [e] at this
        exact .go this (ih cv.1 (fun h => by cases h) (fun h => by cases h) y1)
      · rw [cs_fg (by omega)] at h1; cases h1
end
/-- a call at the lower ends of the second layer is one at the lower ends of both -/
theorem cmp_jn {f g : List Nat} {m n k a b : Nat} (hn : k = n) (h0 : 0 < n) (hf : IsPair (m + n) f) (hg : IsPair (n + k) g) (hab : a ≠ b) (ha : a < k) (hb : b < k) : cmp f (jn g (n + a) (n + b)) m n k = jn (cmp f g m n k) (m + a) (m + b) := by
  subst hn
  have hR := cmp_pair hf hg
  have hg2 : IsPair (2 * k) g := by rw [show 2 * k = k + k by omega]; exact hg
  by_cases hc : g.getD (k + a) 0 = k + b
  · rw [jn_same (hg.ofd (by omega) hc)]
    have w : Ends (cstep f g m k) (cst m k (m + a)) (m + b) := by
      have := cs_fg (f := f) (g := g) (m := m) (n := k) (z := k + a) (by rw [hc]; omega)
      rw [hc, show k + b - k = b by omega] at this
      unfold cst
      rw [if_neg (by omega), show m + a - m = a by omega]
      exact .stop this
    refine (jn_same ?_).symm
    rw [cmp_get f g (by omega), cfar_is w]
  · obtain ⟨N1, N2, gA, gB⟩ := jn_near hg2 (A := k + a) (B := k + b) (by omega) (by omega) (by omega) (by omega) (by omega) hc
    have hg' : IsPair (k + k) (jn g (k + a) (k + b)) := jn_pair hg (by omega) (by omega) (by omega)
    have ga := hR.d (show m + a < m + k by omega)
    have gb := hR.d (show m + b < m + k by omega)
    have sA : cst m k (m + a) = (false, k + a) := by unfold cst; rw [if_neg (by omega), show m + a - m = a by omega]
    have sB : cst m k (m + b) = (false, k + b) := by unfold cst; rw [if_neg (by omega), show m + b - m = b by omega]
    have wA := cmp_ends hf hg (show m + a < m + k by omega)
    have wB := cmp_ends hf hg (show m + b < m + k by omega)
    have JS : (cmp f g m k k).getD (m + a) 0 = m + b → jn (cmp f g m k k) (m + a) (m + b) = cmp f g m k k := fun c => jn_same (hR.ofd (by omega) c)
    rw [sA] at wA
    rw [sB] at wB
    refine cmp_ext (by rw [jn_len, cmp_len]) fun e he => ?_
    have G : ∀ {v : Nat}, (jn (cmp f g m k k) (m + a) (m + b))[e]? = some v → (jn (cmp f g m k k) (m + a) (m + b)).getD e 0 = v := fun h => getD_of h
    have we := cmp_ends hf hg he
    have ve := (cst_val hf hg he).1
    have ge := hR.d he
    have ne : ∀ {x : Nat}, x < k → e ≠ m + x → cst m k e ≠ (false, k + x) := fun {x} hx h z => by
      unfold cst at z
      by_cases c : e < m
      · rw [if_pos c] at z; cases z
      · rw [if_neg c] at z
        have : k + (e - m) = k + x := congrArg Prod.snd z
        omega
    by_cases ea : e = m + a
    · subst ea
      have w : Ends (cstep f (jn g (k + a) (k + b)) m k) (cst m k (m + a)) (m + b) := by
        have := cs_fg (f := f) (g := jn g (k + a) (k + b)) (m := m) (n := k) (z := k + a) (by rw [gA]; omega)
        rw [gA, show k + b - k = b by omega] at this
        rw [sA]; exact .stop this
      by_cases c : (cmp f g m k k).getD (m + a) 0 = m + b
      · rw [JS c, c]; exact w
      · rw [G (by rw [jn_get hR (by omega) ga.2.2.2 gb.2.2.2 c, if_pos rfl])]; exact w
    · by_cases eb : e = m + b
      · subst eb
        have w : Ends (cstep f (jn g (k + a) (k + b)) m k) (cst m k (m + b)) (m + a) := by
          have := cs_fg (f := f) (g := jn g (k + a) (k + b)) (m := m) (n := k) (z := k + b) (by rw [gB]; omega)
          rw [gB, show k + a - k = a by omega] at this
          rw [sB]; exact .stop this
        by_cases c : (cmp f g m k k).getD (m + a) 0 = m + b
        · rw [JS c, show (cmp f g m k k).getD (m + b) 0 = m + a by rw [← c]; exact ga.2.2.1]; exact w
        · rw [G (by rw [jn_get hR (by omega) ga.2.2.2 gb.2.2.2 c, if_neg (by omega), if_pos rfl])]; exact w
      · have s1 := ne ha ea
        have s2 := ne hb eb
        by_cases yA : (cmp f g m k k).getD e 0 = m + a
        · have e1 : (cmp f g m k k).getD (m + a) 0 = e := by rw [← yA]; exact ge.2.2.1
          have e2 : (cmp f g m k k).getD (m + b) 0 ≠ m + a := fun z => by
            have := gb.2.2.1
            rw [z, e1] at this; omega
          have w := Ends.over hf hg N1 (by omega) wB (by rw [show k + a - k = a by omega]; exact e2) (by rw [show k + b - k = b by omega]; exact gb.2.1) we ve s1 s2 (by rw [show k + a - k = a by omega]; exact yA)
          rw [G (by rw [jn_get hR (by omega) ga.2.2.2 gb.2.2.2 (by rw [e1]; omega), if_neg ea, if_neg eb, if_pos e1.symm])]; exact w
        · by_cases yB : (cmp f g m k k).getD e 0 = m + b
          · have e1 : (cmp f g m k k).getD (m + b) 0 = e := by rw [← yB]; exact ge.2.2.1
            have e2 : (cmp f g m k k).getD (m + a) 0 ≠ m + b := fun z => by
              have := ga.2.2.1
              rw [z, e1] at this; omega
            have e3 : (cmp f g m k k).getD (m + a) 0 ≠ e := fun z => by
              have := ga.2.2.1
              rw [z, yB] at this; omega
            have w := Ends.over hf hg N2 (by omega) wA (by rw [show k + b - k = b by omega]; exact e2) (by rw [show k + a - k = a by omega]; exact ga.2.1) we ve s2 s1 (by rw [show k + b - k = b by omega]; exact yB)
            rw [G (by rw [jn_get hR (by omega) ga.2.2.2 gb.2.2.2 e2, if_neg ea, if_neg eb, if_neg (fun z => e3 z.symm), if_pos e1.symm])]; exact w
          · have w := we.near hf hg N1 ve s1 s2 (by rw [show k + a - k = a by omega]; exact yA) (by rw [show k + b - k = b by omega]; exact yB)
            by_cases c : (cmp f g m k k).getD (m + a) 0 = m + b
            · rw [JS c]; exact w
            · have e1 : (cmp f g m k k).getD (m + a) 0 ≠ e := fun z => by
                have := ga.2.2.1
                rw [z] at this; exact yA this
              have e2 : (cmp f g m k k).getD (m + b) 0 ≠ e := fun z => by
                have := gb.2.2.1
                rw [z] at this; exact yB this
              rw [G (by rw [jn_get hR (by omega) ga.2.2.2 gb.2.2.2 c, if_neg ea, if_neg eb, if_neg (fun z => e1 z.symm), if_neg (fun z => e2 z.symm)]; exact ge.2.2.2)]; exact w
end Pc
namespace Pc
/-! ### sheets one after another -/
theorem IsPair.two {n : Nat} {f : List Nat} (h : IsPair (2 * n) f) : IsPair (n + n) f := by rw [← Nat.two_mul]; exact h
theorem IsPair.one {n : Nat} {f : List Nat} (h : IsPair (n + n) f) : IsPair (2 * n) f := by rw [Nat.two_mul]; exact h
noncomputable def fol (f g : List Nat) (n : Nat) : List Nat := cmp f g n n n
theorem fol_pair {f g : List Nat} {n : Nat} (hf : IsPair (2 * n) f) (hg : IsPair (2 * n) g) : IsPair (2 * n) (fol f g n) := (cmp_pair hf.two hg.two).one
theorem fol_assoc {f g h : List Nat} {n : Nat} (hf : IsPair (2 * n) f) (hg : IsPair (2 * n) g) (hh : IsPair (2 * n) h) : fol (fol f g n) h n = fol f (fol g h n) n := cmp_assoc hf.two hg.two hh.two
theorem rd_fol {f g ps : List Nat} {n : Nat} (hf : IsPair (2 * n) f) (hg : IsPair (2 * n) g) (hP : IsPair n ps) : rd (fol f g n) ps n = rd g (rd f ps n) n := by
  have hR := rd_pair hf hP
  have hP0 : IsPair (0 + n) ps := by rw [Nat.zero_add]; exact hP
  rw [rd_cmp (fol_pair hf hg) hP, rd_cmp hg hR, rd_cmp hf hP]
  exact (cmp_assoc hP0 hf.two hg.two).symm
theorem fol_emp {f : List Nat} {n : Nat} (hn : 0 < n) (hf : IsPair (2 * n) f) : fol f (emp n) n = f := by
  refine cmp_ext (by rw [hf.len]; omega) fun e he => ?_
  have fe := hf.d (show e < 2 * n by omega)
  have em : ∀ {x : Nat}, x < n → (emp n).getD x 0 = n + x := fun h => getD_of (emp_lo h)
  have em2 : ∀ {x : Nat}, x < n → (emp n).getD (n + x) 0 = x := fun h => getD_of (emp_hi h)
  -- from the first layer
  have T : ∀ {z : Nat}, z < 2 * n → Ends (cstep f (emp n) n n) (true, z) (f.getD z 0) := fun {z} hz => by
    have fz := hf.d hz
    by_cases c : f.getD z 0 < n
    · exact .stop (cs_tl c)
    · refine .go (cs_tg (by omega)) (.stop ?_)
      have e1 := em (x := f.getD z 0 - n) (by omega)
      rw [cs_fg (by rw [e1]; omega), e1, show n + (n + (f.getD z 0 - n) - n) = f.getD z 0 by omega]
  unfold cst
  by_cases c : e < n
  · rw [if_pos c]; exact T (by omega)
  · rw [if_neg c]
    have e1 := em2 (x := e - n) (by omega)
    refine .go (t := (true, e)) ?_ (T (by omega))
    rw [cs_fl (by rw [e1]; omega), e1, show n + (e - n) = e by omega]
theorem emp_fol {f : List Nat} {n : Nat} (hn : 0 < n) (hf : IsPair (2 * n) f) : fol (emp n) f n = f := by
  refine cmp_ext (by rw [hf.len]; omega) fun e he => ?_
  have em : ∀ {x : Nat}, x < n → (emp n).getD x 0 = n + x := fun h => getD_of (emp_lo h)
  have em2 : ∀ {x : Nat}, x < n → (emp n).getD (n + x) 0 = x := fun h => getD_of (emp_hi h)
  have T : ∀ {z : Nat}, z < 2 * n → Ends (cstep (emp n) f n n) (false, z) (f.getD z 0) := fun {z} hz => by
    have fz := hf.d hz
    by_cases c : f.getD z 0 < n
    · refine .go (cs_fl c) (.stop ?_)
      have e1 := em2 c
      rw [cs_tl (by rw [e1]; exact c), e1]
    · refine .stop ?_
      rw [cs_fg (by omega), show n + (f.getD z 0 - n) = f.getD z 0 by omega]
  unfold cst
  by_cases c : e < n
  · rw [if_pos c]
    have e1 := em c
    refine .go (t := (false, e)) ?_ (T (by omega))
    rw [cs_tg (by rw [e1]; omega), e1, show n + e - n = e by omega]
  · rw [if_neg c, show n + (e - n) = e by omega]; exact T (by omega)
theorem fol_shw {f : List Nat} {n : Nat} (hn : 0 < n) (hf : IsPair (2 * n) f) : ∀ (qs : List (Nat × Nat)) {g : List Nat}, IsPair (2 * n) g → Calls n qs → fol f (shw n qs g) n = shw n qs (fol f g n)
  | [], _, _, _ => rfl
  | q :: r, g, hg, hc => by
    have h1 := hc q List.mem_cons_self
    have h2 := fol_shw hn hf r (jn_pair hg (a := n + q.1) (b := n + q.2) (by omega) (by omega) (by omega)) (fun x hx => hc x (List.mem_cons_of_mem _ hx))
    have e : fol f (jn g (n + q.1) (n + q.2)) n = jn (fol f g n) (n + q.1) (n + q.2) := cmp_jn rfl hn hf.two hg.two (by omega) (by omega) h1.2
    rw [e] at h2
    exact h2
/-- the sheet of a word behind a sheet is the word added to it -/
theorem fol_word {f : List Nat} {n : Nat} {qs : List (Nat × Nat)} (hn : 0 < n) (hf : IsPair (2 * n) f) (hc : Calls n qs) : fol f (shw n qs (emp n)) n = shw n qs f := by
  rw [fol_shw hn hf qs (emp_pair hn) hc, fol_emp hn hf]
theorem shw_app (n : Nat) (qs rs : List (Nat × Nat)) (f : List Nat) : shw n (qs ++ rs) f = shw n rs (shw n qs f) := by
  unfold shw runs low
  rw [List.map_append, List.foldl_append]
/-! ### again and again -/
noncomputable def pw (f : List Nat) (n : Nat) : Nat → List Nat
  | 0 => emp n
  | k + 1 => fol (pw f n k) f n
theorem pw_pair {f : List Nat} {n : Nat} (hn : 0 < n) (hf : IsPair (2 * n) f) : ∀ k, IsPair (2 * n) (pw f n k)
  | 0 => emp_pair hn
  | k + 1 => fol_pair (pw_pair hn hf k) hf
theorem pw_add {f : List Nat} {n : Nat} (hn : 0 < n) (hf : IsPair (2 * n) f) (a : Nat) : ∀ b, fol (pw f n a) (pw f n b) n = pw f n (a + b)
  | 0 => fol_emp hn (pw_pair hn hf a)
  | b + 1 => by
    show fol (pw f n a) (fol (pw f n b) f n) n = fol (pw f n (a + b)) f n
    rw [← fol_assoc (pw_pair hn hf a) (pw_pair hn hf b) hf, pw_add hn hf a b]
theorem pw_one {f : List Nat} {n : Nat} (hn : 0 < n) (hf : IsPair (2 * n) f) : pw f n 1 = f := emp_fol hn hf
/-! ### upside down -/
def os (n e : Nat) : Nat := if e < n then e + n else e - n
theorem os_lt {n e : Nat} (h : e < 2 * n) : os n e < 2 * n := by unfold os; split <;> omega
theorem os_os {n e : Nat} (h : e < 2 * n) : os n (os n e) = e := by
  unfold os
  by_cases c : e < n
  · rw [if_pos c, if_neg (by omega)]; omega
  · rw [if_neg c, if_pos (by omega)]; omega
def mir (f : List Nat) (n : Nat) : List Nat := (List.range (2 * n)).map fun e => os n (f.getD (os n e) 0)
theorem mir_len (f : List Nat) (n : Nat) : (mir f n).length = 2 * n := by unfold mir; rw [List.length_map, List.length_range]
theorem mir_get (f : List Nat) {n e : Nat} (h : e < 2 * n) : (mir f n)[e]? = some (os n (f.getD (os n e) 0)) := by unfold mir; rw [List.getElem?_map, List.getElem?_range h]; rfl
theorem mir_d (f : List Nat) {n e : Nat} (h : e < 2 * n) : (mir f n).getD e 0 = os n (f.getD (os n e) 0) := getD_of (mir_get f h)
theorem mir_pair {f : List Nat} {n : Nat} (hf : IsPair (2 * n) f) : IsPair (2 * n) (mir f n) := by
  refine ⟨mir_len f n, fun e he => ?_⟩
  have fo := hf.d (os_lt he)
  refine ⟨_, mir_get f he, os_lt fo.1, fun z => ?_, ?_⟩
  · have := congrArg (os n) z
    rw [os_os fo.1] at this
    exact fo.2.1 this
  · rw [mir_get f (os_lt fo.1), os_os fo.1, fo.2.2.1, os_os he]
theorem list_d {x y : List Nat} (h : x.length = y.length) (e : ∀ i, i < x.length → x.getD i 0 = y.getD i 0) : x = y := by
  refine List.ext_getElem? fun i => ?_
  by_cases hi : i < x.length
  · have := e i hi
    rw [List.getD_eq_getElem?_getD, List.getD_eq_getElem?_getD, List.getElem?_eq_getElem hi, List.getElem?_eq_getElem (by omega)] at this
    rw [List.getElem?_eq_getElem hi, List.getElem?_eq_getElem (by omega)]
    exact congrArg some this
  · rw [List.getElem?_eq_none (by omega), List.getElem?_eq_none (by omega)]
theorem mir_mir {f : List Nat} {n : Nat} (hf : IsPair (2 * n) f) : mir (mir f n) n = f := by
  refine list_d (by rw [mir_len, hf.len]) fun e he => ?_
  rw [mir_len] at he
  rw [mir_d _ he, mir_d _ (os_lt he), os_os he, os_os (hf.d he).1]
theorem mir_emp {n : Nat} : mir (emp n) n = emp n := by
  refine list_d (by rw [mir_len, emp_len]) fun e he => ?_
  rw [mir_len] at he
  rw [mir_d _ he]
  by_cases c : e < n
  · have e1 : os n e = n + e := by unfold os; rw [if_pos c]; omega
    rw [e1, getD_of (emp_hi c), getD_of (emp_lo c), e1]
  · have e1 : os n e = e - n := by unfold os; rw [if_neg c]
    have h2 := emp_hi (n := n) (e := e - n) (by omega)
    rw [show n + (e - n) = e by omega] at h2
    rw [e1, getD_of (emp_lo (by omega)), getD_of h2]
    unfold os; rw [if_neg (by omega)]; omega
/-- a walk seen from below -/
theorem mir_ends {f g : List Nat} {n : Nat} (hf : IsPair (2 * n) f) (hg : IsPair (2 * n) g) {s : Bool × Nat} {y : Nat} (w : Ends (cstep f g n n) s y) : Val n n n s → Ends (cstep (mir g n) (mir f n) n n) (!s.1, os n s.2) (os n y) := by
  induction w with
  | @stop s y h1 =>
    intro hs
    obtain ⟨b, z⟩ := s
    have hz : z < 2 * n := by cases b <;> (have : z < n + n := hs; omega)
    cases b with
    | true =>
      have fz := hf.d hz
      by_cases c : f.getD z 0 < n
      · rw [cs_tl c] at h1; cases h1
        have e1 : (mir f n).getD (os n z) 0 = os n (f.getD z 0) := by rw [mir_d _ (os_lt hz), os_os hz]
        have e2 : os n (f.getD z 0) = f.getD z 0 + n := by unfold os; rw [if_pos c]
        refine .stop ?_
        show cstep (mir g n) (mir f n) n n (false, os n z) = _
        rw [cs_fg (by rw [e1, e2]; omega), e1, e2, show n + (f.getD z 0 + n - n) = f.getD z 0 + n by omega]
      · rw [cs_tg (by omega)] at h1; cases h1
    | false =>
      have gz := hg.d hz
      by_cases c : g.getD z 0 < n
      · rw [cs_fl c] at h1; cases h1
      · rw [cs_fg (by omega)] at h1; cases h1
        have e1 : (mir g n).getD (os n z) 0 = os n (g.getD z 0) := by rw [mir_d _ (os_lt hz), os_os hz]
        have e2 : os n (g.getD z 0) = g.getD z 0 - n := by unfold os; rw [if_neg c]
        refine .stop ?_
        show cstep (mir g n) (mir f n) n n (true, os n z) = _
        rw [cs_tl (by rw [e1, e2]; omega), e1, show n + (g.getD z 0 - n) = g.getD z 0 by omega]
  | @go s t y h1 _ ih =>
    intro hs
    have cv := cs_val hf.two hg.two hs h1
    have IH := ih cv.1
    obtain ⟨b, z⟩ := s
    have hz : z < 2 * n := by cases b <;> (have : z < n + n := hs; omega)
    cases b with
    | true =>
      have fz := hf.d hz
      by_cases c : f.getD z 0 < n
      · rw [cs_tl c] at h1; cases h1
      · rw [cs_tg (by omega)] at h1; cases h1
        have e1 : (mir f n).getD (os n z) 0 = os n (f.getD z 0) := by rw [mir_d _ (os_lt hz), os_os hz]
        have e2 : os n (f.getD z 0) = f.getD z 0 - n := by unfold os; rw [if_neg c]
        have e3 : os n (f.getD z 0 - n) = n + (f.getD z 0 - n) := by unfold os; rw [if_pos (by omega)]; omega
        refine .go (t := (true, n + (f.getD z 0 - n))) ?_ (by rw [← e3]; exact IH)
        show cstep (mir g n) (mir f n) n n (false, os n z) = _
        rw [cs_fl (by rw [e1, e2]; omega), e1, e2]
    | false =>
      have gz := hg.d hz
      by_cases c : g.getD z 0 < n
      · rw [cs_fl c] at h1; cases h1
        have e1 : (mir g n).getD (os n z) 0 = os n (g.getD z 0) := by rw [mir_d _ (os_lt hz), os_os hz]
        have e2 : os n (g.getD z 0) = g.getD z 0 + n := by unfold os; rw [if_pos c]
        have e3 : os n (n + g.getD z 0) = g.getD z 0 := by unfold os; rw [if_neg (by omega)]; omega
        refine .go (t := (false, g.getD z 0)) ?_ (by have := IH; rw [show os n (true, n + g.getD z 0).2 = g.getD z 0 from e3] at this; exact this)
        show cstep (mir g n) (mir f n) n n (true, os n z) = _
        rw [cs_tg (by rw [e1, e2]; omega), e1, e2, show g.getD z 0 + n - n = g.getD z 0 by omega]
      · rw [cs_fg (by omega)] at h1; cases h1
theorem mir_fol {f g : List Nat} {n : Nat} (hf : IsPair (2 * n) f) (hg : IsPair (2 * n) g) : mir (fol f g n) n = fol (mir g n) (mir f n) n := by
  refine (cmp_ext (by rw [mir_len]; omega) fun e he => ?_).symm
  have he2 : e < 2 * n := by omega
  have w := mir_ends hf hg (cmp_ends hf.two hg.two (show os n e < n + n by have := os_lt he2; omega)) (cst_val hf.two hg.two (by have := os_lt he2; omega)).1
  rw [mir_d _ he2]
  have e1 : ((!(cst n n (os n e)).1, os n (cst n n (os n e)).2) : Bool × Nat) = cst n n e := by
    unfold cst
    by_cases c : e < n
    · have e2 : os n e = e + n := by unfold os; rw [if_pos c]
      rw [e2, if_neg (by omega), if_pos c, show n + (e + n - n) = e + n by omega]
      show (true, os n (e + n)) = _
      unfold os; rw [if_neg (by omega), Nat.add_sub_cancel]
    · have e2 : os n e = e - n := by unfold os; rw [if_neg c]
      rw [e2, if_pos (by omega), if_neg c]
      show (false, os n (e - n)) = _
      unfold os; rw [if_pos (by omega), Nat.add_comm]
  rw [e1] at w
  exact w
/-- forth, back and forth again -/
theorem fol_mir {f : List Nat} {n : Nat} (hf : IsPair (2 * n) f) : fol (fol f (mir f n) n) f n = f := by
  have hm := mir_pair hf
  have hfm := fol_pair hf hm
  have up : ∀ {x : Nat}, x < n → n ≤ f.getD x 0 → (fol f (mir f n) n).getD x 0 = n + x := fun {x} hx h => by
    have fx := hf.d (show x < 2 * n by omega)
    have w : Ends (cstep f (mir f n) n n) (cst n n x) (n + x) := by
      unfold cst; rw [if_pos hx]
      refine .go (cs_tg h) (.stop ?_)
      have e1 : (mir f n).getD (f.getD x 0 - n) 0 = x + n := by
        rw [mir_d _ (by omega), show os n (f.getD x 0 - n) = f.getD x 0 by unfold os; rw [if_pos (by omega)]; omega, fx.2.2.1]
        unfold os; rw [if_pos hx]
      rw [cs_fg (by rw [e1]; omega), e1, show n + (x + n - n) = n + x by omega]
    show (cmp f (mir f n) n n n).getD x 0 = _
    rw [cmp_d _ _ (by omega), cfar_is w]
  have upp : ∀ {x : Nat}, x < n → f.getD x 0 < n → (fol f (mir f n) n).getD x 0 = f.getD x 0 := fun {x} hx h => by
    have w : Ends (cstep f (mir f n) n n) (cst n n x) (f.getD x 0) := by
      unfold cst; rw [if_pos hx]; exact .stop (cs_tl h)
    show (cmp f (mir f n) n n n).getD x 0 = _
    rw [cmp_d _ _ (by omega), cfar_is w]
  have dn : ∀ {x : Nat}, x < n → n ≤ f.getD x 0 → (fol f (mir f n) n).getD (n + x) 0 = x := fun {x} hx h => by
    have := hfm.d (show x < 2 * n by omega)
    rw [up hx h] at this
    exact this.2.2.1
  refine cmp_ext (by rw [hf.len]; omega) fun e he => ?_
  have fe := hf.d (show e < 2 * n by omega)
  unfold cst
  by_cases c : e < n
  · rw [if_pos c]
    by_cases q : f.getD e 0 < n
    · have := cs_tl (f := fol f (mir f n) n) (g := f) (m := n) (n := n) (z := e) (by rw [upp c q]; exact q)
      rw [upp c q] at this; exact .stop this
    · have u := up c (by omega)
      refine .go (t := (false, e)) ?_ (.stop ?_)
      · rw [cs_tg (by rw [u]; omega), u, show n + e - n = e by omega]
      · rw [cs_fg (by omega), show n + (f.getD e 0 - n) = f.getD e 0 by omega]
  · rw [if_neg c, show n + (e - n) = e by omega]
    by_cases q : f.getD e 0 < n
    · have u := dn q (by rw [fe.2.2.1]; omega)
      refine .go (cs_fl q) (.stop ?_)
      rw [cs_tl (by rw [u]; exact q), u]
    · refine .stop ?_
      rw [cs_fg (by omega), show n + (f.getD e 0 - n) = f.getD e 0 by omega]
/-! ### a walk counted -/
inductive EndsN {S Y : Type} (step : S → S ⊕ Y) : Nat → S → Y → Prop
  | stop {s : S} {y : Y} : step s = .inr y → EndsN step 0 s y
  | go {t : Nat} {s u : S} {y : Y} : step s = .inl u → EndsN step t u y → EndsN step (t + 1) s y
theorem Ends.count {S Y : Type} {step : S → S ⊕ Y} {s : S} {y : Y} (h : Ends step s y) : ∃ t, EndsN step t s y := by
  induction h with
  | stop h => exact ⟨0, .stop h⟩
  | go h _ ih =>
    obtain ⟨t, ht⟩ := ih
    exact ⟨t + 1, .go h ht⟩
end Pc
namespace Pc
open PySem PySem.Spec PyProof.Rows L2 RZ
/-- x //= c -/
def ipHalf : TIp := fun x y H Q => ∃ i j, x = .int i ∧ y = .int j ∧ (0 < j ∧ j < 1073741824) ∧ Q (.int (i / j)) H
theorem ip_half {X : Cx} : PIp X .FloorDiv ipHalf := by
  intro pins s σ H x y v u Q I r1 r2 h
  obtain ⟨i, j, e1, e2, hj, q⟩ := h
  subst e1 e2
  obtain ⟨t, rfl⟩ := r1
  obtain ⟨t', rfl⟩ := r2
  refine PyProof.Rows.ifloordiv_int (by omega) ?_ (.inl (PyProof.noPylong_small (by omega)))
  rw [Int.fdiv_eq_ediv_of_nonneg i (by omega)]
  exact ⟨.int _, H, I.tok _, ⟨_, rfl⟩, q⟩
theorem bl_dec (a b : Bool) : decide (V.bl a = V.bl b) = (a == b) := by cases a <;> cases b <;> rfl
end Pc
namespace Pc
theorem iteY {b : Bool} {A B : Prop} (h : b = true) (a : A) : if b = true then A else B := by rw [if_pos h]; exact a
theorem iteX {b : Bool} {A B : Prop} (h : b = false) (a : B) : if b = true then A else B := by rw [h, if_neg Bool.false_ne_true]; exact a
end Pc
namespace Pc
open PySem PySem.Spec PyProof.Rows L2 RZ
theorem in_nat (i : Nat) (l : List Nat) : inV (.int (i : Int)) (nv l) = decide (i ∈ l) := by
  unfold inV nv
  rw [List.any_map, Bool.eq_iff_iff, List.any_eq_true, decide_eq_true_iff]
  constructor
  · rintro ⟨x, hx, e⟩
    have e' : eqV (.int (x : Int)) (.int (i : Int)) = true := e
    have : (x : Int) = (i : Int) := by simpa [eqV] using e'
    have : x = i := by omega
    exact this ▸ hx
  · intro h
    exact ⟨i, h, by show eqV (.int (i : Int)) (.int (i : Int)) = true; simp [eqV]⟩
theorem flat_nat (l : List Nat) : (nv l).all flatV = true := by
  unfold nv
  rw [List.all_map, List.all_eq_true]
  exact fun x _ => rfl
end Pc
namespace Pc
open PySem PySem.Spec PyProof.Rows L2 RZ
/-! ### data of small size, by its depth -/
def Sz : Nat → Nat
  | 0 => 61
  | 1 => 6303
  | 2 => 630503
  | _ => 15762628
abbrev Fi (j : Nat) (d : PyData) : Prop := Fine j (Sz j) d
theorem Sz_le : ∀ j, Sz j ≤ Sz (j + 1)
  | 0 => by decide
  | 1 => by decide
  | 2 => by decide
  | _ + 3 => Nat.le_refl _
theorem Fine.up {j : Nat} {d : PyData} (h : Fi j d) : Fi (j + 1) d := h.mono (Nat.le_succ _) (Sz_le j)
theorem Fine.sh {j : Nat} {d : PyData} (h : Fi j d) (hj : j ≤ 60 := by decide) : SeqAt.shaped d = true := Fine.shaped h (by omega)
theorem fi_int {i : Int} (h : i.natAbs < 2 ^ 60) : Fi 0 (.int i) := fine_int h
theorem fi_bl {b : Bool} : Fi 0 (.bool b) := ⟨rfl, rfl, Nat.le_refl _, trivial, by cases b <;> decide⟩
theorem fi_non : Fi 0 .none := ⟨rfl, rfl, Nat.le_refl _, trivial, by decide⟩
theorem fi_tup {l : List Nat} {m : Nat} (hl : IsPair m l) (hm : m ≤ 100) : Fi 1 (td l) := (fine_tup (n := 100) (fun i hi => by have := hl.lt i hi; omega) (by rw [hl.len]; omega) (by decide)).mono (Nat.le_refl _) (by decide)
/-- numbers of small size, not many -/
def Fw (l : List Nat) : Prop := l.length ≤ 100 ∧ ∀ i ∈ l, i < 2 ^ 60
theorem fb {l : List Nat} {m : Nat} (hl : IsPair m l) (hm : m ≤ 100) : Fw l := ⟨by rw [hl.len]; exact hm, fun i hi => by have := hl.lt i hi; omega⟩
theorem fi_tup' {l : List Nat} (h : Fw l) : Fi 1 (td l) := (fine_tup (n := 100) h.2 h.1 (by decide)).mono (Nat.le_refl _) (by decide)
theorem fi_lst {l : List Nat} (h : Fw l) : Fi 1 (.list (nd l)) := (fine_list (k := 0) (m := 61) (n := 100) (fine_nd h.2) (by rw [nd_length]; exact h.1) (by decide)).mono (Nat.le_refl _) (by decide)
theorem fi_prs {qs : List (Nat × Nat)} (h : qs.length ≤ 1000 ∧ ∀ p ∈ qs, p.1 < 2 ^ 60 ∧ p.2 < 2 ^ 60) : Fi 2 (.list (qs.map pd)) := (fine_pds (n := 1000) h.2 h.1 (by decide)).mono (Nat.le_refl _) (by decide)
theorem fa_nil {j : Nat} : ∀ d ∈ ([] : List PyData), Fi j d := fun _ h => absurd h List.not_mem_nil
theorem fa_cons {j : Nat} {d : PyData} {ds : List PyData} (h : Fi j d) (r : ∀ x ∈ ds, Fi j x) : ∀ x ∈ d :: ds, Fi j x := fun x hx => (List.mem_cons.mp hx).elim (fun e => by rw [e]; exact h) (r x)
def Few (j n : Nat) : Prop := n * (Sz j + 2) + 3 ≤ Sz (j + 1) ∧ n ≤ 100000
instance (j n : Nat) : Decidable (Few j n) := by unfold Few; infer_instance
theorem fi_list {j : Nat} {ds : List PyData} (h : ∀ d ∈ ds, Fi j d) (hn : n = ds.length := by rfl) (hf : Few j n := by decide) : Fi (j + 1) (.list ds) := (fine_list (k := j) (m := Sz j) (n := n) h (by rw [hn]; exact Nat.le_refl _) hf.2).mono (Nat.le_refl _) hf.1
theorem fi_tuple {j : Nat} {ds : List PyData} (h : ∀ d ∈ ds, Fi j d) (hn : n = ds.length := by rfl) (hf : Few j n := by decide) : Fi (j + 1) (.tuple ds) := (fine_tuple (k := j) (m := Sz j) (n := n) h (by rw [hn]; exact Nat.le_refl _) hf.2).mono (Nat.le_refl _) hf.1
theorem fi_ne {j : Nat} {d : PyData} (h : Fi j d) : (!PyData.eqv d d) = false := by
  rw [PySem.SeqAt.eqv_refl _ h.lay]; rfl
theorem fi_eq {j : Nat} {d : PyData} (h : Fi j d) : PyData.eqv d d = true := PySem.SeqAt.eqv_refl _ h.lay
/-! ### arguments by name, in another order -/
def pm10 {α : Type} : List α → List α
  | [a, b] => [b, a]
  | l => l
theorem rel_pm10 {zs : List V} {ws : List Value} (_ : zs.length = 2) (r : Vals zs ws) : Vals (pm10 zs) (pm10 ws) := by
  match zs, ws, r with
  | [], _, .nil => exact .nil
  | [_], _, .cons h .nil => exact .cons h .nil
  | [_, _], _, .cons h1 (.cons h2 .nil) => exact .cons h2 (.cons h1 .nil)
  | _ :: _ :: _ :: _, _, .cons h1 (.cons h2 (.cons h3 r)) => exact .cons h1 (.cons h2 (.cons h3 r))
def pm0 {α : Type} (l : List α) : List α := l
theorem rel_pm0 {zs : List V} {ws : List Value} (_ : zs.length = 1) (r : Vals zs ws) : Vals (pm0 zs) (pm0 ws) := r
end Pc
namespace Pc
open PySem PySem.Spec PyProof.Rows L2 RZ
theorem calls_app {n : Nat} {qs rs : List (Nat × Nat)} (h : Calls n qs) (g : Calls n rs) : Calls n (qs ++ rs) := fun q hq => (List.mem_append.mp hq).elim (h q) (g q)
end Pc
namespace Pc
open PySem PySem.Spec PyProof.Rows L2 RZ
/-- the slots, written out -/
theorem st_eq {t : TS} {D : L2.Ends} {σ : L2.St} {H : Hp} (σ' : L2.St) (h : t D σ' H) (e : σ = σ') : t D σ H := by rw [e]; exact h
end Pc
namespace Pc
open PySem PySem.Spec PyProof.Rows L2 RZ
theorem st_set {i : Nat} {v : V} {σ : L2.St} {H : Hp} {Q : L2.St → Hp → Prop} (σ' : L2.St) (h : Q σ' H) (e : σ.set i (some v) = σ') : gName i v σ H Q := by
  unfold gName
  rw [e]; exact h
end Pc
namespace Pc
open PySem PySem.Spec PyProof.Rows L2 RZ
theorem fi_same {x y : V} (e : x = y) : (!decide (x = y)) = false := by rw [decide_eq_true e]; rfl
theorem fi_is {x y : V} (e : x = y) : decide (x = y) = true := decide_eq_true e
end Pc
namespace Pc
open PySem PySem.Spec PyProof.Rows L2 RZ
theorem st_kept {D : L2.Ends} {i : Nat} {a C d : Addr} {σ1 : L2.St} {H : Hp} (σ' : L2.St) (h : D.nx σ' (upd H a (exk a (.ref C) (some d)))) (e : σ1.set i none = σ') :
    ({ nx := fun σ'' H'' => D.nx (σ''.set i none) (upd H'' a (exk a (.ref C) (some d))), rt := fun _ _ => False } : L2.Ends).nx σ1 H := by
  show D.nx (σ1.set i none) _
  rw [e]; exact h
end Pc
namespace Pc
open PySem PySem.Spec PyProof.Rows L2 RZ
theorem st_setH {i : Nat} {v : V} {σ : L2.St} {H : Hp} {Q : L2.St → Hp → Prop} (σ' : L2.St) (H' : Hp) (h : Q σ' H') (e : σ.set i (some v) = σ') (eh : H = H') : gName i v σ H Q := by
  unfold gName
  rw [e, eh]; exact h
end Pc
namespace Pc
open PySem PySem.Spec PyProof.Rows L2 RZ
/-- f(k=e, ..), f raising -/
theorem pe_kwS {X : Cx} {CX : CXT} {k : Nat} {f : Addr} {fd : FuncData} {ps ks : List Str} {sp : Sp} {E : L2.St → XK} {x : Str} {p pos : Pos} {kws : List Keyword} {tk : TA} {g : List Value → List Value} {gV : List V → List V}
    (F : FnOk X.prog X.w X.K X.mg X.base CX k f fd ps sp) (hr : Room k X.A) (hg : Gl X x) (hm : X.mg x = some (.ref f)) (hk : PySem.W.keepIn X.K (.ref f) = true)
    (hb : ∀ (s : Shared) (ws : List Value), ws.length = ks.length → BindsTo s fd ⟨[], ks.zip ws⟩ (ps.zip (g ws))) (rel : ∀ {zs : List V} {ws : List Value}, zs.length = ks.length → Vals zs ws → Vals (gV zs) (g ws)) (hx : ∀ σ, PassesAt CX X σ (E σ)) (hkw : PK X kws tk)
    (hall : (backToKw pos (keywordEach kws X.env)).all (·.1.isSome) = true := by rfl) (hks : (backToKw pos (keywordEach kws X.env)).filterMap (·.1) = ks := by rfl) (hdb : (x == ("__debug__" : Str)) = false := by decide)
    (hpl : ((backTo pos (starEach [] X.env)).any (·.1) || (backToKw pos (keywordEach kws X.env)).any (·.1.isNone)) = false := by rfl) :
    PE X (.Call (.Name x p) [] kws pos) (fun σ H Q => tk σ H fun zs H1 => zs.length = ks.length ∧ sp (gV zs) H1 Q (E σ)) := by
  constructor
  intro pins s σ H Q I h
  refine wpAny_Call_Name_kw (ld_glob I hg hm ?_ hdb)
  refine PySem.W.callWith_KW0 (h₀ := X.base) I.ok.mod.kin hk hall (thn (hkw.run pos pins s σ H _ I h) ?_) hpl
  rintro ws s2 ⟨zs, H2, I2, rz, hz, q⟩
  refine ⟨I2.kIn, ?_⟩
  rw [hks]
  refine wpAny_call (codeAny_mono (F.run X.A X.stack s2 H2 ⟨[], ks.zip ws⟩ (g ws) (gV zs) Q (E σ) hr I2.env0 (hb s2 ws (by rw [← rz.length, hz])) (rel hz rz) q) ?_)
  intro res s' hq
  cases res with
  | error e => exact hx σ pins H2 s2 e s' I2 hq
  | ok fl =>
    cases fl with
    | ret u => exact I2.after hq
    | next => exact hq.elim
    | brk => exact hq.elim
    | cont => exact hq.elim
end Pc
namespace Pc
open PySem PySem.Spec PyProof.Rows L2 RZ
section
variable {P : Program} {w : World} {K : PySem.W.Frag} {mg : Str → Option Value} {base : Heap}
/-! ### somebody who is not there -/
def spPersonX (C : Addr) : Sp := fun vs H _ E => ∃ n u : Int, vs = [.int n, .int u] ∧ ¬ (0 ≤ u ∧ u < n) ∧ Flies C "person" (.int u) H E
theorem okx_p_check_person (T : Env K mg) : FnOk P w K mg base (L2.CX P w) 3 T.f_p_check_person T.d_p_check_person ["size", "person"] (spPersonX T.C_NoPerson) := by
  refine T.F_p_check_person.okX sc_p_check_person (fun vs H Q E h => ?_) (fun cdv A outer s H vs Q E hr h => ?_)
  · obtain ⟨n, u, rfl, _⟩ := h
    rfl
  · obtain ⟨n, u, rfl, hu, hF⟩ := h
    refine ⟨_, pss_one (ps_if (pt_not (pt_chain op_le op_lt pe_int (pv 1) (pv 0))) (pss_one (ps_raise rfl (takes_of rfl rfl rfl rfl) (pmk_e T.own_NoPerson bsL.fb T.iC_NoPerson T.tI_NoPerson (ok_i_NoPerson T) hr T.b_i_NoPerson pass0 (by rfl) T.gC_NoPerson (pa_cons (pv 1) pa_nil)))) pss_nil), ?_⟩
    refine ⟨_, rfl, 0, u, rfl, rfl, _, rfl, ?_⟩
    by_cases c : (0 : Int) ≤ u
    · rw [decide_eq_true c]
      refine iteT ⟨_, rfl, u, n, rfl, rfl, _, rfl, ?_⟩
      rw [decide_eq_false (show ¬ u < n from fun z => hu ⟨c, z⟩)]
      exact iteY rfl ⟨_, rfl, raised1 hF⟩
    · rw [decide_eq_false c]
      exact iteF ⟨_, rfl, iteY rfl ⟨_, rfl, raised1 hF⟩⟩
end
end Pc
namespace Pc
open PySem PySem.Spec PyProof.Rows L2 RZ
/-! ### integers that are not people -/
def outP (n u : Int) : Bool := !(decide (0 ≤ u) && decide (u < n))
theorem outP_yes {n u : Int} : outP n u = true ↔ ¬ (0 ≤ u ∧ u < n) := by
  unfold outP
  by_cases a : 0 ≤ u <;> by_cases b : u < n <;> simp [a, b] <;> omega
theorem outP_no {n u : Int} : outP n u = false ↔ 0 ≤ u ∧ u < n := by
  unfold outP
  by_cases a : 0 ≤ u <;> by_cases b : u < n <;> simp [a, b] <;> omega
def badP (n : Int) (p : Int × Int) : Option Int := if outP n p.1 = true then some p.1 else if outP n p.2 = true then some p.2 else none
def badW (n : Int) : List (Int × Int) → Option Int
  | [] => none
  | p :: r => match badP n p with
    | some u => some u
    | none => badW n r
/-- nothing is raised, or NoPerson with the first such integer -/
def Goes (C : Addr) (o : Option Int) (H : Hp) (Q : VK) (E : XK) : Prop := match o with
  | none => Q .non H
  | some u => Flies C "person" (.int u) H E
def ItemsZ (K : PySem.W.Frag) (H : Hp) (us : List V) (qs : List (Int × Int)) : Prop := us.length = qs.length ∧ ∀ (i : Nat) (v : V), us[i]? = some v → ∃ (c : Addr) (p : Int × Int), v = .ref c ∧ qs[i]? = some p ∧ Sq K H c [.int p.1, .int p.2]
theorem ItemsZ.same {K : PySem.W.Frag} {H H' : Hp} {us : List V} {qs : List (Int × Int)} (h : ItemsZ K H us qs) (s : Same H H') : ItemsZ K H' us qs :=
  ⟨h.1, fun i v hv => by obtain ⟨c, p, e, hp, hq⟩ := h.2 i v hv; exact ⟨c, p, e, hp, hq.same s⟩⟩
section
variable {P : Program} {w : World} {K : PySem.W.Frag} {mg : Str → Option Value} {base : Heap}
def spPersonE (C : Addr) : Sp := fun vs H Q E => ∃ n u : Int, vs = [.int n, .int u] ∧ Goes C (if outP n u = true then some u else none) H Q E
theorem oke_p_check_person (T : Env K mg) : FnOk P w K mg base (L2.CX P w) 3 T.f_p_check_person T.d_p_check_person ["size", "person"] (spPersonE T.C_NoPerson) := by
  refine T.F_p_check_person.okX sc_p_check_person (fun vs H Q E h => ?_) (fun cdv A outer s H vs Q E hr h => ?_)
  · obtain ⟨n, u, rfl, _⟩ := h
    rfl
  · obtain ⟨n, u, rfl, hF⟩ := h
    refine ⟨_, pss_one (ps_if (pt_not (pt_chain op_le op_lt pe_int (pv 1) (pv 0))) (pss_one (ps_raise rfl (takes_of rfl rfl rfl rfl) (pmk_e T.own_NoPerson bsL.fb T.iC_NoPerson T.tI_NoPerson (ok_i_NoPerson T) hr T.b_i_NoPerson pass0 (by rfl) T.gC_NoPerson (pa_cons (pv 1) pa_nil)))) pss_nil), ?_⟩
    refine ⟨_, rfl, 0, u, rfl, rfl, _, rfl, ?_⟩
    by_cases c : (0 : Int) ≤ u
    · rw [decide_eq_true c]
      refine iteT ⟨_, rfl, u, n, rfl, rfl, _, rfl, ?_⟩
      by_cases d : u < n
      · rw [if_neg (by rw [outP_no.mpr ⟨c, d⟩]; exact Bool.false_ne_true)] at hF
        rw [decide_eq_true d]
        exact iteX rfl hF
      · rw [if_pos (outP_yes.mpr fun z => d z.2)] at hF
        rw [decide_eq_false d]
        exact iteY rfl ⟨_, rfl, raised1 hF⟩
    · rw [if_pos (outP_yes.mpr fun z => c z.1)] at hF
      rw [decide_eq_false c]
      exact iteF ⟨_, rfl, iteY rfl ⟨_, rfl, raised1 hF⟩⟩
def spCallE (K : PySem.W.Frag) (C : Addr) : Sp := fun vs H Q E => ∃ (n : Int) (c : Addr) (p : Int × Int), vs = [.int n, .ref c] ∧ Sq K H c [.int p.1, .int p.2] ∧ Goes C (badP n p) H Q E
theorem oke_p_check_call (T : Env K mg) : FnOk P w K mg base (L2.CX P w) 4 T.f_p_check_call T.d_p_check_call ["size", "call"] (spCallE K T.C_NoPerson) := by
  have G1 : FnOk P w K mg base (L2.CX P w) 3 T.f_p_check_person T.d_p_check_person ["size", "person"] (spPersonE T.C_NoPerson) := oke_p_check_person T
  refine T.F_p_check_call.okX sc_p_check_call (fun vs H Q E h => ?_) (fun cdv A outer s H vs Q E hr h => ?_)
  · obtain ⟨n, c, p, rfl, _⟩ := h
    rfl
  · obtain ⟨n, c, p, rfl, hS, hF⟩ := h
    refine ⟨_, pss_one (ps_for (passes_of rfl) rfl (pi_seq (pv 1)) (pg_name (i := 2) sc_p_check_call.nd rfl (.inl rfl)) (pss_one (ps_expr (pe_callS G1 hr (by rfl) T.g_p_check_person T.F_p_check_person.kp T.b_p_check_person (fun σ => passAt (takes_of rfl rfl rfl rfl) σ) (pa_cons (pv 0) (pa_cons (pv 2) pa_nil)))))), ?_⟩
    refine ⟨.ref c, rfl, c, rfl, for_seq hS (fun i σ H' => H' = H ∧ (0 < i → outP n p.1 = false) ∧ (1 < i → outP n p.2 = false) ∧ ∃ y : Option V, σ = [some (.int n), some (.ref c), y]) ⟨rfl, fun z => absurd z (by omega), fun z => absurd z (by omega), none, rfl⟩ (fun i σ H' h => by rw [h.1]; exact Same.refl _) (fun i x σ H' hx h => ?_) (fun σ H' h => ?_)⟩
    · obtain ⟨rfl, b1, b2, y, rfl⟩ := h
      have hi : i < 2 := get_lt hx
      rcases (show i = 0 ∨ i = 1 by omega) with z | z
      · subst z
        cases Option.some.inj hx
        refine ⟨_, rfl, _, rfl, n, p.1, rfl, ?_⟩
        by_cases c1 : outP n p.1 = true
        · rw [if_pos c1]
          have : badP n p = some p.1 := if_pos c1
          rw [this] at hF
          exact hF
        · rw [if_neg c1]
          exact ⟨rfl, fun _ => Bool.eq_false_iff.mpr c1, fun z => absurd z (by omega), _, rfl⟩
      · subst z
        cases Option.some.inj hx
        refine ⟨_, rfl, _, rfl, n, p.2, rfl, ?_⟩
        have c0 := b1 (by omega)
        by_cases c1 : outP n p.2 = true
        · rw [if_pos c1]
          have : badP n p = some p.2 := by unfold badP; rw [if_neg (by rw [c0]; exact Bool.false_ne_true), if_pos c1]
          rw [this] at hF
          exact hF
        · rw [if_neg c1]
          exact ⟨rfl, fun _ => c0, fun _ => Bool.eq_false_iff.mpr c1, _, rfl⟩
    · obtain ⟨rfl, b1, b2, _⟩ := h
      have : badP n p = none := by unfold badP; rw [if_neg (by rw [b1 (by show 0 < 2; decide)]; exact Bool.false_ne_true), if_neg (by rw [b2 (by show 1 < 2; decide)]; exact Bool.false_ne_true)]
      rw [this] at hF
      exact hF
def spWordE (K : PySem.W.Frag) (C : Addr) : Sp := fun vs H Q E => ∃ (n : Int) (wd : Addr) (us : List V) (qs : List (Int × Int)), vs = [.int n, .ref wd] ∧ Sq K H wd us ∧ ItemsZ K H us qs ∧ Goes C (badW n qs) H Q E
theorem oke_p_check_word (T : Env K mg) : FnOk P w K mg base (L2.CX P w) 5 T.f_p_check_word T.d_p_check_word ["size", "word"] (spWordE K T.C_NoPerson) := by
  have G1 : FnOk P w K mg base (L2.CX P w) 4 T.f_p_check_call T.d_p_check_call ["size", "call"] (spCallE K T.C_NoPerson) := oke_p_check_call T
  refine T.F_p_check_word.okX sc_p_check_word (fun vs H Q E h => ?_) (fun cdv A outer s H vs Q E hr h => ?_)
  · obtain ⟨n, wd, us, qs, rfl, _⟩ := h
    rfl
  · obtain ⟨n, wd, us, qs, rfl, hS, hI, hF⟩ := h
    refine ⟨_, pss_one (ps_for (passes_of rfl) rfl (pi_seq (pv 1)) (pg_name (i := 2) sc_p_check_word.nd rfl (.inl rfl)) (pss_one (ps_expr (pe_callS G1 hr (by rfl) T.g_p_check_call T.F_p_check_call.kp T.b_p_check_call (fun σ => passAt (takes_of rfl rfl rfl rfl) σ) (pa_cons (pv 0) (pa_cons (pv 2) pa_nil)))))), ?_⟩
    refine ⟨.ref wd, rfl, wd, rfl, for_seq hS (fun i σ H' => H' = H ∧ badW n qs = badW n (qs.drop i) ∧ ∃ y : Option V, σ = [some (.int n), some (.ref wd), y]) ⟨rfl, rfl, none, rfl⟩ (fun i σ H' h => by rw [h.1]; exact Same.refl _) (fun i x σ H' hx h => ?_) (fun σ H' h => ?_)⟩
    · obtain ⟨rfl, hb, y, rfl⟩ := h
      obtain ⟨c, p, rfl, hp, hq⟩ := hI.2 i x hx
      have hd : qs.drop i = p :: qs.drop (i + 1) := by
        obtain ⟨hl, e⟩ := List.getElem?_eq_some_iff.mp hp
        rw [List.drop_eq_getElem_cons hl, e]
      refine ⟨_, rfl, _, rfl, n, c, p, rfl, hq, ?_⟩
      cases e : badP n p with
      | some u =>
        have : badW n qs = some u := by
          rw [hb, hd]
          show (match badP n p with | some u => some u | none => badW n (qs.drop (i + 1))) = some u
          rw [e]
        rw [this] at hF
        exact hF
      | none =>
        refine ⟨rfl, ?_, _, rfl⟩
        rw [hb, hd]
        show (match badP n p with | some u => some u | none => badW n (qs.drop (i + 1))) = _
        rw [e]
    · obtain ⟨rfl, hb, _⟩ := h
      rw [hI.1, List.drop_length] at hb
      rw [hb] at hF
      exact hF
end
end Pc
namespace Pc
open PySem PySem.Spec PyProof.Rows L2 RZ
section
variable {P : Program} {w : World} {K : PySem.W.Frag} {mg : Str → Option Value} {base : Heap}
/-! ### the looks at calls: valid ones raise nothing -/
def spCheckPerson : Sp := fun vs H Q _ => ∃ (n u : Nat), vs = [.int n, .int u] ∧ u < n ∧ Q .non H
theorem ok_p_check_person (T : Env K mg) : FnOk P w K mg base CX0 1 T.f_p_check_person T.d_p_check_person ["size", "person"] spCheckPerson := by
  refine T.F_p_check_person.ok sc_p_check_person (fun vs H Q E h => ?_) (fun cdv A outer s H vs Q E hr h => ?_)
  · obtain ⟨n, u, rfl, _⟩ := h
    rfl
  · obtain ⟨n, u, rfl, hu, q⟩ := h
    refine ⟨_, pss_one (ps_if (pt_not (pt_chain op_le op_lt pe_int (pv 1) (pv 0))) pss_never pss_nil), ?_⟩
    refine ⟨_, rfl, 0, u, rfl, rfl, _, rfl, ?_⟩
    rw [decide_eq_true (show (0 : Int) ≤ (u : Int) by omega)]
    refine iteT ⟨.int n, rfl, u, n, rfl, rfl, _, rfl, ?_⟩
    rw [decide_eq_true (show (u : Int) < (n : Int) by omega)]
    exact iteN q
def spCheckCall (K : PySem.W.Frag) : Sp := fun vs H Q _ => ∃ (n a b : Nat) (c : Addr), vs = [.int n, .ref c] ∧ Sq K H c [.int a, .int b] ∧ a < n ∧ b < n ∧ Q .non H
theorem ok_p_check_call (T : Env K mg) : FnOk P w K mg base CX0 2 T.f_p_check_call T.d_p_check_call ["size", "call"] (spCheckCall K) := by
  have G1 : FnOk P w K mg base CX0 1 T.f_p_check_person T.d_p_check_person ["size", "person"] spCheckPerson := ok_p_check_person T
  refine T.F_p_check_call.ok sc_p_check_call (fun vs H Q E h => ?_) (fun cdv A outer s H vs Q E hr h => ?_)
  · obtain ⟨n, a, b, c, rfl, _⟩ := h
    rfl
  · obtain ⟨n, a, b, c, rfl, hS, ha, hb, q⟩ := h
    refine ⟨_, pss_one (ps_for PassesOwn.never rfl (pi_seq (pv 1)) (pg_name (i := 2) sc_p_check_call.nd rfl (.inl rfl)) (pss_one (ps_expr (pe_call G1 hr (by rfl) T.g_p_check_person T.F_p_check_person.kp T.b_p_check_person .nil pass0 (pa_cons (pv 0) (pa_cons (pv 2) pa_nil)))))), ?_⟩
    refine ⟨.ref c, rfl, c, rfl, for_seq hS (fun i σ H' => H' = H ∧ ∃ y : Option V, σ = [some (.int n), some (.ref c), y]) ⟨rfl, none, rfl⟩ (fun i σ H' h => by rw [h.1]; exact Same.refl _) (fun i x σ H' hx h => ?_) (fun σ H' h => by rw [h.1]; exact q)⟩
    obtain ⟨rfl, y, rfl⟩ := h
    have hx' : ∃ u : Nat, x = .int u ∧ u < n := by
      have hi : i < 2 := get_lt hx
      rcases (show i = 0 ∨ i = 1 by omega) with z | z
      · subst z; exact ⟨a, (Option.some.inj hx).symm, ha⟩
      · subst z; exact ⟨b, (Option.some.inj hx).symm, hb⟩
    obtain ⟨u, rfl, hu⟩ := hx'
    exact ⟨_, rfl, _, rfl, n, u, rfl, hu, rfl, _, rfl⟩
def spCheckWord (K : PySem.W.Frag) : Sp := fun vs H Q _ => ∃ (n : Nat) (wd : Addr) (us : List V) (qs : List (Nat × Nat)), vs = [.int n, .ref wd] ∧ Sq K H wd us ∧ Items K H us qs ∧ Calls n qs ∧ Q .non H
theorem ok_p_check_word (T : Env K mg) : FnOk P w K mg base CX0 3 T.f_p_check_word T.d_p_check_word ["size", "word"] (spCheckWord K) := by
  have G1 : FnOk P w K mg base CX0 2 T.f_p_check_call T.d_p_check_call ["size", "call"] (spCheckCall K) := ok_p_check_call T
  refine T.F_p_check_word.ok sc_p_check_word (fun vs H Q E h => ?_) (fun cdv A outer s H vs Q E hr h => ?_)
  · obtain ⟨n, wd, us, qs, rfl, _⟩ := h
    rfl
  · obtain ⟨n, wd, us, qs, rfl, hS, hI, hc, q⟩ := h
    refine ⟨_, pss_one (ps_for PassesOwn.never rfl (pi_seq (pv 1)) (pg_name (i := 2) sc_p_check_word.nd rfl (.inl rfl)) (pss_one (ps_expr (pe_call G1 hr (by rfl) T.g_p_check_call T.F_p_check_call.kp T.b_p_check_call .nil pass0 (pa_cons (pv 0) (pa_cons (pv 2) pa_nil)))))), ?_⟩
    refine ⟨.ref wd, rfl, wd, rfl, for_seq hS (fun i σ H' => H' = H ∧ ∃ y : Option V, σ = [some (.int n), some (.ref wd), y]) ⟨rfl, none, rfl⟩ (fun i σ H' h => by rw [h.1]; exact Same.refl _) (fun i x σ H' hx h => ?_) (fun σ H' h => by rw [h.1]; exact q)⟩
    obtain ⟨rfl, y, rfl⟩ := h
    obtain ⟨c, p, rfl, hp, hq⟩ := hI.2 i x hx
    have := hc p (List.mem_of_getElem? hp)
    exact ⟨.int n, rfl, .ref c, rfl, n, p.1, p.2, c, rfl, hq, by omega, by omega, rfl, _, rfl⟩
/-! ### join_two -/
end
end Pc
namespace Pc
open PySem PySem.Spec PyProof.Rows L2 RZ
/-- a comprehension over a list or a tuple that stays as it is -/
theorem lc_seq' {K : PySem.W.Frag} {a : Addr} {xs : List V} {g : TG} {tt : TT} {te : TE} {vs : List Nat} {σ : L2.St} {H0 H1 : Hp} {Qd : Addr → Hp → Prop} (hS : Sq K H0 a xs) (s0 : Same H0 H1)
    (step : ∀ D, H1 D = none → ∃ Pv : Nat → Hp → Prop, Pv 0 (upd H1 D (.lst [])) ∧ (∀ i H', Pv i H' → Same H0 H') ∧ (∀ i x H', xs[i]? = some x → Pv i H' → g x (wipe σ vs) H' fun σ2 H2 => wipe σ2 vs = wipe σ vs ∧ tt σ2 H2 fun b H3 =>
      if b = true then te σ2 H3 fun y H4 => ∃ acc, H4 D = some (.lst acc) ∧ acc.length < sizeLine ∧ Pv (i + 1) (upd H4 D (.lst (acc ++ [y]))) else Pv (i + 1) H3) ∧ ∀ H', Pv xs.length H' → Qd D H') :
    ((∃ ys, SqL K H1 a ys) ∧ ∀ D, H1 D = none → ∃ W : Nat → Nat → Hp → Prop, (∃ m, W 0 m (upd H1 D (.lst []))) ∧ ∀ i m H, W i m H → ((Itl K a).stop i H ∧ Qd D H) ∨ ((Itl K a).go i H ∧ ∃ Nx : Hp → Prop, (∀ H', Nx H' → ∃ m', m' < m ∧ W (i + 1) m' H') ∧ ∀ x H', (Itl K a).yld i H x H' → g x (wipe σ vs) H' fun σ2 H2 => wipe σ2 vs = wipe σ vs ∧ tt σ2 H2 fun b H3 =>
        if b = true then te σ2 H3 fun y H4 => ∃ acc, H4 D = some (.lst acc) ∧ acc.length < sizeLine ∧ Nx (upd H4 D (.lst (acc ++ [y]))) else Nx H3)) ∨
    ((∃ ys, SqT K H1 a ys) ∧ ∀ D, H1 D = none → ∃ W : Nat → Nat → Hp → Prop, (∃ m, W 0 m (upd H1 D (.lst []))) ∧ ∀ i m H, W i m H → ((Itt K a).stop i H ∧ Qd D H) ∨ ((Itt K a).go i H ∧ ∃ Nx : Hp → Prop, (∀ H', Nx H' → ∃ m', m' < m ∧ W (i + 1) m' H') ∧ ∀ x H', (Itt K a).yld i H x H' → g x (wipe σ vs) H' fun σ2 H2 => wipe σ2 vs = wipe σ vs ∧ tt σ2 H2 fun b H3 =>
        if b = true then te σ2 H3 fun y H4 => ∃ acc, H4 D = some (.lst acc) ∧ acc.length < sizeLine ∧ Nx (upd H4 D (.lst (acc ++ [y]))) else Nx H3)) := by
  rcases hS with h | h
  · refine .inl ⟨⟨_, s0.seq h⟩, fun D nD => ?_⟩
    obtain ⟨Pv, h0, hst, hs, hd⟩ := step D nD
    exact lc_list Pv h0 (fun i H' _ p => (hst i H' p).seq h) hs hd
  · refine .inr ⟨⟨_, same_tup s0 h⟩, fun D nD => ?_⟩
    obtain ⟨Pv, h0, hst, hs, hd⟩ := step D nD
    exact lc_tup Pv h0 (fun i H' _ p => same_tup (hst i H' p) h) hs hd
end Pc
namespace Pc
open PySem PySem.Spec PyProof.Rows L2 RZ
/-! ### moved lists -/
structure Mvd (n : Nat) (js pl r : List Nat) : Prop where
  len : r.length = n
  at_ : ∀ i, i < n → r.getD (pl.getD i 0) 0 = pl.getD (js.getD i 0) 0
theorem pm_len {n : Nat} {pl : List Nat} (hp : pl.Perm (List.range n)) : pl.length = n := by rw [hp.length_eq, List.length_range]
theorem getD_some {l : List Nat} {i : Nat} (h : i < l.length) : l[i]? = some (l.getD i 0) := by rw [List.getD_eq_getElem?_getD, List.getElem?_eq_getElem h]; rfl
theorem pm_lt {n : Nat} {pl : List Nat} (hp : pl.Perm (List.range n)) {i : Nat} (hi : i < n) : pl.getD i 0 < n := by
  have := List.mem_of_getElem? (getD_some (l := pl) (i := i) (by rw [pm_len hp]; exact hi))
  exact List.mem_range.mp (hp.mem_iff.mp this)
theorem pm_inj {n : Nat} {pl : List Nat} (hp : pl.Perm (List.range n)) {i j : Nat} (hi : i < n) (hj : j < n) (e : pl.getD i 0 = pl.getD j 0) : i = j := by
  have hl := pm_len hp
  have a := getD_some (l := pl) (i := i) (by omega)
  have b := getD_some (l := pl) (i := j) (by omega)
  rw [e] at a
  exact nd_ix (hp.nodup_iff.mpr List.nodup_range) a b
theorem pm_sur {n : Nat} {pl : List Nat} (hp : pl.Perm (List.range n)) {y : Nat} (hy : y < n) : ∃ i, i < n ∧ pl.getD i 0 = y := by
  obtain ⟨i, hi, e⟩ := List.mem_iff_getElem.mp (hp.mem_iff.mpr (List.mem_range.mpr hy))
  refine ⟨i, by rw [← pm_len hp]; exact hi, ?_⟩
  rw [List.getD_eq_getElem?_getD, List.getElem?_eq_getElem hi, e]; rfl
theorem Mvd.det {n : Nat} {js pl r r' : List Nat} (hp : pl.Perm (List.range n)) (h : Mvd n js pl r) (g : Mvd n js pl r') : r = r' := by
  refine list_d (by rw [h.len, g.len]) fun y hy => ?_
  rw [h.len] at hy
  obtain ⟨i, hi, rfl⟩ := pm_sur hp hy
  rw [h.at_ i hi, g.at_ i hi]
theorem Mvd.pair {n : Nat} {js pl r : List Nat} (hp : pl.Perm (List.range n)) (hj : IsPair n js) (h : Mvd n js pl r) : IsPair n r := by
  refine ⟨h.len, fun x hx => ?_⟩
  obtain ⟨i, hi, rfl⟩ := pm_sur hp hx
  obtain ⟨j1, j2, j3, _⟩ := hj.d hi
  have hlt := pm_lt hp j1
  refine ⟨pl.getD (js.getD i 0) 0, ?_, hlt, fun e => j2 (pm_inj hp j1 hi e), ?_⟩
  · rw [getD_some (by rw [h.len]; exact hx), h.at_ i hi]
  · rw [getD_some (by rw [h.len]; exact hlt), h.at_ _ j1, j3]
theorem getD_set (fs : List Nat) {a z v : Nat} (ha : a < fs.length) : (fs.set a v).getD z 0 = if z = a then v else fs.getD z 0 := by
  rw [List.getD_eq_getElem?_getD, List.getElem?_set]
  by_cases c : z = a
  · rw [if_pos c, if_pos c.symm, if_pos ha]; rfl
  · rw [if_neg c, if_neg (Ne.symm c), ← List.getD_eq_getElem?_getD]
def MvI (n : Nat) (js pl fs : List Nat) (i : Nat) : Prop := fs.length = n ∧ ∀ j, j < i → fs.getD (pl.getD j 0) 0 = pl.getD (js.getD j 0) 0
theorem MvI.step {n i : Nat} {js pl fs : List Nat} (hp : pl.Perm (List.range n)) (hi : i < n) (h : MvI n js pl fs i) : MvI n js pl (fs.set (pl.getD i 0) (pl.getD (js.getD i 0) 0)) (i + 1) := by
  refine ⟨by rw [List.length_set]; exact h.1, fun j hj => ?_⟩
  rw [getD_set fs (by rw [h.1]; exact pm_lt hp hi)]
  by_cases c : j = i
  · subst c; rw [if_pos rfl]
  · rw [if_neg (fun e => c (pm_inj hp (by omega) hi e))]
    exact h.2 j (by omega)
/-- the new places of the ends -/
def pl2 (n : Nat) (pl : List Nat) : List Nat := pl ++ pl.map (n + ·)
theorem pl2_lo {n e : Nat} {pl : List Nat} (hl : pl.length = n) (he : e < n) : (pl2 n pl).getD e 0 = pl.getD e 0 := by
  unfold pl2
  rw [List.getD_eq_getElem?_getD, List.getElem?_append_left (by omega), ← List.getD_eq_getElem?_getD]
theorem pl2_hi {n e : Nat} {pl : List Nat} (hl : pl.length = n) (he : e < n) : (pl2 n pl).getD (n + e) 0 = n + pl.getD e 0 := by
  unfold pl2
  rw [List.getD_eq_getElem?_getD, List.getElem?_append_right (by omega), hl, show n + e - n = e by omega, List.getElem?_map, getD_some (by omega)]; rfl
theorem pl2_perm {n : Nat} {pl : List Nat} (hp : pl.Perm (List.range n)) : (pl2 n pl).Perm (List.range (2 * n)) := by
  have e : List.range (2 * n) = List.range n ++ (List.range n).map (n + ·) := by rw [show 2 * n = n + n by omega, List.range_add]
  rw [e]
  exact hp.append (hp.map _)
/-- two groups, one behind the other -/
def jnd (a b : List Nat) : List Nat := a ++ b.map (a.length + ·)
theorem jnd_lo {a b : List Nat} {e : Nat} (he : e < a.length) : (jnd a b).getD e 0 = a.getD e 0 := by
  unfold jnd
  rw [List.getD_eq_getElem?_getD, List.getElem?_append_left he, ← List.getD_eq_getElem?_getD]
theorem jnd_hi {a b : List Nat} {e : Nat} (he : e < b.length) : (jnd a b).getD (a.length + e) 0 = a.length + b.getD e 0 := by
  unfold jnd
  rw [List.getD_eq_getElem?_getD, List.getElem?_append_right (by omega), show a.length + e - a.length = e by omega, List.getElem?_map, getD_some he]; rfl
theorem jnd_len (a b : List Nat) : (jnd a b).length = a.length + b.length := by unfold jnd; rw [List.length_append, List.length_map]
theorem jnd_pair {n m : Nat} {a b : List Nat} (ha : IsPair n a) (hb : IsPair m b) : IsPair (n + m) (jnd a b) := by
  have la := ha.len
  have lb := hb.len
  refine ⟨by rw [jnd_len, la, lb], fun x hx => ?_⟩
  by_cases c : x < n
  · obtain ⟨h1, h2, h3, _⟩ := ha.d c
    refine ⟨a.getD x 0, ?_, by omega, h2, ?_⟩
    · rw [getD_some (by rw [jnd_len]; omega), jnd_lo (by omega)]
    · rw [getD_some (by rw [jnd_len]; omega), jnd_lo (by omega), h3]
  · obtain ⟨y, rfl⟩ : ∃ y, x = a.length + y := ⟨x - n, by omega⟩
    obtain ⟨h1, h2, h3, _⟩ := hb.d (show y < m by omega)
    refine ⟨a.length + b.getD y 0, ?_, by omega, by omega, ?_⟩
    · rw [getD_some (by rw [jnd_len]; omega), jnd_hi (by omega)]
    · rw [getD_some (by rw [jnd_len]; omega), jnd_hi (by omega), h3]
/-- where the ends of two sheets side by side go -/
def plj (n m : Nat) : List Nat := List.range n ++ (List.range n).map (n + m + ·) ++ (List.range m).map (n + ·) ++ (List.range m).map (n + m + n + ·)
end Pc
namespace Pc
open PySem PySem.Spec PyProof.Rows L2 RZ
theorem cut_tk (vs : List V) (i : Nat) : cutV vs none (some (i : Int)) = vs.take i := by
  unfold cutV
  rw [HT.sIx_none, HT.sIx_nat, List.drop_zero, Nat.sub_zero]
  by_cases h : i ≤ vs.length
  · rw [Nat.min_eq_left h]
  · rw [Nat.min_eq_right (by omega), List.take_of_length_le (Nat.le_refl _), List.take_of_length_le (by omega)]
theorem cut_dr (vs : List V) (i : Nat) : cutV vs (some (i : Int)) none = vs.drop i := by
  unfold cutV
  rw [HT.sIx_none, HT.sIx_nat]
  by_cases h : i ≤ vs.length
  · rw [Nat.min_eq_left h, List.take_of_length_le (by rw [List.length_drop]; omega)]
  · rw [Nat.min_eq_right (by omega), List.drop_of_length_le (Nat.le_refl _), List.drop_of_length_le (by omega), List.take_nil]
theorem rng_take (n m : Nat) : (List.range (n + m)).take n = List.range n := by
  rw [List.range_add, List.take_append_of_le_length (by rw [List.length_range]; exact Nat.le_refl _), List.take_of_length_le (by rw [List.length_range]; exact Nat.le_refl _)]
theorem rng_drop (n m : Nat) : (List.range (n + m)).drop n = (List.range m).map (n + ·) := by
  rw [List.range_add, List.drop_append_of_le_length (by rw [List.length_range]; exact Nat.le_refl _), List.drop_of_length_le (by rw [List.length_range]; exact Nat.le_refl _), List.nil_append]
theorem nv_take (l : List Nat) (k : Nat) : (nv l).take k = nv (l.take k) := by unfold nv; rw [List.map_take]
theorem nv_drop (l : List Nat) (k : Nat) : (nv l).drop k = nv (l.drop k) := by unfold nv; rw [List.map_drop]
theorem nv_app (l m : List Nat) : nv l ++ nv m = nv (l ++ m) := by unfold nv; rw [List.map_append]
theorem plj_perm (n m : Nat) : (plj n m).Perm (List.range (2 * (n + m))) := by
  have e : List.range (2 * (n + m)) = List.range n ++ ((List.range m).map (n + ·) ++ ((List.range n).map (n + m + ·) ++ (List.range m).map (n + m + n + ·))) := by
    rw [show 2 * (n + m) = (n + m) + (n + m) by omega, List.range_add, List.range_add (n := n), List.map_append, List.map_map, List.append_assoc]
    refine congrArg (fun z => List.range n ++ (List.map (fun x => n + x) (List.range m) ++ (List.map (fun x => n + m + x) (List.range n) ++ z))) (List.map_congr_left fun x _ => ?_)
    show n + m + (n + x) = _
    omega
  rw [e]
  unfold plj
  rw [List.append_assoc, List.append_assoc]
  refine List.Perm.append_left _ ?_
  rw [← List.append_assoc, ← List.append_assoc]
  exact List.Perm.append_right _ List.perm_append_comm
theorem plj_len (n m : Nat) : (plj n m).length = 2 * (n + m) := by rw [(plj_perm n m).length_eq, List.length_range]
theorem getD_app1 {a b : List Nat} {e : Nat} (h : e < a.length) : (a ++ b).getD e 0 = a.getD e 0 := by rw [List.getD_eq_getElem?_getD, List.getElem?_append_left h, ← List.getD_eq_getElem?_getD]
theorem getD_app2 {a b : List Nat} {e k : Nat} (h : a.length = k) : (a ++ b).getD (k + e) 0 = b.getD e 0 := by rw [List.getD_eq_getElem?_getD, List.getElem?_append_right (by omega), h, show k + e - k = e by omega, ← List.getD_eq_getElem?_getD]
theorem getD_shift {k n e : Nat} (h : e < n) : ((List.range n).map (k + ·)).getD e 0 = k + e := by
  rw [List.getD_eq_getElem?_getD, List.getElem?_map, List.getElem?_range h]; rfl
/-- the first sheet's ends -/
def p1 (n m e : Nat) : Nat := if e < n then e else m + e
/-- the second sheet's ends -/
def p2 (n m e : Nat) : Nat := if e < m then n + e else n + n + e
theorem plj_1 {n m e : Nat} (h : e < 2 * n) : (plj n m).getD e 0 = p1 n m e := by
  unfold plj p1
  rw [getD_app1 (by simp; omega), getD_app1 (by simp; omega)]
  by_cases c : e < n
  · rw [getD_app1 (by simpa using c), if_pos c, List.getD_eq_getElem?_getD, List.getElem?_range c]; rfl
  · obtain ⟨z, rfl⟩ : ∃ z, e = n + z := ⟨e - n, by omega⟩
    rw [getD_app2 (by simp), getD_shift (by omega), if_neg c]; omega
theorem plj_2 {n m e : Nat} (h : e < 2 * m) : (plj n m).getD (2 * n + e) 0 = p2 n m e := by
  unfold plj p2
  by_cases c : e < m
  · rw [getD_app1 (by simp; omega), getD_app2 (by simp; omega), getD_shift c, if_pos c]
  · obtain ⟨z, rfl⟩ : ∃ z, e = m + z := ⟨e - m, by omega⟩
    rw [show 2 * n + (m + z) = (2 * n + m) + z by omega, getD_app2 (by simp; omega), getD_shift (by omega), if_neg c]; omega
end Pc
namespace Pc
open PySem PySem.Spec PyProof.Rows L2 RZ
section
variable {P : Program} {w : World} {K : PySem.W.Frag} {mg : Str → Option Value} {base : Heap}
/-! ### moved -/
def spMoved (K : PySem.W.Frag) : Sp := fun vs H Q _ => ∃ (a p : Addr) (js pl : List Nat) (n : Nat), vs = [.ref a, .ref p] ∧ Sq K H a (nv js) ∧ Sq K H p (nv pl) ∧ pl.Perm (List.range n) ∧ js.length = n ∧ (∀ j ∈ js, j < n) ∧ n ≤ 1000 ∧
  ∀ (H' : Hp) (t : Addr) (r : List Nat), Mvd n js pl r → Same H H' → H t = none → H' t = some (.tup (nv r)) → Q (.ref t) H'
theorem ok_p_moved (T : Env K mg) : FnOk P w K mg base CX0 1 T.f_p_moved T.d_p_moved ["joins", "places"] (spMoved K) := by
  refine T.F_p_moved.ok sc_p_moved (fun vs H Q E h => ?_) (fun cdv A outer s H vs Q E hr h => ?_)
  · obtain ⟨a, p, js, pl, n, rfl, _⟩ := h
    rfl
  · obtain ⟨a, p, js, pl, n, rfl, ha, hp, hpm, hl, hlt, hn, q⟩ := h
    refine ⟨_, pss_cons (ps_set (i := 2) sc_p_moved.nd rfl (.inl rfl) (pe_op op_rep (pe_lst (pa_cons pe_int pa_nil)) (pe_callB call_len_seq (by rfl) T.n_len PySem.boot_len (pa_cons (pv 0) pa_nil)))) <|
      pss_cons (ps_for PassesOwn.never rfl (pi_enumA (by rfl) T.n_enumerate (pa_cons (pv 0) pa_nil)) (pg_tup (by rfl) (pgs_cons (pg_name (i := 3) sc_p_moved.nd rfl (.inl rfl)) (pgs_cons (pg_name (i := 4) sc_p_moved.nd rfl (.inl rfl)) pgs_nil)))
        (pss_one (ps_asg (pe_ix ix_seq (pv 1) (pv 4) (fun _ _ => rfl)) (pg_sub (pv 2) (pe_ix ix_seq (pv 1) (pv 3) (fun _ _ => rfl)) set_list)))) <|
      pss_one (ps_ret (pe_callTy call_tuple_of (by rfl) T.n_tuple (by decide +kernel) (pa_cons (pv 2) pa_nil))), ?_⟩
    have hpl := pm_len hpm
    refine ⟨by show 1 ≤ sizeLine; decide, fun e ne => ?_⟩
    have s0 : Same H (upd H e (.lst [.int 0])) := same_new ne
    refine ⟨.ref a, rfl, a, nv js, rfl, ha.same s0, e, _, [.int 0], rfl, rfl, upd_same, by omega, ?_, ?_, fun f nf => ?_⟩
    · rw [nv_length]; omega
    · show 1 * Int.toNat ((nv js).length : Int) ≤ sizeLine
      rw [nv_length]
      exact Nat.le_of_lt (small1000 (by omega))
    have e0 : (List.replicate (((nv js).length : Int)).toNat [V.int 0]).flatten = nv (List.replicate n 0) := by
      rw [rep_flat, nv_length, show ((js.length : Int)).toNat = n by omega]
      unfold nv
      rw [List.map_replicate]; rfl
    have s1 : Same H _ := s0.trans (same_new (o := .lst (List.replicate (((nv js).length : Int)).toNat [V.int 0]).flatten) nf)
    have nf0 : H f = none := s0.free nf
    have turn : ∀ (i : Nat) (x : V) (σ : L2.St) (H1 H2 : Hp), i < (nv js).length → (Same H H1 ∧ ∃ (y3 y4 : Option V) (fs : List Nat), σ = [some (.ref a), some (.ref p), some (.ref f), y3, y4] ∧ H1 f = some (.lst (nv fs)) ∧ MvI n js pl fs i) → YPair (fun i => some (.int (i : Nat))) (fun i => (nv js)[i]?) i H1 x H2 →
        ∀ N : L2.St → Hp → Prop, (∀ σ' H', (Same H H' ∧ ∃ (y3 y4 : Option V) (fs : List Nat), σ' = [some (.ref a), some (.ref p), some (.ref f), y3, y4] ∧ H' f = some (.lst (nv fs)) ∧ MvI n js pl fs (i + 1)) → N σ' H') →
        gTup K 2 (gCons (gName 3) (gCons (gName 4) gNil)) x σ H2 fun σ2 H2 => ∃ v1, σ2[1]? = some (some v1) ∧ ∃ v4, σ2[4]? = some (some v4) ∧ rIx K v1 v4 H2 fun u H3 => ∃ v2, σ2[2]? = some (some v2) ∧ ∃ w1, σ2[1]? = some (some w1) ∧ ∃ v3, σ2[3]? = some (some v3) ∧ rIx K w1 v3 H3 fun z H4 => rSetL v2 z u H4 fun H5 => N σ2 H5 := by
      intro i x σ H1 H2 hi hPv y N hN
      obtain ⟨sm, y3, y4, fs, rfl, ef, mi⟩ := hPv
      obtain ⟨t, v1, v2, rfl, nt, rfl, g1, g2⟩ := y
      have ev1 : v1 = .int (i : Nat) := (Option.some.inj g1).symm
      obtain ⟨z, ez, ev2⟩ := nv_get' g2
      subst ev1 ev2
      rw [nv_length, hl] at hi
      have hz := hlt z (List.mem_of_getElem? ez)
      have st : Same H1 (upd H1 t (.tup [.int (i : Nat), .int z])) := same_new nt
      have hp2 : Sq K (upd H1 t (.tup [.int (i : Nat), .int z])) p (nv pl) := hp.same (sm.trans st)
      have g3 : atI (nv pl) ((z : Nat) : Int) = some (.int (pl.getD z 0 : Nat)) := nv_at (getD_some (by omega))
      have g4 : atI (nv pl) ((i : Nat) : Int) = some (.int (pl.getD i 0 : Nat)) := nv_at (getD_some (by omega))
      have hli := pm_lt hpm hi
      refine ⟨t, _, rfl, .inl (.inl upd_same), rfl, _, _, rfl, _, _, rfl, rfl, _, rfl, _, rfl, ix_sq hp2 g3 ⟨_, rfl, _, rfl, _, rfl, ix_sq hp2 g4 ⟨f, _, _, pl.getD i 0, rfl, rfl, st _ _ ef, ixN_nat (by rw [nv_length, mi.1]; exact hli), hN _ _ ⟨fun b o hb => ?_, _, _, fs.set (pl.getD i 0) (pl.getD z 0), rfl, ?_, ?_⟩⟩⟩⟩
      · rw [upd_ne (ne_of_none hb nf0)]; exact st _ _ (sm _ _ hb)
      · rw [upd_same, nv_set]
      · have := mi.step hpm hi
        rw [show js.getD i 0 = z from getD_of ez] at this
        exact this
    have start : Same H (upd (upd H e (.lst [.int 0])) f (.lst (List.replicate (((nv js).length : Int)).toNat [V.int 0]).flatten)) ∧ ∃ (y3 y4 : Option V) (fs : List Nat), ([some (.ref a), some (.ref p), some (.ref f), none, none] : L2.St) = [some (.ref a), some (.ref p), some (.ref f), y3, y4] ∧ (upd (upd H e (.lst [.int 0])) f (.lst (List.replicate (((nv js).length : Int)).toNat [V.int 0]).flatten)) f = some (.lst (nv fs)) ∧ MvI n js pl fs 0 :=
      ⟨s1, none, none, List.replicate n 0, rfl, by rw [upd_same, e0], by rw [List.length_replicate], fun j hj => absurd hj (Nat.not_lt_zero _)⟩
    have fin : ∀ (σ : L2.St) (H' : Hp), (Same H H' ∧ ∃ (y3 y4 : Option V) (fs : List Nat), σ = [some (.ref a), some (.ref p), some (.ref f), y3, y4] ∧ H' f = some (.lst (nv fs)) ∧ MvI n js pl fs (nv js).length) → ∃ v, σ[2]? = some (some v) ∧ ∃ (p : Addr) (ys : List V), [v] = [.ref p] ∧ ((SqL K H' p ys ∧ ∀ l, H' l = none → Q (.ref l) (upd H' l (.tup ys))) ∨ (SqT K H' p ys ∧ Q (.ref p) H')) := by
      rintro σ H' ⟨sm, y3, y4, fs, rfl, ef, mi⟩
      rw [nv_length, hl] at mi
      exact ⟨_, rfl, f, _, rfl, .inl ⟨.inl (.inl ef), fun l nl => q _ l fs ⟨mi.1, mi.2⟩ (sm.trans (same_new nl)) (sm.free nl) upd_same⟩⟩
    rcases ha with ha | ha
    · refine ⟨.ref a, rfl, a, nv js, rfl, .inl ⟨s1.seq ha, ?_⟩⟩
      exact for_it walk_enum _ start (fun i σ H' _ h => h.1.seq ha) (fun i x σ H1 H2 hi hP' y => turn i x σ H1 H2 hi hP' y _ fun _ _ z => z) fin
    · refine ⟨.ref a, rfl, a, nv js, rfl, .inr ⟨same_tup s1 ha, ?_⟩⟩
      exact for_it walk_enumT _ start (fun i σ H' _ h => same_tup h.1 ha) (fun i x σ H1 H2 hi hP' y => turn i x σ H1 H2 hi hP' y _ fun _ _ z => z) fin
end
end Pc
namespace Pc
open PySem PySem.Spec PyProof.Rows L2 RZ
section
variable {P : Program} {w : World} {K : PySem.W.Frag} {mg : Str → Option Value} {base : Heap}
/-! ### renumbered -/
theorem ok_p_renumbered (T : Env K mg) : FnOk P w K mg base CX0 2 T.f_p_renumbered T.d_p_renumbered ["pairing", "numbers"] (spMoved K) := by
  have G : FnOk P w K mg base CX0 1 T.f_p_moved T.d_p_moved ["joins", "places"] (spMoved K) := ok_p_moved T
  refine T.F_p_renumbered.ok sc_p_renumbered (fun vs H Q E h => ?_) (fun cdv A outer s H vs Q E hr h => ?_)
  · obtain ⟨a, p, js, pl, n, rfl, _⟩ := h
    rfl
  · obtain ⟨a, p, js, pl, n, rfl, h⟩ := h
    refine ⟨_, pss_one (ps_ret (pe_call G hr (by rfl) T.g_p_moved T.F_p_moved.kp T.b_p_moved .nil pass0 (pa_cons (pv 0) (pa_cons (pv 1) pa_nil)))), ?_⟩
    exact ⟨_, rfl, _, rfl, a, p, js, pl, n, rfl, h⟩
end
end Pc
namespace Pc
open PySem PySem.Spec PyProof.Rows L2 RZ
section
variable {P : Program} {w : World} {K : PySem.W.Frag} {mg : Str → Option Value} {base : Heap}
/-! ### joined -/
def spJoined (K : PySem.W.Frag) : Sp := fun vs H Q _ => ∃ (a b : Addr) (x y : List Nat), vs = [.ref a, .ref b] ∧ Sq K H a (nv x) ∧ Sq K H b (nv y) ∧ x ≠ [] ∧ y ≠ [] ∧ x.length ≤ 1000 ∧ y.length ≤ 1000 ∧
  ∀ (H' : Hp) (t : Addr), Same H H' → H t = none → H' t = some (.tup (nv (jnd x y))) → Q (.ref t) H'
theorem map_take_nv {y : List Nat} {i z k : Nat} (h : y[i]? = some z) : nv ((y.take i).map (k + ·)) ++ [V.int ((k : Int) + (z : Int))] = nv ((y.take (i + 1)).map (k + ·)) := by
  rw [List.take_add_one, h, List.map_append]
  unfold nv
  rw [List.map_append]
  rfl
theorem ok_p_joined (T : Env K mg) : FnOk P w K mg base CX0 1 T.f_p_joined T.d_p_joined ["one", "other"] (spJoined K) := by
  refine T.F_p_joined.ok sc_p_joined (fun vs H Q E h => ?_) (fun cdv A outer s H vs Q E hr h => ?_)
  · obtain ⟨a, b, x, y, rfl, _⟩ := h
    rfl
  · obtain ⟨a, b, x, y, rfl, ha, hb, hx0, hy0, hx, hy, q⟩ := h
    refine ⟨_, pss_one (ps_ret (pe_op op_catT (pe_callTy call_tuple_of (by rfl) T.n_tuple (by decide +kernel) (pa_cons (pv 0) pa_nil)) (pe_callTy call_tuple_of (by rfl) T.n_tuple (by decide +kernel) (pa_cons
      (pe_lc (own := [("partner", 2)]) (g := gName 2) (tt := tYes) (te := tOp (rI0 fun i j => .int (i + j)) (tCB (fun xs H Q => ∃ p ys, xs = [V.ref p] ∧ (SqL K H p ys ∨ SqT K H p ys) ∧ Q (.int ys.length) H) (tCons (tVar 0) tNil)) (tVar 2)) (by rfl) sc_p_joined.nd (pi_seq (pv 1)) (blkOk_by (N := N_p_joined) (sc := defScope s_p_joined) (by decide +kernel))
        (fun _ _ _ _ _ => pg_name (i := 2) sc_p_joined.nd rfl (.inl rfl)) (fun _ _ _ _ _ => pts_nil)
        (fun _ _ _ _ _ => pe_op op_add (pe_callB call_len_seq (by rfl) T.n_len PySem.boot_len (pa_cons (pv 0) pa_nil)) (pv 2))) pa_nil)))), ?_⟩
    have hA := ha
    rcases ha with ha | ha
    · refine ⟨_, rfl, a, _, rfl, .inl ⟨ha, fun p np => ?_⟩⟩
      have s1 : Same H (upd H p (.tup (nv x))) := same_new np
      have hp : SqT K (upd H p (.tup (nv x))) p (nv x) := .inl (.inl upd_same)
      revert s1 hp; generalize upd H p (.tup (nv x)) = H1; intro s1 hp
      refine ⟨.ref b, rfl, b, rfl, lc_seq' hb s1 fun D nD => ⟨fun i H' => Same H1 H' ∧ H' D = some (.lst (nv ((y.take i).map (x.length + ·)))), ⟨same_new nD, upd_same⟩, fun i H' h => s1.trans h.1, fun i v H' hv h => ?_, fun H' h => ?_⟩⟩
      · obtain ⟨sm, eD⟩ := h
        obtain ⟨z, ez, rfl⟩ := nv_get' hv
        have hi := get_lt ez
        refine ⟨rfl, yes_if ⟨.ref a, rfl, a, nv x, rfl, hA.same (s1.trans sm), _, rfl, _, _, rfl, rfl, _, eD, ?_, fun c o hc => ?_, ?_⟩⟩
        · rw [nv_length, List.length_map]; exact small1000 (Nat.le_trans (List.length_take_le' _ _) hy)
        · rw [upd_ne (ne_of_none hc nD)]; exact sm _ _ hc
        · rw [upd_same, nv_length]; exact congrArg (fun l => some (HO.lst l)) (map_take_nv ez)
      · obtain ⟨sm, eD⟩ := h
        rw [nv_length, List.take_length] at eD
        refine ⟨D, _, rfl, .inl ⟨.inl (.inl eD), fun t nt => ?_⟩⟩
        refine ⟨p, t, nv x, _, rfl, rfl, same_tup (sm.trans (same_new nt)) hp, .inl (.inl upd_same), ?_, ?_, fun z => ?_, fun _ r nr => ?_⟩
        · exact fun z => hx0 (List.map_eq_nil_iff.mp z)
        · rw [nv_length, nv_length, List.length_map]; exact Nat.le_of_lt (line_big (by omega))
        · exact absurd (List.map_eq_nil_iff.mp (List.map_eq_nil_iff.mp z)) hy0
        · refine q _ r (s1.trans (sm.trans ((same_new nt).trans (same_new nr)))) ((s1.trans (sm.trans (same_new nt))).free nr) ?_
          rw [upd_same]
          unfold jnd nv
          rw [List.map_append]
    · refine ⟨_, rfl, a, _, rfl, .inr ⟨ha, ?_⟩⟩
      have s1 : Same H H := Same.refl H
      refine ⟨.ref b, rfl, b, rfl, lc_seq' hb s1 fun D nD => ⟨fun i H' => Same H H' ∧ H' D = some (.lst (nv ((y.take i).map (x.length + ·)))), ⟨same_new nD, upd_same⟩, fun i H' h => s1.trans h.1, fun i v H' hv h => ?_, fun H' h => ?_⟩⟩
      · obtain ⟨sm, eD⟩ := h
        obtain ⟨z, ez, rfl⟩ := nv_get' hv
        have hi := get_lt ez
        refine ⟨rfl, yes_if ⟨.ref a, rfl, a, nv x, rfl, hA.same (s1.trans sm), _, rfl, _, _, rfl, rfl, _, eD, ?_, fun c o hc => ?_, ?_⟩⟩
        · rw [nv_length, List.length_map]; exact small1000 (Nat.le_trans (List.length_take_le' _ _) hy)
        · rw [upd_ne (ne_of_none hc nD)]; exact sm _ _ hc
        · rw [upd_same, nv_length]; exact congrArg (fun l => some (HO.lst l)) (map_take_nv ez)
      · obtain ⟨sm, eD⟩ := h
        rw [nv_length, List.take_length] at eD
        refine ⟨D, _, rfl, .inl ⟨.inl (.inl eD), fun t nt => ?_⟩⟩
        refine ⟨a, t, nv x, _, rfl, rfl, same_tup (sm.trans (same_new nt)) ha, .inl (.inl upd_same), ?_, ?_, fun z => ?_, fun _ r nr => ?_⟩
        · exact fun z => hx0 (List.map_eq_nil_iff.mp z)
        · rw [nv_length, nv_length, List.length_map]; exact Nat.le_of_lt (line_big (by omega))
        · exact absurd (List.map_eq_nil_iff.mp (List.map_eq_nil_iff.mp z)) hy0
        · refine q _ r (s1.trans (sm.trans ((same_new nt).trans (same_new nr)))) ((s1.trans (sm.trans (same_new nt))).free nr) ?_
          rw [upd_same]
          unfold jnd nv
          rw [List.map_append]
end
end Pc
namespace Pc
open PySem PySem.Spec PyProof.Rows L2 RZ
section
variable {P : Program} {w : World} {K : PySem.W.Frag} {mg : Str → Option Value} {base : Heap}
/-! ### sheet_renumbered -/
def spSRenum (K : PySem.W.Frag) : Sp := fun vs H Q _ => ∃ (a p : Addr) (f pl : List Nat) (n : Nat), vs = [.ref a, .ref p] ∧ Sq K H a (nv f) ∧ Sq K H p (nv pl) ∧ IsPair (2 * n) f ∧ pl.Perm (List.range n) ∧ n ≤ 500 ∧
  ∀ (H' : Hp) (t : Addr) (r : List Nat), Mvd (2 * n) f (pl2 n pl) r → Same H H' → H t = none → H' t = some (.tup (nv r)) → Q (.ref t) H'
theorem map_take_nv2 {y : List Nat} {i z k : Nat} (h : y[i]? = some z) : nv ((y.take i).map (k + ·)) ++ [V.int ((k : Int) + (z : Int))] = nv ((y.take (i + 1)).map (k + ·)) := by
  rw [List.take_add_one, h, List.map_append]
  unfold nv
  rw [List.map_append]
  rfl
theorem ok_p_sheet_renumbered (T : Env K mg) : FnOk P w K mg base CX0 2 T.f_p_sheet_renumbered T.d_p_sheet_renumbered ["sheet", "numbers"] (spSRenum K) := by
  have G : FnOk P w K mg base CX0 1 T.f_p_moved T.d_p_moved ["joins", "places"] (spMoved K) := ok_p_moved T
  have G0 : FnOk P w K mg base CX0 1 T.f_p_people_of T.d_p_people_of ["sheet"] (spPeople K) := ok_p_people_of T
  refine T.F_p_sheet_renumbered.ok sc_p_sheet_renumbered (fun vs H Q E h => ?_) (fun cdv A outer s H vs Q E hr h => ?_)
  · obtain ⟨a, p, f, pl, n, rfl, _⟩ := h
    rfl
  · obtain ⟨a, p, f, pl, n, rfl, ha, hp, hf, hpm, hn, q⟩ := h
    refine ⟨_, pss_cons (ps_set (i := 2) sc_p_sheet_renumbered.nd rfl (.inr rfl) (pe_call G0 hr (by rfl) T.g_p_people_of T.F_p_people_of.kp T.b_p_people_of .nil pass0 (pa_cons (pv 0) pa_nil))) <|
      pss_one (ps_ret (pe_call G hr (by rfl) T.g_p_moved T.F_p_moved.kp T.b_p_moved .nil pass0 (pa_cons (pv 0) (pa_cons (pe_op op_cat (pe_callTy call_list_of (by rfl) T.n_list (by decide +kernel) (pa_cons (pv 1) pa_nil))
        (pe_lc (own := [("number", 3)]) (g := gName 3) (tt := tYes) (te := tOp (rI0 fun i j => .int (i + j)) (tVar 2) (tVar 3)) (by rfl) sc_p_sheet_renumbered.nd (pi_seq (pv 1)) (blkOk_by (N := N_p_sheet_renumbered) (sc := defScope s_p_sheet_renumbered) (by decide +kernel))
          (fun _ _ _ _ _ => pg_name (i := 3) sc_p_sheet_renumbered.nd rfl (.inl rfl)) (fun _ _ _ _ _ => pts_nil) (fun _ _ _ _ _ => pe_op op_add (pv 2) (pv 3)))) pa_nil)))), ?_⟩
    have hl := pm_len hpm
    refine ⟨_, rfl, a, f, n, rfl, ha, hf.len, _, rfl, _, rfl, p, _, rfl, hp, fun l nl => ?_⟩
    have s1 : Same H (upd H l (.lst (nv pl))) := same_new nl
    have el : upd H l (.lst (nv pl)) l = some (.lst (nv pl)) := upd_same
    revert s1 el; generalize upd H l (.lst (nv pl)) = H1; intro s1 el
    refine ⟨.ref p, rfl, p, rfl, lc_seq' hp s1 fun D nD => ⟨fun i H' => Same H1 H' ∧ H' D = some (.lst (nv ((pl.take i).map (n + ·)))), ⟨same_new nD, upd_same⟩, fun i H' h => s1.trans h.1, fun i v H' hv h => ?_, fun H' h => ?_⟩⟩
    · obtain ⟨sm, eD⟩ := h
      obtain ⟨z, ez, rfl⟩ := nv_get' hv
      refine ⟨rfl, yes_if ⟨_, rfl, _, rfl, _, _, rfl, rfl, _, eD, ?_, fun c o hc => ?_, ?_⟩⟩
      · rw [nv_length, List.length_map]; exact small1000 (Nat.le_trans (List.length_take_le' _ _) (by omega))
      · rw [upd_ne (ne_of_none hc nD)]; exact sm _ _ hc
      · rw [upd_same]; exact congrArg (fun l => some (HO.lst l)) (map_take_nv2 ez)
    · obtain ⟨sm, eD⟩ := h
      rw [nv_length, List.take_length] at eD
      refine ⟨l, D, _, _, rfl, rfl, sm _ _ el, eD, ?_, fun c nc => ?_⟩
      · rw [nv_length, nv_length, List.length_map]; exact Nat.le_of_lt (small1000 (by omega))
      have s3 : Same H _ := s1.trans (sm.trans (same_new (o := .lst (nv pl ++ nv (pl.map (n + ·)))) nc))
      have ec : upd H' c (.lst (nv pl ++ nv (pl.map (n + ·)))) c = some (.lst (nv (pl2 n pl))) := by
        rw [upd_same]; unfold pl2 nv; rw [List.map_append]
      refine ⟨a, c, f, pl2 n pl, 2 * n, rfl, ha.same s3, .inl (.inl (.inl ec)), pl2_perm hpm, hf.len, hf.lt, by omega, fun H4 t r hr s4 nt et => ?_⟩
      exact q _ t r hr (s3.trans s4) (s3.free nt) et
end
end Pc
namespace Pc
open PySem PySem.Spec PyProof.Rows L2 RZ
section
variable {P : Program} {w : World} {K : PySem.W.Frag} {mg : Str → Option Value} {base : Heap}
/-! ### sheets_joined -/
def spSJoined (K : PySem.W.Frag) : Sp := fun vs H Q _ => ∃ (a b : Addr) (x y : List Nat) (n m : Nat), vs = [.ref a, .ref b] ∧ Sq K H a (nv x) ∧ Sq K H b (nv y) ∧ IsPair (2 * n) x ∧ IsPair (2 * m) y ∧ 0 < n ∧ 0 < m ∧ n + m ≤ 200 ∧
  ∀ (H' : Hp) (t : Addr) (r : List Nat), Mvd (2 * (n + m)) (jnd x y) (plj n m) r → Same H H' → H t = none → H' t = some (.tup (nv r)) → Q (.ref t) H'
theorem ok_p_sheets_joined (T : Env K mg) : FnOk P w K mg base CX0 2 T.f_p_sheets_joined T.d_p_sheets_joined ["one", "other"] (spSJoined K) := by
  have G : FnOk P w K mg base CX0 1 T.f_p_moved T.d_p_moved ["joins", "places"] (spMoved K) := ok_p_moved T
  have GJ : FnOk P w K mg base CX0 1 T.f_p_joined T.d_p_joined ["one", "other"] (spJoined K) := ok_p_joined T
  have G0 : FnOk P w K mg base CX0 1 T.f_p_people_of T.d_p_people_of ["sheet"] (spPeople K) := ok_p_people_of T
  refine T.F_p_sheets_joined.ok sc_p_sheets_joined (fun vs H Q E h => ?_) (fun cdv A outer s H vs Q E hr h => ?_)
  · obtain ⟨a, b, x, y, n, m, rfl, _⟩ := h
    rfl
  · obtain ⟨a, b, x, y, n, m, rfl, ha, hb, hx, hy, hn, hm, hnm, q⟩ := h
    refine ⟨_, pss_cons (ps_set (i := 2) sc_p_sheets_joined.nd rfl (.inl rfl) (pe_call G0 hr (by rfl) T.g_p_people_of T.F_p_people_of.kp T.b_p_people_of .nil pass0 (pa_cons (pv 0) pa_nil))) <|
      pss_cons (ps_set (i := 3) sc_p_sheets_joined.nd rfl (.inl rfl) (pe_op op_add (pv 2) (pe_call G0 hr (by rfl) T.g_p_people_of T.F_p_people_of.kp T.b_p_people_of .nil pass0 (pa_cons (pv 1) pa_nil)))) <|
      pss_cons (ps_set (i := 4) sc_p_sheets_joined.nd rfl (.inl rfl) (pe_listRg rfl (by rfl) T.n_list (prg_1 (by rfl) T.n_range (pv 3)))) <|
      pss_cons (ps_set (i := 5) sc_p_sheets_joined.nd rfl (.inl rfl) (pe_listRg rfl (by rfl) T.n_list (prg_2 (by rfl) T.n_range (pv 3) (pe_op op_mul pe_int (pv 3))))) <|
      pss_one (ps_ret (pe_call G hr (by rfl) T.g_p_moved T.F_p_moved.kp T.b_p_moved .nil pass0 (pa_cons (pe_call GJ hr (by rfl) T.g_p_joined T.F_p_joined.kp T.b_p_joined .nil pass0 (pa_cons (pv 0) (pa_cons (pv 1) pa_nil)))
        (pa_cons (pe_op op_cat (pe_op op_cat (pe_op op_cat (pe_slice sl_list (pv 4) po_none (po_some (pv 2))) (pe_slice sl_list (pv 5) po_none (po_some (pv 2)))) (pe_slice sl_list (pv 4) (po_some (pv 2)) po_none)) (pe_slice sl_list (pv 5) (po_some (pv 2)) po_none)) pa_nil)))), ?_⟩
    have lx := hx.len
    have ly := hy.len
    refine ⟨_, rfl, a, x, n, rfl, ha, lx, _, rfl, _, rfl, b, y, m, rfl, hb, ly, n, m, rfl, rfl, ?_⟩
    rw [show (fun i j => V.int (i + j)) (n : Int) (m : Int) = V.int ((n + m : Nat) : Int) from congrArg V.int (by omega)]
    refine ⟨_, rfl, _, rfl, RgOk.of_le (by decide) (by omega) (by decide) (by omega), fun u nu => ?_⟩
    rw [rg_nv]
    have s1 : Same H (upd H u (.lst (nv (List.range (n + m))))) := same_new nu
    have eu : upd H u (.lst (nv (List.range (n + m)))) u = some (.lst (nv (List.range (n + m)))) := upd_same
    revert s1 eu; generalize upd H u (.lst (nv (List.range (n + m)))) = H1; intro s1 eu
    refine ⟨_, rfl, _, rfl, 2, _, rfl, rfl, .inl ⟨by decide, by decide⟩, _, _, rfl, rfl, RgOk.of_le (by omega) (by omega) (by omega) (by omega), fun l nl => ?_⟩
    rw [range_shift]
    have s2 : Same H1 (upd H1 l (.lst (nv ((List.range (n + m)).map fun i => n + m + i)))) := same_new nl
    have el : upd H1 l (.lst (nv ((List.range (n + m)).map fun i => n + m + i))) l = some (.lst (nv ((List.range (n + m)).map fun i => n + m + i))) := upd_same
    revert s2 el; generalize upd H1 l (.lst (nv ((List.range (n + m)).map fun i => n + m + i))) = H2; intro s2 el
    have hx0 : x ≠ [] := fun z => by rw [z] at lx; simp at lx; omega
    have hy0 : y ≠ [] := fun z => by rw [z] at ly; simp at ly; omega
    refine ⟨_, rfl, _, rfl, a, b, x, y, rfl, ha.same (s1.trans s2), hb.same (s1.trans s2), hx0, hy0, by omega, by omega, fun H3 t s3 nt et => ?_⟩
    have eu3 := s3 _ _ (s2 _ _ eu)
    have el3 := s3 _ _ el
    refine ⟨_, rfl, _, rfl, n, rfl, u, _, rfl, .inl (.inl eu3), fun c1 nc1 => ?_⟩
    rw [cut_tk, nv_take, rng_take]
    have t1 : Same H3 (upd H3 c1 (.lst (nv (List.range n)))) := same_new nc1
    have g1 : upd H3 c1 (.lst (nv (List.range n))) c1 = some (.lst (nv (List.range n))) := upd_same
    revert t1 g1; generalize upd H3 c1 (.lst (nv (List.range n))) = H4; intro t1 g1
    refine ⟨_, rfl, _, rfl, n, rfl, l, _, rfl, .inl (.inl (t1 _ _ el3)), fun c2 nc2 => ?_⟩
    rw [cut_tk, nv_take, ← List.map_take, rng_take]
    have t2 : Same H4 (upd H4 c2 (.lst (nv ((List.range n).map fun i => n + m + i)))) := same_new nc2
    have g2 : upd H4 c2 (.lst (nv ((List.range n).map fun i => n + m + i))) c2 = some (.lst (nv ((List.range n).map fun i => n + m + i))) := upd_same
    revert t2 g2; generalize upd H4 c2 (.lst (nv ((List.range n).map fun i => n + m + i))) = H5; intro t2 g2
    refine ⟨c1, c2, _, _, rfl, rfl, t2 _ _ g1, g2, ?_, fun c3 nc3 => ?_⟩
    · rw [nv_length, nv_length, List.length_map, List.length_range]; exact Nat.le_of_lt (small1000 (by omega))
    rw [nv_app]
    have t3 : Same H5 (upd H5 c3 (.lst (nv (List.range n ++ (List.range n).map fun i => n + m + i)))) := same_new nc3
    have g3 : upd H5 c3 (.lst (nv (List.range n ++ (List.range n).map fun i => n + m + i))) c3 = some (.lst (nv (List.range n ++ (List.range n).map fun i => n + m + i))) := upd_same
    revert t3 g3; generalize upd H5 c3 (.lst (nv (List.range n ++ (List.range n).map fun i => n + m + i))) = H6; intro t3 g3
    have u6 := t1.trans (t2.trans t3)
    refine ⟨_, rfl, _, rfl, n, rfl, u, _, rfl, .inl (.inl (u6 _ _ eu3)), fun c4 nc4 => ?_⟩
    rw [cut_dr, nv_drop, rng_drop]
    have t4 : Same H6 (upd H6 c4 (.lst (nv ((List.range m).map fun i => n + i)))) := same_new nc4
    have g4 : upd H6 c4 (.lst (nv ((List.range m).map fun i => n + i))) c4 = some (.lst (nv ((List.range m).map fun i => n + i))) := upd_same
    revert t4 g4; generalize upd H6 c4 (.lst (nv ((List.range m).map fun i => n + i))) = H7; intro t4 g4
    refine ⟨c3, c4, _, _, rfl, rfl, t4 _ _ g3, g4, ?_, fun c5 nc5 => ?_⟩
    · rw [nv_length, nv_length, List.length_append, List.length_map, List.length_map, List.length_range, List.length_range]; exact Nat.le_of_lt (small1000 (by omega))
    rw [nv_app]
    have t5 : Same H7 (upd H7 c5 (.lst (nv ((List.range n ++ (List.range n).map fun i => n + m + i) ++ (List.range m).map fun i => n + i)))) := same_new nc5
    have g5 : upd H7 c5 (.lst (nv ((List.range n ++ (List.range n).map fun i => n + m + i) ++ (List.range m).map fun i => n + i))) c5 = some (.lst (nv ((List.range n ++ (List.range n).map fun i => n + m + i) ++ (List.range m).map fun i => n + i))) := upd_same
    revert t5 g5; generalize upd H7 c5 (.lst (nv ((List.range n ++ (List.range n).map fun i => n + m + i) ++ (List.range m).map fun i => n + i))) = H8; intro t5 g5
    have u8 := u6.trans (t4.trans t5)
    refine ⟨_, rfl, _, rfl, n, rfl, l, _, rfl, .inl (.inl (u8 _ _ el3)), fun c6 nc6 => ?_⟩
    rw [cut_dr, nv_drop, ← List.map_drop, rng_drop, List.map_map]
    have t6 := same_new (o := .lst (nv (List.map ((fun i => n + m + i) ∘ fun x => n + x) (List.range m)))) nc6
    refine ⟨c5, c6, _, _, rfl, rfl, t6 _ _ g5, upd_same, ?_, fun c7 nc7 => ?_⟩
    · rw [nv_length, nv_length, List.length_append, List.length_append, List.length_map, List.length_map, List.length_map, List.length_range, List.length_range]; exact Nat.le_of_lt (small1000 (by omega))
    rw [nv_app, show (List.range n ++ (List.range n).map fun i => n + m + i) ++ ((List.range m).map fun i => n + i) ++ List.map ((fun i => n + m + i) ∘ fun x => n + x) (List.range m) = plj n m by
      unfold plj
      refine congrArg (fun z => (List.range n ++ (List.range n).map fun i => n + m + i) ++ ((List.range m).map fun i => n + i) ++ z) (List.map_congr_left fun z _ => ?_)
      show n + m + (n + z) = _
      omega]
    have u9 := u8.trans (t6.trans (same_new (o := .lst (nv (plj n m))) nc7))
    have hJ := jnd_pair hx hy
    rw [show 2 * n + 2 * m = 2 * (n + m) by omega] at hJ
    refine ⟨t, c7, jnd x y, plj n m, 2 * (n + m), rfl, .inr (.inl (.inl (u9 _ _ et))), .inl (.inl (.inl upd_same)), plj_perm n m, hJ.len, hJ.lt, by omega, fun H4 t r hr s4 nt et => ?_⟩
    have u0 := (s1.trans s2).trans (s3.trans u9)
    exact q _ t r hr (u0.trans s4) (u0.free nt) et
end
end Pc
namespace Pc
open PySem PySem.Spec PyProof.Rows L2 RZ
/-! ### words with other numbers; those who are left -/
def wrn (pl : List Nat) (qs : List (Nat × Nat)) : List (Nat × Nat) := qs.map fun q => (min (pl.getD q.1 0) (pl.getD q.2 0), max (pl.getD q.1 0) (pl.getD q.2 0))
theorem wrn_take {pl : List Nat} {qs : List (Nat × Nat)} {i : Nat} {q : Nat × Nat} (h : qs[i]? = some q) : (wrn pl qs).take (i + 1) = (wrn pl qs).take i ++ [(min (pl.getD q.1 0) (pl.getD q.2 0), max (pl.getD q.1 0) (pl.getD q.2 0))] := by
  rw [List.take_add_one]
  unfold wrn
  rw [List.getElem?_map, h]; rfl
theorem wrn_len (pl : List Nat) (qs : List (Nat × Nat)) : (wrn pl qs).length = qs.length := by unfold wrn; rw [List.length_map]
theorem min_v (a b : Nat) : V.int (if (b : Int) < (a : Int) then (b : Int) else (a : Int)) = V.int ((min a b : Nat) : Int) := by
  refine congrArg V.int ?_
  split <;> omega
theorem max_v (a b : Nat) : V.int (if (b : Int) > (a : Int) then (b : Int) else (a : Int)) = V.int ((max a b : Nat) : Int) := by
  refine congrArg V.int ?_
  split <;> omega
def ixo : List Nat → Nat → Nat
  | [], _ => 0
  | x :: l, y => if x = y then 0 else ixo l y + 1
theorem ixo_get : ∀ {l : List Nat} {y : Nat}, y ∈ l → l[ixo l y]? = some y ∧ ∀ m z, m < ixo l y → l[m]? = some z → z ≠ y
  | [], _, h => absurd h List.not_mem_nil
  | x :: l, y, h => by
    unfold ixo
    by_cases c : x = y
    · rw [if_pos c]
      exact ⟨by rw [← c]; rfl, fun m z hm => absurd hm (Nat.not_lt_zero _)⟩
    · rw [if_neg c]
      rcases List.mem_cons.mp h with e | e
      · exact absurd e.symm c
      obtain ⟨h1, h2⟩ := ixo_get e
      refine ⟨h1, fun m z hm hz => ?_⟩
      cases m with
      | zero =>
        have : x = z := Option.some.inj hz
        rw [← this]; exact c
      | succ m => exact h2 m z (by omega) hz
def lft (ps : List Nat) (n u : Nat) : List Nat := (List.range n).filter fun x => decide (x ≠ u ∧ x ≠ ps.getD u 0)
theorem lft_mem {ps : List Nat} {n u x : Nat} : x ∈ lft ps n u ↔ x < n ∧ x ≠ u ∧ x ≠ ps.getD u 0 := by
  unfold lft
  rw [List.mem_filter, List.mem_range, decide_eq_true_iff]
theorem lft_part {ps : List Nat} {n u x : Nat} (h : IsPair n ps) (hu : u < n) (hx : x ∈ lft ps n u) : ps.getD x 0 ∈ lft ps n u := by
  obtain ⟨h1, h2, h3⟩ := lft_mem.mp hx
  have d := h.d h1
  have du := h.d hu
  refine lft_mem.mpr ⟨d.1, fun e => h3 ?_, fun e => h2 ?_⟩
  · rw [← e, d.2.2.1]
  · exact h.inj h1 hu e
def wot (ps : List Nat) (n u : Nat) : List Nat := (lft ps n u).map fun x => ixo (lft ps n u) (ps.getD x 0)
theorem lft_step (ps : List Nat) (n u i : Nat) : ((List.range (i + 1)).filter fun x => decide (x ≠ u ∧ x ≠ ps.getD u 0)) = ((List.range i).filter fun x => decide (x ≠ u ∧ x ≠ ps.getD u 0)) ++ if i ≠ u ∧ i ≠ ps.getD u 0 then [i] else [] := by
  rw [List.range_succ, List.filter_append]
  congr 1
  by_cases h : i ≠ u ∧ i ≠ ps.getD u 0
  · rw [if_pos h, List.filter_cons_of_pos (p := fun x => decide (x ≠ u ∧ x ≠ ps.getD u 0)) (decide_eq_true h), List.filter_nil]
  · rw [if_neg h, List.filter_cons_of_neg (p := fun x => decide (x ≠ u ∧ x ≠ ps.getD u 0)) (by rw [decide_eq_false h]; exact Bool.false_ne_true), List.filter_nil]
theorem wot_take {ps : List Nat} {n u i x : Nat} (h : (lft ps n u)[i]? = some x) : nv ((wot ps n u).take i) ++ [V.int (ixo (lft ps n u) (ps.getD x 0) : Nat)] = nv ((wot ps n u).take (i + 1)) := by
  rw [List.take_add_one, show (wot ps n u)[i]? = some (ixo (lft ps n u) (ps.getD x 0)) by unfold wot; rw [List.getElem?_map, h]; rfl]
  unfold nv
  rw [List.map_append]; rfl
theorem lft_le (ps : List Nat) (n u : Nat) : (lft ps n u).length ≤ n := by
  have := List.length_filter_le (fun x => decide (x ≠ u ∧ x ≠ ps.getD u 0)) (List.range n)
  rw [List.length_range] at this
  exact this
theorem eqV_ne {a b : Nat} (h : a ≠ b) : eqV (.int (a : Int)) (.int (b : Int)) = false := by
  unfold eqV
  simp
  omega
theorem eqV_same (a : Int) : eqV (.int a) (.int a) = true := by
  unfold eqV
  simp
end Pc
namespace Pc
open PySem PySem.Spec PyProof.Rows L2 RZ
section
variable {P : Program} {w : World} {K : PySem.W.Frag} {mg : Str → Option Value} {base : Heap}
/-! ### word_renumbered -/
def spWRenum (K : PySem.W.Frag) : Sp := fun vs H Q _ => ∃ (wd nm : Addr) (as : List Addr) (qs : List (Nat × Nat)) (pl : List Nat) (n : Nat), vs = [.ref wd, .ref nm] ∧ Sq K H wd (as.map V.ref) ∧ Prs H as qs ∧ Calls n qs ∧ Sq K H nm (nv pl) ∧ pl.length = n ∧ n ≤ 100 ∧ qs.length ≤ 900 ∧
  ∀ (H' : Hp) (t : Addr) (bs : List Addr), Same H H' → H t = none → H' t = some (.lst (bs.map V.ref)) → Prs H' bs (wrn pl qs) → Q (.ref t) H'
theorem ok_p_word_renumbered (T : Env K mg) : FnOk P w K mg base CX0 4 T.f_p_word_renumbered T.d_p_word_renumbered ["word", "numbers"] (spWRenum K) := by
  have G1 : FnOk P w K mg base CX0 3 T.f_p_check_word T.d_p_check_word ["size", "word"] (spCheckWord K) := ok_p_check_word T
  refine T.F_p_word_renumbered.ok sc_p_word_renumbered (fun vs H Q E h => ?_) (fun cdv A outer s H vs Q E hr h => ?_)
  · obtain ⟨wd, nm, as, qs, pl, n, rfl, _⟩ := h
    rfl
  · obtain ⟨wd, nm, as, qs, pl, n, rfl, hw, hA, hc, hn, hl, hn1, hq, q⟩ := h
    refine ⟨_, pss_cons (ps_expr (pe_call G1 hr (by rfl) T.g_p_check_word T.F_p_check_word.kp T.b_p_check_word .nil pass0 (pa_cons (pe_callB call_len_seq (by rfl) T.n_len PySem.boot_len (pa_cons (pv 1) pa_nil)) (pa_cons (pv 0) pa_nil)))) <|
      pss_one (ps_ret (pe_lc (own := [("a", 2), ("b", 3)]) (g := gTup K 2 (gCons (gName 2) (gCons (gName 3) gNil))) (tt := tYes)
        (te := tTup (tCons (tCB (fun xs H Q => ∃ i j, xs = [V.int i, V.int j] ∧ Q (.int (if j < i then j else i)) H) (tCons (tOp (rIx K) (tVar 1) (tVar 2)) (tCons (tOp (rIx K) (tVar 1) (tVar 3)) tNil))) (tCons (tCB (fun xs H Q => ∃ i j, xs = [V.int i, V.int j] ∧ Q (.int (if j > i then j else i)) H) (tCons (tOp (rIx K) (tVar 1) (tVar 2)) (tCons (tOp (rIx K) (tVar 1) (tVar 3)) tNil))) tNil)))
        (by rfl) sc_p_word_renumbered.nd (pi_seq (pv 0)) (blkOk_by (N := N_p_word_renumbered) (sc := defScope s_p_word_renumbered) (by decide +kernel))
        (fun _ _ _ _ _ => pg_tup (by rfl) (pgs_cons (pg_name (i := 2) sc_p_word_renumbered.nd rfl (.inl rfl)) (pgs_cons (pg_name (i := 3) sc_p_word_renumbered.nd rfl (.inl rfl)) pgs_nil))) (fun _ _ _ _ _ => pts_nil)
        (fun _ _ _ _ _ => pe_tup (pa_cons (pe_callB (call_min2 rfl) (by rfl) T.n_min (by decide +kernel) (pa_cons (pe_ix ix_seq (pv 1) (pv 2) (fun _ _ => rfl)) (pa_cons (pe_ix ix_seq (pv 1) (pv 3) (fun _ _ => rfl)) pa_nil))) (pa_cons (pe_callB (call_max2 rfl) (by rfl) T.n_max (by decide +kernel) (pa_cons (pe_ix ix_seq (pv 1) (pv 2) (fun _ _ => rfl)) (pa_cons (pe_ix ix_seq (pv 1) (pv 3) (fun _ _ => rfl)) pa_nil))) pa_nil))))), ?_⟩
    refine ⟨_, rfl, nm, _, rfl, hn, _, rfl, n, wd, _, qs, ?_, hw, items_of hA, hc, ?_⟩
    · show [V.int ((nv pl).length : Int), V.ref wd] = _
      rw [nv_length, hl]
    refine ⟨.ref wd, rfl, wd, rfl, lc_seq' hw (Same.refl H) fun D nD => ⟨fun i H' => Same H H' ∧ ∃ es : List Addr, H' D = some (.lst (es.map V.ref)) ∧ Prs H' es ((wrn pl qs).take i), ⟨same_new nD, [], upd_same, .nil⟩, fun i H' h => h.1, fun i v H' hv h => ?_, fun H' h => ?_⟩⟩
    · obtain ⟨sm, es, eD, hE⟩ := h
      rw [List.getElem?_map] at hv
      obtain ⟨u, hu, rfl⟩ := Option.map_eq_some_iff.mp hv
      obtain ⟨r, hr', exu⟩ := prs_get hA hu
      have hcr := hc r (List.mem_of_getElem? hr')
      have g1 : atI (nv pl) (r.1 : Int) = some (.int (pl.getD r.1 0 : Nat)) := nv_at (getD_some (by omega))
      have g2 : atI (nv pl) (r.2 : Int) = some (.int (pl.getD r.2 0 : Nat)) := nv_at (getD_some (by omega))
      have hn2 := hn.same sm
      refine ⟨u, _, rfl, .inl (.inl (sm _ _ exu)), rfl, _, _, rfl, _, _, rfl, rfl, rfl, yes_if ⟨_, rfl, _, rfl, ix_sq hn2 g1 ⟨_, rfl, _, rfl, ix_sq hn2 g2 ⟨_, _, rfl, _, rfl, _, rfl, ix_sq hn2 g1 ⟨_, rfl, _, rfl, ix_sq hn2 g2 ⟨_, _, rfl, by show 2 ≤ sizeLine; decide, fun z nz => ?_⟩⟩⟩⟩⟩⟩
      rw [min_v, max_v]
      refine ⟨_, same_new nz _ _ eD, ?_, fun y o hy => ?_, es ++ [z], ?_, ?_⟩
      · rw [List.length_map, hE.length]; exact small1000 (Nat.le_trans (List.length_take_le' _ _) (by rw [wrn_len]; omega))
      · rw [upd_ne (ne_of_none hy nD)]; exact same_new nz _ _ (sm _ _ hy)
      · rw [upd_same, List.map_append]; rfl
      · have zD : z ≠ D := fun e => by rw [e, eD] at nz; cases nz
        rw [wrn_take hr']
        refine prs_append (prs_keep (b := D) keep_upd (same_new nz _ _ eD) (prs_same (same_new nz) hE)) (.cons ?_ .nil)
        rw [upd_ne zD, upd_same]
    · obtain ⟨sm, es, eD, hE⟩ := h
      rw [List.length_map, hA.length, ← wrn_len pl qs, List.take_length] at hE
      exact q _ D es sm nD eD hE
def spWRenX (K : PySem.W.Frag) (C : Addr) : Sp := fun vs H _ E => ∃ (wd nm : Addr) (us : List V) (qs : List (Int × Int)) (pl : List Nat) (n : Nat) (x : Int), vs = [.ref wd, .ref nm] ∧ Sq K H wd us ∧ ItemsZ K H us qs ∧ Sq K H nm (nv pl) ∧ pl.length = n ∧ badW n qs = some x ∧ Flies C "person" (.int x) H E
theorem okx_p_word_renumbered (T : Env K mg) : FnOk P w K mg base (L2.CX P w) 6 T.f_p_word_renumbered T.d_p_word_renumbered ["word", "numbers"] (spWRenX K T.C_NoPerson) := by
  have G1 : FnOk P w K mg base (L2.CX P w) 5 T.f_p_check_word T.d_p_check_word ["size", "word"] (spWordE K T.C_NoPerson) := oke_p_check_word T
  refine T.F_p_word_renumbered.okX sc_p_word_renumbered (fun vs H Q E h => ?_) (fun cdv A outer s H vs Q E hr h => ?_)
  · obtain ⟨wd, nm, us, qs, pl, n, x, rfl, _⟩ := h
    rfl
  · obtain ⟨wd, nm, us, qs, pl, n, x, rfl, hw, hI, hn, hl, hb, hF⟩ := h
    refine ⟨_, pss_cons (ps_expr (pe_callS G1 hr (by rfl) T.g_p_check_word T.F_p_check_word.kp T.b_p_check_word (fun σ => passAt (takes_of rfl rfl rfl rfl) σ) (pa_cons (pe_callB (r := fun xs H Q => ∃ p ys, xs = [V.ref p] ∧ (SqL K H p ys ∨ SqT K H p ys) ∧ Q (V.int (ys.length : Int)) H) call_len_seq (by rfl) T.n_len PySem.boot_len (pa_cons (pv 1) pa_nil)) (pa_cons (pv 0) pa_nil)))) pss_never, ?_⟩
    refine ⟨_, rfl, nm, _, rfl, hn, .ref wd, rfl, n, wd, us, qs, ?_, hw, hI, by rw [hb]; exact hF⟩
    show [V.int ((nv pl).length : Int), V.ref wd] = _
    rw [nv_length, hl]
end
end Pc
namespace Pc
open PySem PySem.Spec PyProof.Rows L2 RZ
section
variable {P : Program} {w : World} {K : PySem.W.Frag} {mg : Str → Option Value} {base : Heap}
/-! ### without -/
def spWithout (K : PySem.W.Frag) : Sp := fun vs H Q _ => ∃ (p : Addr) (ps : List Nat) (n u : Nat), vs = [.ref p, .int u] ∧ Sq K H p (nv ps) ∧ IsPair n ps ∧ u < n ∧ n ≠ 2 ∧ n ≤ 100 ∧
  ∀ (H' : Hp) (t : Addr), Same H H' → H t = none → H' t = some (.tup (nv (wot ps n u))) → Q (.ref t) H'
theorem ok_p_without (T : Env K mg) : FnOk P w K mg base CX0 4 T.f_p_without T.d_p_without ["pairing", "person"] (spWithout K) := by
  have G1 : FnOk P w K mg base CX0 1 T.f_p_check_person T.d_p_check_person ["size", "person"] spCheckPerson := ok_p_check_person T
  refine T.F_p_without.ok sc_p_without (fun vs H Q E h => ?_) (fun cdv A outer s H vs Q E hr h => ?_)
  · obtain ⟨p, ps, n, u, rfl, _⟩ := h
    rfl
  · obtain ⟨p, ps, n, u, rfl, hp, hP, hu, hn2, hn, q⟩ := h
    have h1 := hr.mono (show 1 ≤ 3 by decide)
    refine ⟨_, pss_cons (ps_expr (pe_call G1 h1 (by rfl) T.g_p_check_person T.F_p_check_person.kp T.b_p_check_person .nil pass0 (pa_cons (pe_callB call_len_seq (by rfl) T.n_len PySem.boot_len (pa_cons (pv 0) pa_nil)) (pa_cons (pv 1) pa_nil)))) <|
      pss_cons (ps_if (pt_cmpR op_eq (pe_callB call_len_seq (by rfl) T.n_len PySem.boot_len (pa_cons (pv 0) pa_nil)) pe_int (nomark _)) pss_never pss_nil) <|
      pss_cons (ps_set (i := 2) sc_p_without.nd rfl (.inr rfl) (pe_lc (own := [("x", 3)]) (g := gName 3) (tt := tAnd (tTest (tOp rNe (tVar 3) (tVar 1))) (tTest (tOp rNe (tVar 3) (tOp (rIx K) (tVar 0) (tVar 1))))) (te := tVar 3) (by rfl) sc_p_without.nd (pi_range1 (by rfl) T.n_range (pa_cons (pe_callB call_len_seq (by rfl) T.n_len PySem.boot_len (pa_cons (pv 0) pa_nil)) pa_nil)) (blkOk_by (N := N_p_without) (sc := defScope s_p_without) (by decide +kernel))
        (fun _ _ _ _ _ => pg_name (i := 3) sc_p_without.nd rfl (.inl rfl)) (fun _ _ _ _ _ => pts_one (PW.pt (pw_and (pt_cmpR op_ne (pv 3) (pv 1) (nomark _)) (pw_and1 (pt_cmpR op_ne (pv 3) (pe_ix ix_seq (pv 0) (pv 1) (fun _ _ => rfl)) (nomark _)))))) (fun _ _ _ _ _ => pv 3))) <|
      pss_one (ps_ret (pe_callTy call_tuple_of (by rfl) T.n_tuple (by decide +kernel) (pa_cons (pe_lc (own := [("x", 3)]) (g := gName 3) (tt := tYes) (te := tBM K "list" (rIndex K) (tVar 2) (tCons (tOp (rIx K) (tVar 0) (tVar 3)) tNil)) (by rfl) sc_p_without.nd (pi_list (pv 2)) (blkOk_by (N := N_p_without) (sc := defScope s_p_without) (by decide +kernel))
        (fun _ _ _ _ _ => pg_name (i := 3) sc_p_without.nd rfl (.inl rfl)) (fun _ _ _ _ _ => pts_nil) (fun _ _ _ _ _ => pe_bm PySem.F.plainAttrs_list PySem.F.slot_list_index PySem.F.type_list_index mt_index (pv 2) (pa_cons (pe_ix ix_seq (pv 0) (pv 3) (fun _ _ => rfl)) pa_nil))) pa_nil))), ?_⟩
    have hl := hP.len
    have hlen : ((nv ps).length : Int) = (n : Nat) := by rw [nv_length, hl]
    refine ⟨_, rfl, p, _, rfl, hp, _, rfl, n, u, ?_, hu, ?_⟩
    · show [V.int ((nv ps).length : Int), V.int (u : Nat)] = _
      rw [hlen]
    refine ⟨_, rfl, p, _, rfl, hp, rfl, _, rfl, iteX ?_ ?_⟩
    · rw [hlen]; exact decide_eq_false fun z => hn2 (by have := V.int.inj z; omega)
    refine ⟨_, rfl, p, _, rfl, hp, _, rfl, by omega, ?_, fun D nD => ?_⟩
    · rw [hlen]; omega
    rw [show (((nv ps).length : Int)).toNat = n by rw [hlen]; rfl]
    have gu : atI (nv ps) (u : Int) = some (.int (ps.getD u 0 : Nat)) := nv_at (getD_some (by omega))
    refine lc_range (n := n) (fun i H' => Same H H' ∧ H' D = some (.lst (nv ((List.range i).filter fun x => decide (x ≠ u ∧ x ≠ ps.getD u 0))))) ⟨same_new nD, upd_same⟩ (fun i H' hi h => ?_) (fun H' h => ?_)
    · obtain ⟨sm, eD⟩ := h
      have ei : (0 : Int) + (i : Nat) = (i : Nat) := Int.zero_add _
      refine ⟨rfl, _, rfl, _, rfl, rfl, _, rfl, ?_⟩
      by_cases c1 : i = u
      · rw [show (!decide (V.int ((0 : Int) + (i : Nat)) = V.int (u : Nat))) = false by rw [ei, c1]; simp]
        refine iteF ⟨sm, ?_⟩
        rw [lft_step ps n u i, if_neg (fun z => z.1 c1), List.append_nil]; exact eD
      · rw [show (!decide (V.int ((0 : Int) + (i : Nat)) = V.int (u : Nat))) = true by rw [ei, decide_eq_false (fun z => c1 (by have := V.int.inj z; omega))]; rfl]
        refine iteT ⟨_, rfl, _, rfl, _, rfl, ix_sq (hp.same sm) gu ⟨rfl, _, rfl, ?_⟩⟩
        by_cases c2 : i = ps.getD u 0
        · rw [show (!decide (V.int ((0 : Int) + (i : Nat)) = V.int ((ps.getD u 0 : Nat) : Int))) = false by rw [ei, ← c2]; simp]
          refine iteF ⟨sm, ?_⟩
          rw [lft_step ps n u i, if_neg (fun z => z.2 c2), List.append_nil]; exact eD
        · rw [show (!decide (V.int ((0 : Int) + (i : Nat)) = V.int ((ps.getD u 0 : Nat) : Int))) = true by rw [ei, decide_eq_false (fun z => c2 (by have := V.int.inj z; omega))]; rfl]
          refine iteT ⟨_, rfl, _, eD, ?_, fun y o hy => ?_, ?_⟩
          · rw [nv_length]; exact small1000 (Nat.le_trans (List.length_filter_le _ _) (by rw [List.length_range]; omega))
          · rw [upd_ne (ne_of_none hy nD)]; exact sm _ _ hy
          · rw [upd_same, lft_step ps n u i, if_pos ⟨c1, c2⟩, ei, nv_snoc']
    · obtain ⟨sm, eD⟩ := h
      have eD' : H' D = some (.lst (nv (lft ps n u))) := eD
      refine ⟨.ref D, rfl, D, rfl, ⟨_, .inl (.inl eD')⟩, fun D2 nD2 => ?_⟩
      have dd : D ≠ D2 := ne_of_none eD' nD2
      refine lc_list (xs := nv (lft ps n u)) (fun i H2 => Same H' H2 ∧ H2 D2 = some (.lst (nv ((wot ps n u).take i)))) ⟨same_new nD2, upd_same⟩ (fun i H2 _ h => .inl (.inl (h.1 _ _ eD'))) (fun i v H2 hv h => ?_) (fun H2 h => ?_)
      · obtain ⟨sm2, eD2⟩ := h
        obtain ⟨z, ez, rfl⟩ := nv_get' hv
        have hz := List.mem_of_getElem? ez
        have hzn := (lft_mem.mp hz).1
        have gz : atI (nv ps) (z : Int) = some (.int (ps.getD z 0 : Nat)) := nv_at (getD_some (by omega))
        have hm := lft_part hP hu hz
        obtain ⟨x1, x2⟩ := ixo_get hm
        have hS : SqL K H2 D (nv (lft ps n u)) := .inl (.inl (sm2 _ _ eD'))
        refine ⟨rfl, yes_if ⟨_, rfl, .inl ⟨rfl, _, hS⟩, _, rfl, _, rfl, ix_sq (hp.same (sm.trans sm2)) gz ⟨D, _, _, ixo (lft ps n u) (ps.getD z 0), _, rfl, rfl, hS, rfl, flat_nat _, nv_get x1, eqV_same _, fun m y hm' hy => ?_, _, eD2, ?_, fun y o hy => ?_, ?_⟩⟩⟩
        · obtain ⟨k, ek, rfl⟩ := nv_get' hy
          exact eqV_ne (x2 m k hm' ek)
        · rw [nv_length]; exact small1000 (Nat.le_trans (List.length_take_le' _ _) (by unfold wot; rw [List.length_map]; have := lft_le ps n u; omega))
        · rw [upd_ne (ne_of_none hy nD2)]; exact sm2 _ _ hy
        · rw [upd_same, wot_take ez]
      · obtain ⟨sm2, eD2⟩ := h
        rw [nv_length, show (lft ps n u).length = (wot ps n u).length by unfold wot; rw [List.length_map], List.take_length] at eD2
        refine ⟨D2, _, rfl, .inl ⟨.inl (.inl eD2), fun t nt => ?_⟩⟩
        have S := sm.trans sm2
        exact q _ t (S.trans (same_new nt)) (S.free nt) upd_same
theorem ok_i_Last (T : Env K mg) : FnOk P w K mg base CX0 1 T.f_i_Last T.d_i_Last ["self"] (spInit0 T.C_Last) := by
  refine T.F_i_Last.ok sc_i_Last (fun vs H Q E h => ?_) (fun cdv A outer s H vs Q E hr h => ?_)
  · obtain ⟨a, rfl, _⟩ := h
    rfl
  · obtain ⟨a, rfl, ha, q⟩ := h
    refine ⟨_, pss_one (ps_expr (pe_binit (o := .Constant .none 0 ⟨0, 0, 0, 0⟩) bsR.fb (by rfl) T.n_RuntimeError (by decide +kernel) (by decide) (by decide) (by kernel_rfl) (by decide +kernel) (by decide +kernel) T.vV_RuntimeError (pa_cons (pv 0) (pa_cons pe_str pa_nil)))), ?_⟩
    exact ⟨.ref a, rfl, a, _, [.str _], rfl, (by show 1 ≤ 1000; decide), T.own_Last, ha, q⟩
def spWithoutX (K : PySem.W.Frag) (C C0 : Addr) : Sp := fun vs H _ E => ∃ (p : Addr) (ps : List Nat) (n : Nat) (u : Int), vs = [.ref p, .int u] ∧ Sq K H p (nv ps) ∧ ps.length = n ∧ ((¬ (0 ≤ u ∧ u < n) ∧ Flies C "person" (.int u) H E) ∨ (0 ≤ u ∧ u < n ∧ n = 2 ∧ Flies0 C0 H E))
theorem okx_p_without (T : Env K mg) : FnOk P w K mg base (L2.CX P w) 4 T.f_p_without T.d_p_without ["pairing", "person"] (spWithoutX K T.C_NoPerson T.C_Last) := by
  have G1 : FnOk P w K mg base (L2.CX P w) 3 T.f_p_check_person T.d_p_check_person ["size", "person"] (spPersonE T.C_NoPerson) := oke_p_check_person T
  refine T.F_p_without.okX sc_p_without (fun vs H Q E h => ?_) (fun cdv A outer s H vs Q E hr h => ?_)
  · obtain ⟨p, ps, n, u, rfl, _⟩ := h
    rfl
  · obtain ⟨p, ps, n, u, rfl, hp, hl, hF⟩ := h
    have h2 := hr.mono (show 2 ≤ 3 by decide)
    refine ⟨_, pss_cons (ps_expr (pe_callS G1 hr (by rfl) T.g_p_check_person T.F_p_check_person.kp T.b_p_check_person (fun σ => passAt (takes_of rfl rfl rfl rfl) σ) (pa_cons (pe_callB (r := fun xs H Q => ∃ p ys, xs = [V.ref p] ∧ (SqL K H p ys ∨ SqT K H p ys) ∧ Q (V.int (ys.length : Int)) H) call_len_seq (by rfl) T.n_len PySem.boot_len (pa_cons (pv 0) pa_nil)) (pa_cons (pv 1) pa_nil)))) <|
      pss_cons (ps_if (pt_cmpR op_eq (pe_callB (r := fun xs H Q => ∃ p ys, xs = [V.ref p] ∧ (SqL K H p ys ∨ SqT K H p ys) ∧ Q (V.int (ys.length : Int)) H) call_len_seq (by rfl) T.n_len PySem.boot_len (pa_cons (pv 0) pa_nil)) pe_int (nomark _)) (pss_one (ps_raise rfl (takes_of rfl rfl rfl rfl) (pmk_e0 T.own_Last bsR.fb T.iC_Last T.tI_Last (ok_i_Last T) h2 T.b_i_Last pass0 (by rfl) T.gC_Last))) pss_nil) pss_never, ?_⟩
    have hlen : ((nv ps).length : Int) = (n : Nat) := by rw [nv_length, hl]
    refine ⟨_, rfl, p, _, rfl, hp, _, rfl, n, u, ?_, ?_⟩
    · show [V.int ((nv ps).length : Int), V.int u] = _
      rw [hlen]
    rcases hF with ⟨h1, hF⟩ | ⟨h0, h1, h22, hF⟩
    · rw [if_pos (outP_yes.mpr h1)]
      exact hF
    · rw [if_neg (by rw [outP_no.mpr ⟨h0, h1⟩]; exact Bool.false_ne_true)]
      refine ⟨_, rfl, p, _, rfl, hp, rfl, _, rfl, iteY ?_ (raised0 hF)⟩
      rw [hlen, h22]; rfl
end
end Pc
namespace Pc
/-! ### classes: how many there are, and what one more join does -/
inductive Cn (E : Nat → Nat → Prop) : Nat → Nat → Prop
  | refl (x : Nat) : Cn E x x
  | step {x y z : Nat} : Cn E x y → E y z ∨ E z y → Cn E x z
theorem Cn.trans {E : Nat → Nat → Prop} {x y z : Nat} (h : Cn E x y) (g : Cn E y z) : Cn E x z := by
  induction g with
  | refl => exact h
  | step _ e ih => exact .step ih e
theorem Cn.one {E : Nat → Nat → Prop} {x y : Nat} (h : E x y ∨ E y x) : Cn E x y := .step (.refl x) h
theorem Cn.symm {E : Nat → Nat → Prop} {x y : Nat} (h : Cn E x y) : Cn E y x := by
  induction h with
  | refl => exact .refl _
  | step _ e ih => exact (Cn.one e.symm).trans ih
theorem Cn.mono {E F : Nat → Nat → Prop} (h : ∀ x y, E x y → Cn F x y) {x y : Nat} (g : Cn E x y) : Cn F x y := by
  induction g with
  | refl => exact .refl _
  | step _ e ih => exact ih.trans (e.elim (fun z => h _ _ z) (fun z => (h _ _ z).symm))
/-- the joins with one more -/
def Ad (p q : Nat) (E : Nat → Nat → Prop) : Nat → Nat → Prop := fun x y => E x y ∨ (x = p ∧ y = q)
theorem Cn.up {E : Nat → Nat → Prop} {p q x y : Nat} (h : Cn E x y) : Cn (Ad p q E) x y := h.mono fun _ _ e => .one (.inl (.inl e))
theorem cn_ad {E : Nat → Nat → Prop} {p q x y : Nat} (h : Cn (Ad p q E) x y) : Cn E x y ∨ (Cn E x p ∧ Cn E q y) ∨ (Cn E x q ∧ Cn E p y) := by
  induction h with
  | refl => exact .inl (.refl _)
  | step _ e ih =>
    have go : ∀ {u v : Nat}, (Cn E x u ∨ (Cn E x p ∧ Cn E q u) ∨ (Cn E x q ∧ Cn E p u)) → E u v ∨ E v u → Cn E x v ∨ (Cn E x p ∧ Cn E q v) ∨ (Cn E x q ∧ Cn E p v) := fun {u v} h e => by
      rcases h with h | ⟨h1, h2⟩ | ⟨h1, h2⟩
      · exact .inl (.step h e)
      · exact .inr (.inl ⟨h1, .step h2 e⟩)
      · exact .inr (.inr ⟨h1, .step h2 e⟩)
    rcases e with (e | ⟨rfl, rfl⟩) | (e | ⟨rfl, rfl⟩)
    · exact go ih (.inl e)
    · rcases ih with h | ⟨h1, h2⟩ | ⟨h1, h2⟩
      · exact .inr (.inl ⟨h, .refl _⟩)
      · exact .inr (.inl ⟨h1, .refl _⟩)
      · exact .inl h1
    · exact go ih (.inr e)
    · rcases ih with h | ⟨h1, h2⟩ | ⟨h1, h2⟩
      · exact .inr (.inr ⟨h, .refl _⟩)
      · exact .inl h1
      · exact .inr (.inr ⟨h1, .refl _⟩)
/-- the least of its class -/
def Lst1 (E : Nat → Nat → Prop) (x : Nat) : Prop := ∀ y, y < x → ¬ Cn E y x
open Classical in
noncomputable def nc (n : Nat) (E : Nat → Nat → Prop) : Nat := ((List.range n).filter fun x => decide (Lst1 E x)).length
open Classical in
theorem nc_congr {n : Nat} {E F : Nat → Nat → Prop} (h : ∀ x y, Cn E x y ↔ Cn F x y) : nc n E = nc n F := by
  unfold nc
  congr 2
  funext x
  exact decide_eq_decide.mpr ⟨fun g y hy c => g y hy ((h y x).mpr c), fun g y hy c => g y hy ((h y x).mp c)⟩
theorem flt_len_le {p q : Nat → Bool} : ∀ (l : List Nat), (∀ x ∈ l, q x = true → p x = true) → (l.filter q).length ≤ (l.filter p).length
  | [], _ => Nat.le_refl _
  | x :: l, h => by
    have ih := flt_len_le (p := p) (q := q) l (fun y hy => h y (List.mem_cons_of_mem _ hy))
    by_cases c : q x = true
    · rw [List.filter_cons_of_pos c, List.filter_cons_of_pos (h x List.mem_cons_self c), List.length_cons, List.length_cons]; omega
    · rw [List.filter_cons_of_neg c]
      by_cases d : p x = true
      · rw [List.filter_cons_of_pos d, List.length_cons]; omega
      · rw [List.filter_cons_of_neg d]; exact ih
theorem flt_len_one {p q : Nat → Bool} : ∀ (l : List Nat), l.Nodup → (∀ x ∈ l, ∀ y ∈ l, p x = true → ¬ q x = true → p y = true → ¬ q y = true → x = y) → (l.filter p).length ≤ (l.filter q).length + 1
  | [], _, _ => Nat.zero_le _
  | x :: l, hd, h => by
    have hd' := List.nodup_cons.mp hd
    have ih := flt_len_one (p := p) (q := q) l hd'.2 (fun y hy z hz => h y (List.mem_cons_of_mem _ hy) z (List.mem_cons_of_mem _ hz))
    by_cases c : p x = true
    · by_cases d : q x = true
      · rw [List.filter_cons_of_pos c, List.filter_cons_of_pos d, List.length_cons, List.length_cons]; omega
      · have h2 := flt_len_le (p := q) (q := p) l (fun y hy py => by
          by_cases qy : q y = true
          · exact qy
          · have e := h x List.mem_cons_self y (List.mem_cons_of_mem _ hy) c d py qy
            rw [← e] at hy; exact absurd hy hd'.1)
        rw [List.filter_cons_of_pos c, List.filter_cons_of_neg d, List.length_cons]; omega
    · rw [List.filter_cons_of_neg c]
      by_cases d : q x = true
      · rw [List.filter_cons_of_pos d, List.length_cons]; omega
      · rw [List.filter_cons_of_neg d]; exact ih
theorem flt_len_lt {p q : Nat → Bool} : ∀ (l : List Nat), (∀ x ∈ l, q x = true → p x = true) → (∃ x ∈ l, p x = true ∧ ¬ q x = true) → (l.filter q).length < (l.filter p).length
  | [], _, h => by obtain ⟨x, hx, _⟩ := h; exact absurd hx List.not_mem_nil
  | x :: l, h, g => by
    have h' : ∀ y ∈ l, q y = true → p y = true := fun y hy => h y (List.mem_cons_of_mem _ hy)
    have h1 := flt_len_le (p := p) (q := q) l h'
    by_cases c : q x = true
    · obtain ⟨y, hy, py, qy⟩ := g
      have ih := flt_len_lt (p := p) (q := q) l h' ⟨y, (List.mem_cons.mp hy).resolve_left (fun e => qy (by rw [e]; exact c)), py, qy⟩
      rw [List.filter_cons_of_pos c, List.filter_cons_of_pos (h x List.mem_cons_self c), List.length_cons, List.length_cons]; omega
    · rw [List.filter_cons_of_neg c]
      by_cases d : p x = true
      · rw [List.filter_cons_of_pos d, List.length_cons]; omega
      · obtain ⟨y, hy, py, qy⟩ := g
        rw [List.filter_cons_of_neg d]
        exact flt_len_lt (p := p) (q := q) l h' ⟨y, (List.mem_cons.mp hy).resolve_left (fun e => d (by rw [← e]; exact py)), py, qy⟩
theorem lst_of_ad {E : Nat → Nat → Prop} {p q x : Nat} (h : Lst1 (Ad p q E) x) : Lst1 E x := fun y hy c => h y hy c.up
open Classical in
theorem nc_ad_le {n : Nat} {E : Nat → Nat → Prop} {p q : Nat} : nc n (Ad p q E) ≤ nc n E := flt_len_le _ fun _ _ h => decide_eq_true (lst_of_ad (of_decide_eq_true h))
theorem lst_uniq {E : Nat → Nat → Prop} {x y : Nat} (hx : Lst1 E x) (hy : Lst1 E y) (h : Cn E x y) : x = y := by
  rcases Nat.lt_trichotomy x y with c | c | c
  · exact absurd h (hy x c)
  · exact c
  · exact absurd h.symm (hx y c)
/-- who is the least no more -/
theorem lost {E : Nat → Nat → Prop} {p q x : Nat} (hx : Lst1 E x) (hn : ¬ Lst1 (Ad p q E) x) : (Cn E x q ∧ ∃ y, y < x ∧ Cn E y p) ∨ (Cn E x p ∧ ∃ y, y < x ∧ Cn E y q) := by
  obtain ⟨y, hy, c⟩ : ∃ y, y < x ∧ Cn (Ad p q E) y x := by
    rcases Classical.em (∃ y, y < x ∧ Cn (Ad p q E) y x) with h | h
    · exact h
    · exact absurd (fun y hy c => h ⟨y, hy, c⟩) hn
  rcases cn_ad c with h | ⟨h1, h2⟩ | ⟨h1, h2⟩
  · exact absurd h (hx y hy)
  · exact .inl ⟨h2.symm, y, hy, h1⟩
  · exact .inr ⟨h2.symm, y, hy, h1⟩
open Classical in
theorem nc_le_ad {n : Nat} {E : Nat → Nat → Prop} {p q : Nat} : nc n E ≤ nc n (Ad p q E) + 1 := by
  refine flt_len_one _ List.nodup_range fun x _ y _ hx' nx' hy' ny' => ?_
  have hx := of_decide_eq_true hx'
  have hy := of_decide_eq_true hy'
  have nx : ¬ Lst1 (Ad p q E) x := fun z => nx' (decide_eq_true z)
  have ny : ¬ Lst1 (Ad p q E) y := fun z => ny' (decide_eq_true z)
  rcases lost hx nx with ⟨h1, z, hz, h2⟩ | ⟨h1, z, hz, h2⟩ <;> rcases lost hy ny with ⟨g1, w, hw, g2⟩ | ⟨g1, w, hw, g2⟩
  · exact lst_uniq hx hy (h1.trans g1.symm)
  · -- x is the least of q's class, y of p's
    have a1 : ¬ z < y := fun c => hy z c (h2.trans g1.symm)
    have a2 : ¬ w < x := fun c => hx w c (g2.trans h1.symm)
    omega
  · have a1 : ¬ z < y := fun c => hy z c (h2.trans g1.symm)
    have a2 : ¬ w < x := fun c => hx w c (g2.trans h1.symm)
    omega
  · exact lst_uniq hx hy (h1.trans g1.symm)
theorem nc_ad_eq {n : Nat} {E : Nat → Nat → Prop} {p q : Nat} (h : Cn E p q) : nc n (Ad p q E) = nc n E :=
  nc_congr fun x y => ⟨fun c => by
    rcases cn_ad c with c | ⟨h1, h2⟩ | ⟨h1, h2⟩
    · exact c
    · exact (h1.trans h).trans h2
    · exact (h1.trans h.symm).trans h2, fun c => c.up⟩
open Classical in
theorem least_of {E : Nat → Nat → Prop} : ∀ (p : Nat), ∃ x, x ≤ p ∧ Cn E x p ∧ Lst1 E x
  | p => by
    by_cases h : Lst1 E p
    · exact ⟨p, Nat.le_refl _, .refl _, h⟩
    · obtain ⟨y, hy, c⟩ : ∃ y, y < p ∧ Cn E y p := by
        rcases Classical.em (∃ y, y < p ∧ Cn E y p) with g | g
        · exact g
        · exact absurd (fun y hy c => g ⟨y, hy, c⟩) h
      obtain ⟨x, h1, h2, h3⟩ := least_of (E := E) y
      exact ⟨x, by omega, h2.trans c, h3⟩
open Classical in
theorem nc_ad_lt {n : Nat} {E : Nat → Nat → Prop} {p q : Nat} (hp : p < n) (hq : q < n) (h : ¬ Cn E p q) : nc n (Ad p q E) + 1 = nc n E := by
  have h1 := nc_le_ad (n := n) (E := E) (p := p) (q := q)
  have h2 : nc n (Ad p q E) < nc n E := by
    refine flt_len_lt _ (fun _ _ h => decide_eq_true (lst_of_ad (of_decide_eq_true h))) ?_
    obtain ⟨x, x1, x2, x3⟩ := least_of (E := E) p
    obtain ⟨y, y1, y2, y3⟩ := least_of (E := E) q
    have e : Cn (Ad p q E) p q := .one (.inl (.inr ⟨rfl, rfl⟩))
    rcases Nat.lt_trichotomy x y with c | c | c
    · exact ⟨y, List.mem_range.mpr (by omega), decide_eq_true y3, fun g => of_decide_eq_true g x c ((x2.up.trans e).trans y2.up.symm)⟩
    · rw [c] at x2; exact absurd (x2.symm.trans y2) h
    · exact ⟨x, List.mem_range.mpr (by omega), decide_eq_true x3, fun g => of_decide_eq_true g y c ((y2.up.trans e.symm).trans x2.up.symm)⟩
  omega
/-- an involution without a fixed point: an even number -/
theorem even_inv {f : Nat → Nat} : ∀ (k : Nat) (l : List Nat), l.length = k → l.Nodup → (∀ z ∈ l, f z ∈ l ∧ f z ≠ z ∧ f (f z) = z) → k % 2 = 0
  | 0, _, _, _, _ => rfl
  | 1, l, hl, hd, h => by
    obtain ⟨x, rfl⟩ := List.length_eq_one_iff.mp hl
    have := h x List.mem_cons_self
    exact absurd (List.mem_singleton.mp this.1) this.2.1
  | k + 2, l, hl, hd, h => by
    obtain ⟨x, r, rfl⟩ : ∃ x r, l = x :: r := by
      cases l with
      | nil => cases hl
      | cons x r => exact ⟨x, r, rfl⟩
    obtain ⟨x1, x2, x3⟩ := h x List.mem_cons_self
    have hd' := List.nodup_cons.mp hd
    have xr : f x ∈ r := (List.mem_cons.mp x1).resolve_left x2
    have ih := even_inv (f := f) k (r.erase (f x)) (by rw [List.length_erase_of_mem xr]; rw [List.length_cons] at hl; omega) (hd'.2.erase _) (fun z hz => by
      obtain ⟨z1, z2⟩ := (hd'.2.mem_erase_iff).mp hz
      obtain ⟨y1, y2, y3⟩ := h z (List.mem_cons_of_mem _ z2)
      refine ⟨(hd'.2.mem_erase_iff).mpr ⟨fun e => ?_, (List.mem_cons.mp y1).resolve_left (fun e => ?_)⟩, y2, y3⟩
      · have : z = x := by rw [← y3, e, x3]
        exact hd'.1 (by rw [← this]; exact z2)
      · exact z1 (by rw [← y3, e]))
    omega
end Pc
namespace Pc
open PySem PySem.Spec PyProof.Rows L2 RZ
/-! ### two sheets side by side -/
structure Sbs (n m : Nat) (a b J : List Nat) : Prop where
  one : ∀ e, e < 2 * n → J.getD (p1 n m e) 0 = p1 n m (a.getD e 0)
  two : ∀ e, e < 2 * m → J.getD (p2 n m e) 0 = p2 n m (b.getD e 0)
theorem sbs_of {n m : Nat} {a b J : List Nat} (ha : IsPair (2 * n) a) (hb : IsPair (2 * m) b) (h : Mvd (2 * (n + m)) (jnd a b) (plj n m) J) : Sbs n m a b J := by
  have la := ha.len
  refine ⟨fun e he => ?_, fun e he => ?_⟩
  · have := h.at_ e (by omega)
    rw [plj_1 he, jnd_lo (by omega), plj_1 (ha.d he).1] at this
    exact this
  · have := h.at_ (2 * n + e) (by omega)
    have e2 := jnd_hi (a := a) (b := b) (e := e) (by rw [hb.len]; exact he)
    rw [la] at e2
    rw [plj_2 he, e2, plj_2 (hb.d he).1] at this
    exact this
theorem sbs_to {n m : Nat} {a b J : List Nat} (ha : IsPair (2 * n) a) (hb : IsPair (2 * m) b) (hl : J.length = 2 * (n + m)) (h : Sbs n m a b J) : Mvd (2 * (n + m)) (jnd a b) (plj n m) J := by
  have la := ha.len
  refine ⟨hl, fun i hi => ?_⟩
  by_cases c : i < 2 * n
  · rw [plj_1 c, jnd_lo (by omega), plj_1 (ha.d c).1]
    exact h.one i c
  · obtain ⟨e, rfl⟩ : ∃ e, i = 2 * n + e := ⟨i - 2 * n, by omega⟩
    have he : e < 2 * m := by omega
    have e2 := jnd_hi (a := a) (b := b) (e := e) (by rw [hb.len]; exact he)
    rw [la] at e2
    rw [plj_2 he, e2, plj_2 (hb.d he).1]
    exact h.two e he
theorem sbs_pair {n m : Nat} {a b J : List Nat} (ha : IsPair (2 * n) a) (hb : IsPair (2 * m) b) (h : Mvd (2 * (n + m)) (jnd a b) (plj n m) J) : IsPair (2 * (n + m)) J := by
  have hJ := jnd_pair ha hb
  rw [show 2 * n + 2 * m = 2 * (n + m) by omega] at hJ
  exact h.pair (plj_perm n m) hJ
theorem p1_lo {n m e : Nat} (h : e < n) : p1 n m e = e := by unfold p1; rw [if_pos h]
theorem p1_hi {n m e : Nat} (h : n ≤ e) : p1 n m e = m + e := by unfold p1; rw [if_neg (by omega)]
theorem p2_lo {n m e : Nat} (h : e < m) : p2 n m e = n + e := by unfold p2; rw [if_pos h]
theorem p2_hi {n m e : Nat} (h : m ≤ e) : p2 n m e = n + n + e := by unfold p2; rw [if_neg (by omega)]
/-! #### readings -/
theorem trail_1 {n m : Nat} {a b J p q : List Nat} (ha : IsPair (2 * n) a) (hp : IsPair n p) (hS : Sbs n m a b J) {z : Nat} {l : List Nat} (h : Trail a p n z l) : z < 2 * n → Trail J (jnd p q) (n + m) (p1 n m z) (l.map (p1 n m)) := by
  have lp := hp.len
  induction h with
  | stop hz =>
    rename_i z
    intro hz2
    have e := hS.one z hz2
    have : [z, a.getD z 0].map (p1 n m) = [p1 n m z, J.getD (p1 n m z) 0] := by rw [e]; rfl
    rw [this]
    exact .stop (by rw [e, p1_hi hz]; omega)
  | go hz _ ih =>
    rename_i z l _
    intro hz2
    have e := hS.one z hz2
    have dp := hp.d hz
    have e2 : J.getD (p1 n m z) 0 = a.getD z 0 := by rw [e, p1_lo hz]
    have e3 : (jnd p q).getD (J.getD (p1 n m z) 0) 0 = p1 n m (p.getD (a.getD z 0) 0) := by rw [e2, jnd_lo (by omega), p1_lo dp.1]
    have : (z :: a.getD z 0 :: l).map (p1 n m) = p1 n m z :: J.getD (p1 n m z) 0 :: l.map (p1 n m) := by rw [e]; rfl
    rw [this]
    refine .go (by rw [e2]; omega) ?_
    rw [e3]
    exact ih (by omega)
theorem trail_2 {n m : Nat} {a b J p q : List Nat} (hb : IsPair (2 * m) b) (hp : IsPair n p) (hq : IsPair m q) (hS : Sbs n m a b J) {z : Nat} {l : List Nat} (h : Trail b q m z l) : z < 2 * m → Trail J (jnd p q) (n + m) (p2 n m z) (l.map (p2 n m)) := by
  have lp := hp.len
  have lq := hq.len
  induction h with
  | stop hz =>
    rename_i z
    intro hz2
    have e := hS.two z hz2
    have : [z, b.getD z 0].map (p2 n m) = [p2 n m z, J.getD (p2 n m z) 0] := by rw [e]; rfl
    rw [this]
    exact .stop (by rw [e, p2_hi hz]; omega)
  | go hz _ ih =>
    rename_i z l _
    intro hz2
    have e := hS.two z hz2
    have dq := hq.d hz
    have e2 : J.getD (p2 n m z) 0 = n + b.getD z 0 := by rw [e, p2_lo hz]
    have e4 := jnd_hi (a := p) (b := q) (e := b.getD z 0) (by omega)
    rw [lp] at e4
    have e3 : (jnd p q).getD (J.getD (p2 n m z) 0) 0 = p2 n m (q.getD (b.getD z 0) 0) := by rw [e2, e4, p2_lo dq.1]
    have : (z :: b.getD z 0 :: l).map (p2 n m) = p2 n m z :: J.getD (p2 n m z) 0 :: l.map (p2 n m) := by rw [e]; rfl
    rw [this]
    refine .go (by rw [e2]; omega) ?_
    rw [e3]
    exact ih (by omega)
theorem last_map {f : Nat → Nat} : ∀ {l : List Nat}, l ≠ [] → (l.map f).getLastD 0 = f (l.getLastD 0)
  | [], h => absurd rfl h
  | [_], _ => rfl
  | x :: y :: l, _ => by
    show ((y :: l).map f).getLastD (f x) = f ((y :: l).getLastD x)
    have h1 : ∀ (m : List Nat) (d d' : Nat), m ≠ [] → m.getLastD d = m.getLastD d' := fun m d d' hm => by cases m with | nil => exact absurd rfl hm | cons a m => rfl
    rw [h1 _ (f x) 0 (by simp), last_map (by simp), h1 (y :: l) 0 x (by simp)]
theorem sbs_trl {n m : Nat} {a b J p q : List Nat} (ha : IsPair (2 * n) a) (hp : IsPair n p) (hS : Sbs n m a b J) {x : Nat} (hx : x < n) : trl J (jnd p q) (n + m) (n + m + x) = (trl a p n (n + x)).map (p1 n m) := by
  have t := (trl_trail ha hp (z := n + x) (by omega) (by omega)).1
  have := (trail_1 (q := q) ha hp hS t (by omega)).eq
  rw [p1_hi (by omega), show m + (n + x) = n + m + x by omega] at this
  exact this
theorem sbs_rd {n m : Nat} {a b J p q : List Nat} (ha : IsPair (2 * n) a) (hb : IsPair (2 * m) b) (hp : IsPair n p) (hq : IsPair m q) (hS : Sbs n m a b J) : rd J (jnd p q) (n + m) = jnd (rd a p n) (rd b q m) := by
  have r1 := rd_len a p n
  have r2 := rd_len b q m
  refine list_d (by rw [rd_len, jnd_len, r1, r2]) fun x hx => ?_
  rw [rd_len] at hx
  rw [getD_of (rd_get _ _ hx)]
  by_cases c : x < n
  · rw [jnd_lo (by omega), getD_of (rd_get _ _ c)]
    have t := (trl_trail ha hp (z := n + x) (by omega) (by omega)).1
    have hl := t.len
    show (trl J (jnd p q) (n + m) (n + m + x)).getLastD 0 - (n + m) = (trl a p n (n + x)).getLastD 0 - n
    rw [sbs_trl ha hp hS c, last_map (by intro z; rw [z] at hl; simp at hl), p1_hi hl.2.2]; omega
  · obtain ⟨y, rfl⟩ : ∃ y, x = n + y := ⟨x - n, by omega⟩
    have e4 := jnd_hi (a := rd a p n) (b := rd b q m) (e := y) (by omega)
    rw [r1] at e4
    rw [e4, getD_of (rd_get _ _ (show y < m by omega))]
    have t := (trl_trail hb hq (z := m + y) (by omega) (by omega)).1
    have hl := t.len
    have := (trail_2 (a := a) hb hp hq hS t (by omega)).eq
    rw [p2_hi (by omega)] at this
    have hd := far_d hb hq (z := m + y) (by omega) (by omega)
    show (trl J (jnd p q) (n + m) (n + m + (n + y))).getLastD 0 - (n + m) = n + ((trl b q m (m + y)).getLastD 0 - m)
    rw [show n + m + (n + y) = n + n + (m + y) by omega, this, last_map (by intro z; rw [z] at hl; simp at hl), p2_hi hl.2.2]
    have h1 := hl.2.2
    omega
/-! #### one after another, upside down -/
structure Emb (n M : Nat) (φ : Nat → Nat) : Prop where
  lo : ∀ e, e < n → φ e < M
  hi : ∀ e, e < n → φ (n + e) = M + φ e
theorem emb_1 (n m : Nat) : Emb n (n + m) (p1 n m) := ⟨fun e h => by rw [p1_lo h]; omega, fun e h => by rw [p1_hi (by omega), p1_lo h]; omega⟩
theorem emb_2 (n m : Nat) : Emb m (n + m) (p2 n m) := ⟨fun e h => by rw [p2_lo h]; omega, fun e h => by rw [p2_hi (by omega), p2_lo h]; omega⟩
theorem Emb.up {n M : Nat} {φ : Nat → Nat} (h : Emb n M φ) {e : Nat} (h1 : n ≤ e) (h2 : e < 2 * n) : φ e = M + φ (e - n) := by
  have := h.hi (e - n) (by omega)
  rw [show n + (e - n) = e by omega] at this
  exact this
theorem ends_emb {n M : Nat} {φ : Nat → Nat} {a c J J' : List Nat} (E : Emb n M φ) (ha : IsPair (2 * n) a) (hc : IsPair (2 * n) c) (ja : ∀ e, e < 2 * n → J.getD (φ e) 0 = φ (a.getD e 0)) (jc : ∀ e, e < 2 * n → J'.getD (φ e) 0 = φ (c.getD e 0)) {s : Bool × Nat} {y : Nat} (w : Ends (cstep a c n n) s y) : Val n n n s → Ends (cstep J J' M M) (s.1, φ s.2) (φ y) := by
  induction w with
  | stop h =>
    rename_i s y
    intro hs
    obtain ⟨k, z⟩ := s
    cases k with
    | true =>
      have hz : z < 2 * n := by have : z < n + n := hs; omega
      have e := ja z hz
      by_cases q : a.getD z 0 < n
      · rw [cs_tl q] at h
        cases h
        have l := E.lo _ q
        have := cs_tl (f := J) (g := J') (m := M) (n := M) (z := φ z) (by rw [e]; exact l)
        rw [e] at this
        exact .stop this
      · rw [cs_tg (by omega)] at h; cases h
    | false =>
      have hz : z < 2 * n := by have : z < n + n := hs; omega
      have e := jc z hz
      by_cases q : c.getD z 0 < n
      · rw [cs_fl q] at h; cases h
      · rw [cs_fg (by omega)] at h
        cases h
        have u := E.up (show n ≤ c.getD z 0 by omega) (hc.d hz).1
        rw [u] at e
        have := cs_fg (f := J) (g := J') (m := M) (n := M) (z := φ z) (by rw [e]; omega)
        rw [e, show M + (M + φ (c.getD z 0 - n) - M) = φ (n + (c.getD z 0 - n)) by rw [E.hi _ (by have := (hc.d hz).1; omega)]; omega] at this
        exact .stop this
  | go h _ ih =>
    rename_i s t y _
    intro hs
    have hv := (cs_val (k := n) ha.two hc.two hs h).1
    have := ih hv
    obtain ⟨k, z⟩ := s
    cases k with
    | true =>
      have hz : z < 2 * n := by have : z < n + n := hs; omega
      have e := ja z hz
      by_cases q : a.getD z 0 < n
      · rw [cs_tl q] at h; cases h
      · rw [cs_tg (by omega)] at h
        cases h
        rw [E.up (show n ≤ a.getD z 0 by omega) (ha.d hz).1] at e
        have g := cs_tg (f := J) (g := J') (m := M) (n := M) (z := φ z) (by rw [e]; omega)
        rw [e, show M + φ (a.getD z 0 - n) - M = φ (a.getD z 0 - n) by omega] at g
        exact .go g this
    | false =>
      have hz : z < 2 * n := by have : z < n + n := hs; omega
      have e := jc z hz
      by_cases q : c.getD z 0 < n
      · rw [cs_fl q] at h
        cases h
        have l := E.lo _ q
        have g := cs_fl (f := J) (g := J') (m := M) (n := M) (z := φ z) (by rw [e]; exact l)
        rw [e, ← E.hi _ q] at g
        exact .go g this
      · rw [cs_fg (by omega)] at h; cases h
theorem fol_emb {n M : Nat} {φ : Nat → Nat} {a c J J' : List Nat} (E : Emb n M φ) (ha : IsPair (2 * n) a) (hc : IsPair (2 * n) c) (ja : ∀ e, e < 2 * n → J.getD (φ e) 0 = φ (a.getD e 0)) (jc : ∀ e, e < 2 * n → J'.getD (φ e) 0 = φ (c.getD e 0)) {e : Nat} (he : e < 2 * n) : (fol J J' M).getD (φ e) 0 = φ ((fol a c n).getD e 0) := by
  have w := cmp_ends ha.two hc.two (show e < n + n by omega)
  have v := ends_emb E ha hc ja jc w (cst_val (f := a) (g := c) (k := n) ha.two hc.two (show e < n + n by omega)).1
  by_cases q : e < n
  · have l := E.lo e q
    have c1 : cst n n e = (true, e) := by unfold cst; rw [if_pos q]
    have c2 : cst M M (φ e) = (true, φ e) := by unfold cst; rw [if_pos l]
    rw [c1] at v
    show (cmp J J' M M M).getD (φ e) 0 = _
    rw [cmp_d _ _ (by omega)]
    refine cfar_is ?_
    rw [c2]; exact v
  · have u := E.up (show n ≤ e by omega) he
    have l := E.lo (e - n) (by omega)
    have c1 : cst n n e = (false, e) := by unfold cst; rw [if_neg q, show n + (e - n) = e by omega]
    have c2 : cst M M (φ e) = (false, φ e) := by unfold cst; rw [if_neg (by omega), show M + (φ e - M) = φ e by omega]
    rw [c1] at v
    show (cmp J J' M M M).getD (φ e) 0 = _
    rw [cmp_d _ _ (by omega)]
    refine cfar_is ?_
    rw [c2]; exact v
theorem os_emb {n M : Nat} {φ : Nat → Nat} (E : Emb n M φ) {e : Nat} (he : e < 2 * n) : os M (φ e) = φ (os n e) := by
  by_cases q : e < n
  · have l := E.lo e q
    rw [show os n e = n + e by unfold os; rw [if_pos q]; omega, E.hi e q]
    unfold os; rw [if_pos l]; omega
  · have u := E.up (show n ≤ e by omega) he
    rw [show os n e = e - n by unfold os; rw [if_neg q], u]
    unfold os; rw [if_neg (by omega)]; omega
theorem mir_emb {n M : Nat} {φ : Nat → Nat} {a J : List Nat} (E : Emb n M φ) (ha : IsPair (2 * n) a) (ja : ∀ e, e < 2 * n → J.getD (φ e) 0 = φ (a.getD e 0)) (hφ : ∀ e, e < 2 * n → φ e < 2 * M) {e : Nat} (he : e < 2 * n) : (mir J M).getD (φ e) 0 = φ ((mir a n).getD e 0) := by
  rw [mir_d _ (hφ e he), mir_d _ he, os_emb E he, ja _ (os_lt he), os_emb E (ha.d (os_lt he)).1]
theorem sbs_fol {n m : Nat} {a b c d J J' : List Nat} (ha : IsPair (2 * n) a) (hb : IsPair (2 * m) b) (hc : IsPair (2 * n) c) (hd : IsPair (2 * m) d) (hS : Sbs n m a b J) (hS' : Sbs n m c d J') : Sbs n m (fol a c n) (fol b d m) (fol J J' (n + m)) :=
  ⟨fun _ he => fol_emb (emb_1 n m) ha hc hS.one hS'.one he, fun _ he => fol_emb (emb_2 n m) hb hd hS.two hS'.two he⟩
theorem sbs_mir {n m : Nat} {a b J : List Nat} (ha : IsPair (2 * n) a) (hb : IsPair (2 * m) b) (hS : Sbs n m a b J) : Sbs n m (mir a n) (mir b m) (mir J (n + m)) :=
  ⟨fun _ he => mir_emb (emb_1 n m) ha hS.one (fun e h => by unfold p1; split <;> omega) he, fun _ he => mir_emb (emb_2 n m) hb hS.two (fun e h => by unfold p2; split <;> omega) he⟩
/-! #### pairs and strands -/
theorem sel_eq2 {c d : Nat → Bool} {g k : Nat → Nat × Nat} {n : Nat} (h : ∀ x, x < n → c x = d x) (e : ∀ x, x < n → c x = true → g x = k x) : selN c g n = selN d k n := by
  unfold selN
  rw [List.filter_congr (p := c) (q := d) fun x hx => h x (List.mem_range.mp hx)]
  refine List.map_congr_left fun x hx => ?_
  rw [List.mem_filter] at hx
  have hx' := List.mem_range.mp hx.1
  exact e x hx' (by rw [h x hx']; exact hx.2)
theorem selN_split (c : Nat → Bool) (g : Nat → Nat × Nat) (n m : Nat) : selN c g (n + m) = selN c g n ++ selN (fun x => c (n + x)) (fun x => g (n + x)) m := by
  unfold selN
  rw [List.range_add, List.filter_append, List.map_append, List.filter_map, List.map_map]
  rfl
theorem sel_shift {c : Nat → Bool} {g : Nat → Nat × Nat} {n m : Nat} {k : Nat → Nat × Nat} (h : ∀ x, x < m → c x = true → k x = (n + (g x).1, n + (g x).2)) : selN c k m = (selN c g m).map fun p => (n + p.1, n + p.2) := by
  unfold selN
  rw [List.map_map]
  refine List.map_congr_left fun x hx => ?_
  rw [List.mem_filter] at hx
  exact h x (List.mem_range.mp hx.1) hx.2
def sh2 (n : Nat) (qs : List (Nat × Nat)) : List (Nat × Nat) := qs.map fun p => (n + p.1, n + p.2)
theorem sbs_ups {n m : Nat} {a b J : List Nat} (hS : Sbs n m a b J) : ups J (n + m) = ups a n ++ sh2 n (ups b m) := by
  unfold ups
  rw [selN_split]
  have A : ∀ x, x < n → J.getD x 0 = p1 n m (a.getD x 0) := fun x hx => by have := hS.one x (by omega); rw [p1_lo hx] at this; exact this
  have B : ∀ x, x < m → J.getD (n + x) 0 = p2 n m (b.getD x 0) := fun x hx => by have := hS.two x (by omega); rw [p2_lo hx] at this; exact this
  refine congr (congrArg HAppend.hAppend (sel_eq2 (fun x hx => ?_) fun x hx h => ?_)) (Eq.trans (sel_eq2 (d := upC b m) (k := fun x => upG J (n + x)) (fun x hx => ?_) fun x hx h => rfl) (sel_shift fun x hx h => ?_))
  · unfold upC
    rw [A x hx]
    by_cases q : a.getD x 0 < n
    · rw [p1_lo q, decide_eq_true q, decide_eq_true (show a.getD x 0 < n + m by omega)]
    · rw [p1_hi (by omega), decide_eq_false q, decide_eq_false (show ¬ m + a.getD x 0 < n + m by omega), Bool.and_false, Bool.and_false]
  · unfold upC at h
    rw [Bool.and_eq_true] at h
    have h2 := of_decide_eq_true h.2
    unfold upG
    rw [A x hx] at h2 ⊢
    by_cases q : a.getD x 0 < n
    · rw [p1_lo q]
    · rw [p1_hi (by omega)] at h2; omega
  · unfold upC
    rw [B x hx]
    by_cases q : b.getD x 0 < m
    · rw [p2_lo q, decide_eq_true q, decide_eq_true (show n + b.getD x 0 < n + m by omega), Bool.and_true, Bool.and_true]
      exact decide_eq_decide.mpr (by omega)
    · rw [p2_hi (by omega), decide_eq_false q, decide_eq_false (show ¬ n + n + b.getD x 0 < n + m by omega), Bool.and_false, Bool.and_false]
  · unfold upC at h
    rw [Bool.and_eq_true] at h
    have h2 := of_decide_eq_true h.2
    unfold upG
    rw [B x hx, p2_lo h2]
theorem sbs_los {n m : Nat} {a b J : List Nat} (hS : Sbs n m a b J) : los J (n + m) = los a n ++ sh2 n (los b m) := by
  unfold los
  rw [selN_split]
  have A : ∀ x, x < n → J.getD (n + m + x) 0 = p1 n m (a.getD (n + x) 0) := fun x hx => by have := hS.one (n + x) (by omega); rw [p1_hi (by omega), show m + (n + x) = n + m + x by omega] at this; exact this
  have B : ∀ x, x < m → J.getD (n + m + (n + x)) 0 = p2 n m (b.getD (m + x) 0) := fun x hx => by have := hS.two (m + x) (by omega); rw [p2_hi (by omega), show n + n + (m + x) = n + m + (n + x) by omega] at this; exact this
  refine congr (congrArg HAppend.hAppend (sel_eq2 (fun x hx => ?_) fun x hx h => ?_)) (Eq.trans (sel_eq2 (d := loC b m) (k := fun x => loG J (n + m) (n + x)) (fun x hx => ?_) fun x hx h => rfl) (sel_shift fun x hx h => ?_))
  · unfold loC
    rw [A x hx]
    by_cases q : a.getD (n + x) 0 < n
    · rw [p1_lo q, decide_eq_false (by omega), decide_eq_false (by omega)]
    · rw [p1_hi (by omega)]; exact decide_eq_decide.mpr (by omega)
  · have h2 := of_decide_eq_true h
    unfold loG
    rw [A x hx] at h2 ⊢
    by_cases q : a.getD (n + x) 0 < n
    · rw [p1_lo q] at h2; omega
    · rw [p1_hi (by omega)]; exact Prod.ext rfl (by show m + a.getD (n + x) 0 - (n + m) = a.getD (n + x) 0 - n; omega)
  · unfold loC
    rw [B x hx]
    by_cases q : b.getD (m + x) 0 < m
    · rw [p2_lo q, decide_eq_false (by omega), decide_eq_false (by omega)]
    · rw [p2_hi (by omega)]; exact decide_eq_decide.mpr (by omega)
  · have h2 := of_decide_eq_true h
    unfold loG
    rw [B x hx, p2_hi (by omega)]; exact Prod.ext rfl (by show n + n + b.getD (m + x) 0 - (n + m) = n + (b.getD (m + x) 0 - m); omega)
theorem sbs_sts {n m : Nat} {a b J : List Nat} (hS : Sbs n m a b J) : sts J (n + m) = sts a n ++ sh2 n (sts b m) := by
  unfold sts
  rw [selN_split]
  have A : ∀ x, x < n → J.getD x 0 = p1 n m (a.getD x 0) := fun x hx => by have := hS.one x (by omega); rw [p1_lo hx] at this; exact this
  have B : ∀ x, x < m → J.getD (n + x) 0 = p2 n m (b.getD x 0) := fun x hx => by have := hS.two x (by omega); rw [p2_lo hx] at this; exact this
  refine congr (congrArg HAppend.hAppend (sel_eq2 (fun x hx => ?_) fun x hx h => ?_)) (Eq.trans (sel_eq2 (d := stC b m) (k := fun x => stG J (n + m) (n + x)) (fun x hx => ?_) fun x hx h => rfl) (sel_shift fun x hx h => ?_))
  · unfold stC
    rw [A x hx]
    by_cases q : a.getD x 0 < n
    · rw [p1_lo q, decide_eq_false (by omega), decide_eq_false (by omega)]
    · rw [p1_hi (by omega)]; exact decide_eq_decide.mpr (by omega)
  · have h2 := of_decide_eq_true h
    unfold stG
    rw [A x hx] at h2 ⊢
    by_cases q : a.getD x 0 < n
    · rw [p1_lo q] at h2; omega
    · rw [p1_hi (by omega)]; exact Prod.ext rfl (by show m + a.getD x 0 - (n + m) = a.getD x 0 - n; omega)
  · unfold stC
    rw [B x hx]
    by_cases q : b.getD x 0 < m
    · rw [p2_lo q, decide_eq_false (by omega), decide_eq_false (by omega)]
    · rw [p2_hi (by omega)]; exact decide_eq_decide.mpr (by omega)
  · have h2 := of_decide_eq_true h
    unfold stG
    rw [B x hx, p2_hi (by omega)]; exact Prod.ext rfl (by show n + n + b.getD x 0 - (n + m) = n + (b.getD x 0 - m); omega)
/-! #### couples that cross -/
theorem nd_sub2 : ∀ (l m : List Nat), l.Nodup → (∀ y ∈ l, y ∈ m) → l.length ≤ m.length
  | [], _, _, _ => Nat.zero_le _
  | x :: l, m, hd, h => by
    have hd' := List.nodup_cons.mp hd
    have h1 := nd_sub2 l (m.erase x) hd'.2 (fun y hy => (List.mem_erase_of_ne (fun e => hd'.1 (by rw [← e]; exact hy))).mpr (h y (List.mem_cons_of_mem _ hy)))
    have h2 := h x List.mem_cons_self
    rw [List.length_erase_of_mem h2] at h1
    have := List.length_pos_of_mem h2
    rw [List.length_cons]; omega
theorem len_inj {L M : List Nat} (hL : L.Nodup) (R : Nat → Nat → Prop) (ex : ∀ x ∈ L, ∃ u ∈ M, R x u) (inj : ∀ x ∈ L, ∀ y ∈ L, ∀ u, R x u → R y u → x = y) : L.length ≤ M.length := by
  have : ∃ φ : Nat → Nat, ∀ x ∈ L, φ x ∈ M ∧ R x (φ x) := ⟨fun x => open Classical in if h : ∃ u ∈ M, R x u then h.choose else 0, fun x hx => by
    have h := ex x hx
    simp only [dif_pos h]
    exact h.choose_spec⟩
  obtain ⟨φ, hφ⟩ := this
  have nd : (L.map φ).Nodup := by
    unfold List.Nodup
    rw [List.pairwise_map]
    exact List.Pairwise.imp_of_mem (fun {a b} ha hb hab e => hab (inj a ha b hb (φ a) (hφ a ha).2 (by rw [e]; exact (hφ b hb).2))) hL
  have := nd_sub2 (L.map φ) M nd fun y hy => by
    obtain ⟨x, hx, rfl⟩ := List.mem_map.mp hy
    exact (hφ x hx).1
  rw [List.length_map] at this
  exact this
def crs (c : List Nat) (k : Nat) : List Nat := (List.range k).filter fun x => decide (k ≤ c.getD x 0)
structure Cross (J w : List Nat) (N n z k u : Nat) : Prop where
  up : ∀ j, j < k → J.getD (hop J w z j) 0 < N
  at_ : J.getD (hop J w z k) 0 = u
  lt : u < n
  cr : n ≤ w.getD u 0
theorem cross_some {n m : Nat} {a b J w : List Nat} (ha : IsPair (2 * n) a) (hS : Sbs n m a b J) (hw : IsPair (n + m) w) {z : Nat} {l : List Nat} (h : Trail J w (n + m) z l) : (z < n ∨ (n + m ≤ z ∧ z < n + m + n)) → n + m + n ≤ l.getLastD 0 → ∃ k u, Cross J w (n + m) n z k u := by
  have stay : ∀ z, (z < n ∨ (n + m ≤ z ∧ z < n + m + n)) → (J.getD z 0 < n ∨ (n + m ≤ J.getD z 0 ∧ J.getD z 0 < n + m + n)) := fun z hz => by
    obtain ⟨e, he, rfl⟩ : ∃ e, e < 2 * n ∧ z = p1 n m e := by
      rcases hz with h | h
      · exact ⟨z, by omega, by rw [p1_lo h]⟩
      · exact ⟨z - m, by omega, by rw [p1_hi (by omega)]; omega⟩
    rw [hS.one e he]
    have := (ha.d he).1
    by_cases q : a.getD e 0 < n
    · rw [p1_lo q]; exact .inl q
    · rw [p1_hi (by omega)]; exact .inr ⟨by omega, by omega⟩
  induction h with
  | stop hz =>
    rename_i z
    intro hz0 hl
    have := stay z hz0
    have hl' : n + m + n ≤ J.getD z 0 := hl
    omega
  | go hz ht ih =>
    rename_i z l
    intro hz0 hl
    have hJ := stay z hz0
    have hJn : J.getD z 0 < n := by omega
    by_cases q : n ≤ w.getD (J.getD z 0) 0
    · exact ⟨0, J.getD z 0, fun j hj => absurd hj (Nat.not_lt_zero _), rfl, hJn, q⟩
    · have hl2 := (ht.len).1
      rw [lastc hl2] at hl
      obtain ⟨k, u, c⟩ := ih (.inl (by omega)) hl
      refine ⟨k + 1, u, fun j hj => ?_, ?_, c.lt, c.cr⟩
      · cases j with
        | zero => exact hz
        | succ j =>
          have := c.up j (by omega)
          rw [hop_step] at this
          exact this
      · have := c.at_
        rw [hop_step] at this
        exact this
theorem hop_lt {J w : List Nat} {N z : Nat} (hw : IsPair N w) (hz : z < 2 * N) : ∀ k, (∀ j, j < k → J.getD (hop J w z j) 0 < N) → hop J w z k < 2 * N
  | 0, _ => hz
  | k + 1, h => by
    have := (hw.d (h k (by omega))).1
    show w.getD (J.getD (hop J w z k) 0) 0 < 2 * N
    omega
theorem hop_back {J w : List Nat} {N z z' : Nat} (hJ : IsPair (2 * N) J) (hw : IsPair N w) (hz : z < 2 * N) (hz' : z' < 2 * N) (hzl : N ≤ z) (hzl' : N ≤ z') : ∀ k k', (∀ j, j < k → J.getD (hop J w z j) 0 < N) → (∀ j, j < k' → J.getD (hop J w z' j) 0 < N) → hop J w z k = hop J w z' k' → z = z'
  | 0, 0, _, _, e => e
  | 0, k' + 1, _, h', e => by
    have := (hw.d (h' k' (by omega))).1
    have e' : z = w.getD (J.getD (hop J w z' k') 0) 0 := e
    omega
  | k + 1, 0, h, _, e => by
    have := (hw.d (h k (by omega))).1
    have e' : w.getD (J.getD (hop J w z k) 0) 0 = z' := e
    omega
  | k + 1, k' + 1, h, h', e => by
    have e1 := hw.inj (h k (by omega)) (h' k' (by omega)) e
    have e2 := hJ.inj (hop_lt hw hz k fun j hj => h j (by omega)) (hop_lt hw hz' k' fun j hj => h' j (by omega)) e1
    exact hop_back hJ hw hz hz' hzl hzl' k k' (fun j hj => h j (by omega)) (fun j hj => h' j (by omega)) e2
theorem crs_le {n m : Nat} {a b J w : List Nat} (ha : IsPair (2 * n) a) (hJ : IsPair (2 * (n + m)) J) (hS : Sbs n m a b J) (hw : IsPair (n + m) w) : (crs (rd J w (n + m)) n).length ≤ (crs w n).length := by
  refine len_inj (List.nodup_range.filter _) (fun x u => ∃ k, Cross J w (n + m) n (n + m + x) k u) (fun x hx => ?_) fun x hx y hy u h g => ?_
  · unfold crs at hx
    rw [List.mem_filter] at hx
    have hxn := List.mem_range.mp hx.1
    have hc := of_decide_eq_true hx.2
    rw [getD_of (rd_get _ _ (show x < n + m by omega))] at hc
    have t := (trl_trail hJ hw (z := n + m + x) (by omega) (by omega)).1
    have hl := t.len
    have hc' : n ≤ (trl J w (n + m) (n + m + x)).getLastD 0 - (n + m) := hc
    obtain ⟨k, u, c⟩ := cross_some ha hS hw t (.inr ⟨by omega, by omega⟩) (by omega)
    exact ⟨u, List.mem_filter.mpr ⟨List.mem_range.mpr c.lt, decide_eq_true c.cr⟩, k, c⟩
  · obtain ⟨k, c⟩ := h
    obtain ⟨k', c'⟩ := g
    have hxn : x < n := List.mem_range.mp (List.mem_filter.mp hx).1
    have hyn : y < n := List.mem_range.mp (List.mem_filter.mp hy).1
    have e := hJ.inj (hop_lt hw (by omega) k c.up) (hop_lt hw (by omega) k' c'.up) (c.at_.trans c'.at_.symm)
    have := hop_back hJ hw (show n + m + x < 2 * (n + m) by omega) (show n + m + y < 2 * (n + m) by omega) (by omega) (by omega) k k' c.up c'.up e
    omega
theorem crs_even {n m : Nat} {c : List Nat} (hn : n % 2 = 0) (hc : IsPair (n + m) c) : (crs c n).length % 2 = 0 ∧ (crs c n).length ≤ n := by
  have sp := filter_split (fun x => decide (n ≤ c.getD x 0)) (List.range n)
  rw [List.length_range] at sp
  have ev := even_inv (f := fun x => c.getD x 0) ((List.range n).filter fun x => !decide (n ≤ c.getD x 0)).length _ rfl (List.nodup_range.filter _) (fun z hz => by
    rw [List.mem_filter] at hz
    have hzn := List.mem_range.mp hz.1
    have hlt : c.getD z 0 < n := by
      have := hz.2
      by_cases q : n ≤ c.getD z 0
      · rw [decide_eq_true q] at this; cases this
      · omega
    have d := hc.d (show z < n + m by omega)
    exact ⟨List.mem_filter.mpr ⟨List.mem_range.mpr hlt, by rw [d.2.2.1, decide_eq_false (by omega)]; rfl⟩, d.2.1, d.2.2.1⟩)
  have e : (crs c n).length = ((List.range n).filter fun x => decide (n ≤ c.getD x 0)).length := rfl
  omega
end Pc
namespace Pc
open PySem PySem.Spec PyProof.Rows L2 RZ
def sp1 (n m : Nat) : List Nat := List.range n ++ (List.range n).map (n + m + ·)
def sp2 (n m : Nat) : List Nat := (List.range m).map (n + ·) ++ (List.range m).map (2 * n + m + ·)
theorem sp1_len (n m : Nat) : (sp1 n m).length = 2 * n := by unfold sp1; rw [List.length_append, List.length_map, List.length_range]; omega
theorem sp2_len (n m : Nat) : (sp2 n m).length = 2 * m := by unfold sp2; rw [List.length_append, List.length_map, List.length_map, List.length_range]; omega
theorem sp1_get {n m e : Nat} (h : e < 2 * n) : (sp1 n m).getD e 0 = p1 n m e := by
  unfold sp1
  by_cases c : e < n
  · rw [getD_app1 (by rw [List.length_range]; exact c), p1_lo c, List.getD_eq_getElem?_getD, List.getElem?_range c]; rfl
  · obtain ⟨z, rfl⟩ : ∃ z, e = n + z := ⟨e - n, by omega⟩
    rw [getD_app2 (by rw [List.length_range]), getD_shift (by omega), p1_hi (by omega)]; omega
theorem sp2_get {n m e : Nat} (h : e < 2 * m) : (sp2 n m).getD e 0 = p2 n m e := by
  unfold sp2
  by_cases c : e < m
  · rw [getD_app1 (by rw [List.length_map, List.length_range]; exact c), p2_lo c, getD_shift c]
  · obtain ⟨z, rfl⟩ : ∃ z, e = m + z := ⟨e - m, by omega⟩
    rw [getD_app2 (by rw [List.length_map, List.length_range]), getD_shift (by omega), p2_hi (by omega)]; omega
theorem p1_inj {n m e e' : Nat} (h : p1 n m e = p1 n m e') : e = e' := by unfold p1 at h; split at h <;> split at h <;> omega
theorem p2_inj {n m e e' : Nat} (h : p2 n m e = p2 n m e') : e = e' := by unfold p2 at h; split at h <;> split at h <;> omega
theorem p12 {n m e e' : Nat} (he : e < 2 * n) (he' : e' < 2 * m) : p1 n m e ≠ p2 n m e' := by unfold p1 p2; split <;> split <;> omega
theorem p1_lt {n m e : Nat} (h : e < 2 * n) : p1 n m e < 2 * (n + m) := by unfold p1; split <;> omega
theorem p2_lt {n m e : Nat} (h : e < 2 * m) : p2 n m e < 2 * (n + m) := by unfold p2; split <;> omega
def EJ (n m : Nat) (a b fs : List Nat) (i j : Nat) : Prop := fs.length = 2 * (n + m) ∧ (∀ e, e < i → fs.getD (p1 n m e) 0 = p1 n m (a.getD e 0)) ∧ ∀ e, e < j → fs.getD (p2 n m e) 0 = p2 n m (b.getD e 0)
theorem EJ.one {n m i : Nat} {a b fs : List Nat} (hi : i < 2 * n) (h : EJ n m a b fs i 0) : EJ n m a b (fs.set (p1 n m i) (p1 n m (a.getD i 0))) (i + 1) 0 := by
  refine ⟨by rw [List.length_set]; exact h.1, fun e he => ?_, fun e he => absurd he (Nat.not_lt_zero _)⟩
  rw [getD_set fs (by rw [h.1]; exact p1_lt hi)]
  by_cases c : e = i
  · subst c; rw [if_pos rfl]
  · rw [if_neg (fun z => c (p1_inj z))]; exact h.2.1 e (by omega)
theorem EJ.two {n m j : Nat} {a b fs : List Nat} (hj : j < 2 * m) (h : EJ n m a b fs (2 * n) j) : EJ n m a b (fs.set (p2 n m j) (p2 n m (b.getD j 0))) (2 * n) (j + 1) := by
  refine ⟨by rw [List.length_set]; exact h.1, fun e he => ?_, fun e he => ?_⟩
  · rw [getD_set fs (by rw [h.1]; exact p2_lt hj), if_neg (p12 he hj)]; exact h.2.1 e he
  · rw [getD_set fs (by rw [h.1]; exact p2_lt hj)]
    by_cases c : e = j
    · subst c; rw [if_pos rfl]
    · rw [if_neg (fun z => c (p2_inj z))]; exact h.2.2 e (by omega)
theorem sh_take {k i : Nat} (n : Nat) (h : i < n) : nv (((List.range n).map (k + ·)).take i) ++ [V.int ((k + i : Nat) : Int)] = nv (((List.range n).map (k + ·)).take (i + 1)) := by
  rw [List.take_add_one, List.getElem?_map, List.getElem?_range h]
  unfold nv
  rw [List.map_append]; rfl
end Pc
namespace Pc
open PySem PySem.Spec PyProof.Rows L2 RZ
section
variable {P : Program} {w : World} {K : PySem.W.Frag} {mg : Str → Option Value} {base : Heap}
/-! ### the law's own joining of two sheets -/
def spEndsJ (K : PySem.W.Frag) : Sp := fun vs H Q _ => ∃ (a b : Addr) (x y : List Nat) (n m : Nat), vs = [.ref a, .ref b] ∧ SqT K H a (nv x) ∧ SqT K H b (nv y) ∧ IsPair (2 * n) x ∧ IsPair (2 * m) y ∧ n + m ≤ 200 ∧
  ∀ (H' : Hp) (t : Addr) (r : List Nat), Mvd (2 * (n + m)) (jnd x y) (plj n m) r → Same H H' → H t = none → H' t = some (.tup (nv r)) → Q (.ref t) H'
theorem ok_ends_joined (T : Env K mg) : FnOk P w K mg base CX0 1 T.f_ends_joined T.d_ends_joined ["_law_start", "_law_mate"] (spEndsJ K) := by
  refine T.F_ends_joined.ok sc_ends_joined (fun vs H Q E h => ?_) (fun cdv A outer s H vs Q E hr h => ?_)
  · obtain ⟨a, b, x, y, n, m, rfl, _⟩ := h
    rfl
  · obtain ⟨a, b, X1, Y1, n, m, rfl, ha, hb, hx, hy, hnm, q⟩ := h
    refine ⟨_, pss_cons (ps_asg (pe_tup (pa_cons (pe_op op_fdiv (pe_callB call_len_seq (by rfl) T.n_len PySem.boot_len (pa_cons (pv 0) pa_nil)) pe_int) (pa_cons (pe_op op_fdiv (pe_callB call_len_seq (by rfl) T.n_len PySem.boot_len (pa_cons (pv 1) pa_nil)) pe_int) pa_nil))) (pg_tup rfl (pgs_cons (pg_name (i := 2) sc_ends_joined.nd rfl (.inr rfl)) (pgs_cons (pg_name (i := 3) sc_ends_joined.nd rfl (.inr rfl)) pgs_nil)))) <|
      pss_cons (ps_set (i := 4) sc_ends_joined.nd rfl (.inl rfl) (pe_op op_cat (pe_listRg rfl (by rfl) T.n_list (prg_1 (by rfl) T.n_range (pv 2))) (pe_lc (own := [("_law_spot", 9)]) (g := gName 9) (tt := tYes) (te := tOp (rI0 fun i j => .int (i + j)) (tOp (rI0 fun i j => .int (i + j)) (tVar 2) (tVar 3)) (tVar 9)) (by rfl) sc_ends_joined.nd (pi_range1 (by rfl) T.n_range (pa_cons (pv 2) pa_nil)) (blkOk_by (N := N_ends_joined) (sc := defScope s_ends_joined) (by decide +kernel)) (fun _ _ _ _ _ => pg_name (i := 9) sc_ends_joined.nd rfl (.inl rfl)) (fun _ _ _ _ _ => pts_nil) (fun _ _ _ _ _ => pe_op op_add (pe_op op_add (pv 2) (pv 3)) (pv 9))))) <|
      pss_cons (ps_set (i := 5) sc_ends_joined.nd rfl (.inl rfl) (pe_op op_cat (pe_lc (own := [("_law_spot", 9)]) (g := gName 9) (tt := tYes) (te := tOp (rI0 fun i j => .int (i + j)) (tVar 2) (tVar 9)) (by rfl) sc_ends_joined.nd (pi_range1 (by rfl) T.n_range (pa_cons (pv 3) pa_nil)) (blkOk_by (N := N_ends_joined) (sc := defScope s_ends_joined) (by decide +kernel)) (fun _ _ _ _ _ => pg_name (i := 9) sc_ends_joined.nd rfl (.inl rfl)) (fun _ _ _ _ _ => pts_nil) (fun _ _ _ _ _ => pe_op op_add (pv 2) (pv 9))) (pe_lc (own := [("_law_spot", 9)]) (g := gName 9) (tt := tYes) (te := tOp (rI0 fun i j => .int (i + j)) (tOp (rI0 fun i j => .int (i + j)) (tOp (rI CMul fun i j => .int (i * j)) (tC (.int 2)) (tVar 2)) (tVar 3)) (tVar 9)) (by rfl) sc_ends_joined.nd (pi_range1 (by rfl) T.n_range (pa_cons (pv 3) pa_nil)) (blkOk_by (N := N_ends_joined) (sc := defScope s_ends_joined) (by decide +kernel)) (fun _ _ _ _ _ => pg_name (i := 9) sc_ends_joined.nd rfl (.inl rfl)) (fun _ _ _ _ _ => pts_nil) (fun _ _ _ _ _ => pe_op op_add (pe_op op_add (pe_op op_mul pe_int (pv 2)) (pv 3)) (pv 9))))) <|
      pss_cons (ps_set (i := 6) sc_ends_joined.nd rfl (.inl rfl) (pe_op op_rep (pe_lst (pa_cons pe_int pa_nil)) (pe_op op_add (pe_op op_mul pe_int (pv 2)) (pe_op op_mul pe_int (pv 3))))) <|
      pss_cons (ps_for PassesOwn.never rfl (pi_enumA (by rfl) T.n_enumerate (pa_cons (pv 0) pa_nil)) (pg_tup (by rfl) (pgs_cons (pg_name (i := 7) sc_ends_joined.nd rfl (.inl rfl)) (pgs_cons (pg_name (i := 8) sc_ends_joined.nd rfl (.inl rfl)) pgs_nil))) (pss_one (ps_asg (pe_ix ix_list (pv 4) (pv 8) (fun _ _ => rfl)) (pg_sub (pv 6) (pe_ix ix_list (pv 4) (pv 7) (fun _ _ => rfl)) set_list)))) <| pss_cons (ps_for PassesOwn.never rfl (pi_enumA (by rfl) T.n_enumerate (pa_cons (pv 1) pa_nil)) (pg_tup (by rfl) (pgs_cons (pg_name (i := 7) sc_ends_joined.nd rfl (.inl rfl)) (pgs_cons (pg_name (i := 8) sc_ends_joined.nd rfl (.inl rfl)) pgs_nil))) (pss_one (ps_asg (pe_ix ix_list (pv 5) (pv 8) (fun _ _ => rfl)) (pg_sub (pv 6) (pe_ix ix_list (pv 5) (pv 7) (fun _ _ => rfl)) set_list)))) <|
      pss_one (ps_ret (pe_callTy call_tuple_of (by rfl) T.n_tuple (by decide +kernel) (pa_cons (pv 6) pa_nil))), ?_⟩
    refine ⟨_, rfl, a, _, rfl, .inr ha, _, 2, rfl, rfl, ⟨by decide, by decide⟩, _, rfl, b, _, rfl, .inr hb, _, 2, rfl, rfl, ⟨by decide, by decide⟩, (by show 2 ≤ sizeLine; decide), fun tq ntq => ?_⟩
    have e1 : ((nv X1).length : Int) / 2 = (n : Nat) := by rw [nv_length, hx.len]; omega
    have e2 : ((nv Y1).length : Int) / 2 = (m : Nat) := by rw [nv_length, hy.len]; omega
    refine ⟨tq, _, rfl, .inl (.inl upd_same), rfl, _, _, rfl, _, _, rfl, rfl, ?_⟩
    refine st_eq (t := tSeq _ _) [some (.ref a), some (.ref b), some (.int n), some (.int m), none, none, none, none, none, none] ?_ (by show [some (V.ref a), some (V.ref b), some (V.int (((nv X1).length : Int) / 2)), some (V.int (((nv Y1).length : Int) / 2)), none, none, none, none, none, none] = _; rw [e1, e2])
    have s0 : Same H (upd H tq (.tup [.int (((nv X1).length : Int) / 2), .int (((nv Y1).length : Int) / 2)])) := same_new ntq
    revert s0; generalize upd H tq (.tup [.int (((nv X1).length : Int) / 2), .int (((nv Y1).length : Int) / 2)]) = H0; intro s0
    refine ⟨_, rfl, _, rfl, RgOk.of_le (by decide) (by omega) (by decide) (by omega), fun l1 nl1 => ?_⟩
    rw [rg_nv]
    have s1 : Same H0 (upd H0 l1 (.lst (nv (List.range n)))) := same_new nl1
    have el1 : upd H0 l1 (.lst (nv (List.range n))) l1 = some (.lst (nv (List.range n))) := upd_same
    revert s1 el1; generalize upd H0 l1 (.lst (nv (List.range n))) = H1; intro s1 el1
    refine ⟨_, rfl, _, rfl, by omega, by omega, fun Da nDa => ?_⟩
    rw [show ((n : Nat) : Int).toNat = n from rfl]
    refine lc_range (n := n) (fun i H' => Same H1 H' ∧ H' Da = some (.lst (nv (((List.range n).map (n + m + ·)).take i)))) ⟨same_new nDa, upd_same⟩ (fun i H' hi h => ?_) (fun H' h => ?_)
    · obtain ⟨sm, eD⟩ := h
      refine ⟨rfl, yes_if ⟨_, rfl, _, rfl, _, _, rfl, rfl, _, rfl, _, _, rfl, rfl, _, eD, ?_, fun y o hy => ?_, ?_⟩⟩
      · rw [nv_length]; exact small1000 (Nat.le_trans (List.length_take_le' _ _) (by rw [List.length_map, List.length_range]; omega))
      · rw [upd_ne (ne_of_none hy nDa)]; exact sm _ _ hy
      · rw [upd_same, ← sh_take n hi]; exact congrArg (fun z => some (HO.lst (_ ++ [V.int z]))) (by omega)
    obtain ⟨sCa, eDa⟩ := h
    rw [List.take_of_length_le (by rw [List.length_map, List.length_range]; exact Nat.le_refl _)] at eDa
    revert sCa eDa; generalize H' = Ha; intro sCa eDa
    refine ⟨l1, Da, _, _, rfl, rfl, (sCa _ _ el1), eDa, ?_, fun cA ncA => ?_⟩
    · rw [nv_length, nv_length]; simp only [List.length_map, List.length_range]; exact Nat.le_of_lt (small1000 (by omega))
    rw [nv_app]
    have sUA : Same Ha (upd Ha cA (.lst (nv (List.range n ++ (List.range n).map (n + m + ·))))) := same_new ncA
    have eUA : upd Ha cA (.lst (nv (List.range n ++ (List.range n).map (n + m + ·)))) cA = some (.lst (nv (List.range n ++ (List.range n).map (n + m + ·)))) := upd_same
    revert sUA eUA; generalize upd Ha cA (.lst (nv (List.range n ++ (List.range n).map (n + m + ·)))) = H2; intro sUA eUA
    refine st_set [some (.ref a), some (.ref b), some (.int n), some (.int m), some (.ref cA), none, none, none, none, none] ?_ rfl
    refine ⟨_, rfl, _, rfl, by omega, by omega, fun Db nDb => ?_⟩
    rw [show ((m : Nat) : Int).toNat = m from rfl]
    refine lc_range (n := m) (fun i H' => Same H2 H' ∧ H' Db = some (.lst (nv (((List.range m).map (n + ·)).take i)))) ⟨same_new nDb, upd_same⟩ (fun i H' hi h => ?_) (fun H' h => ?_)
    · obtain ⟨sm, eD⟩ := h
      refine ⟨rfl, yes_if ⟨_, rfl, _, rfl, _, _, rfl, rfl, _, eD, ?_, fun y o hy => ?_, ?_⟩⟩
      · rw [nv_length]; exact small1000 (Nat.le_trans (List.length_take_le' _ _) (by rw [List.length_map, List.length_range]; omega))
      · rw [upd_ne (ne_of_none hy nDb)]; exact sm _ _ hy
      · rw [upd_same, ← sh_take m hi]; exact congrArg (fun z => some (HO.lst (_ ++ [V.int z]))) (by omega)
    obtain ⟨sCb, eDb⟩ := h
    rw [List.take_of_length_le (by rw [List.length_map, List.length_range]; exact Nat.le_refl _)] at eDb
    revert sCb eDb; generalize H' = Hb; intro sCb eDb
    refine ⟨_, rfl, _, rfl, by omega, by omega, fun Dc nDc => ?_⟩
    rw [show ((m : Nat) : Int).toNat = m from rfl]
    refine lc_range (n := m) (fun i H' => Same Hb H' ∧ H' Dc = some (.lst (nv (((List.range m).map (2 * n + m + ·)).take i)))) ⟨same_new nDc, upd_same⟩ (fun i H' hi h => ?_) (fun H' h => ?_)
    · obtain ⟨sm, eD⟩ := h
      refine ⟨rfl, yes_if ⟨_, rfl, 2, _, rfl, rfl, .inl ⟨by decide, by decide⟩, _, rfl, _, _, rfl, rfl, _, rfl, _, _, rfl, rfl, _, eD, ?_, fun y o hy => ?_, ?_⟩⟩
      · rw [nv_length]; exact small1000 (Nat.le_trans (List.length_take_le' _ _) (by rw [List.length_map, List.length_range]; omega))
      · rw [upd_ne (ne_of_none hy nDc)]; exact sm _ _ hy
      · rw [upd_same, ← sh_take m hi]; exact congrArg (fun z => some (HO.lst (_ ++ [V.int z]))) (by omega)
    obtain ⟨sCc, eDc⟩ := h
    rw [List.take_of_length_le (by rw [List.length_map, List.length_range]; exact Nat.le_refl _)] at eDc
    revert sCc eDc; generalize H' = Hc; intro sCc eDc
    refine ⟨Db, Dc, _, _, rfl, rfl, (sCc _ _ eDb), eDc, ?_, fun cB ncB => ?_⟩
    · rw [nv_length, nv_length]; simp only [List.length_map, List.length_range]; exact Nat.le_of_lt (small1000 (by omega))
    rw [nv_app]
    have sUB : Same Hc (upd Hc cB (.lst (nv ((List.range m).map (n + ·) ++ (List.range m).map (2 * n + m + ·))))) := same_new ncB
    have eUB : upd Hc cB (.lst (nv ((List.range m).map (n + ·) ++ (List.range m).map (2 * n + m + ·)))) cB = some (.lst (nv ((List.range m).map (n + ·) ++ (List.range m).map (2 * n + m + ·)))) := upd_same
    revert sUB eUB; generalize upd Hc cB (.lst (nv ((List.range m).map (n + ·) ++ (List.range m).map (2 * n + m + ·)))) = H3; intro sUB eUB
    refine st_set [some (.ref a), some (.ref b), some (.int n), some (.int m), some (.ref cA), some (.ref cB), none, none, none, none] ?_ rfl
    have S3 : Same H H3 := s0.trans (s1.trans (sCa.trans (sUA.trans (sCb.trans (sCc.trans sUB)))))
    have eA3 : H3 cA = some (.lst (nv (sp1 n m))) := sUB _ _ (sCc _ _ (sCb _ _ eUA))
    have eB3 : H3 cB = some (.lst (nv (sp2 n m))) := eUB
    clear s0 s1 sCa sUA sCb sCc sUB eUA eUB
    refine ⟨by show 1 ≤ sizeLine; decide, fun e ne => ?_⟩
    have s4 : Same H3 (upd H3 e (.lst [.int 0])) := same_new ne
    refine ⟨_, rfl, 2, _, rfl, rfl, .inl ⟨by decide, by decide⟩, _, rfl, 2, _, rfl, rfl, .inl ⟨by decide, by decide⟩, _, _, rfl, rfl, e, _, [.int 0], rfl, rfl, upd_same, by omega, by omega, ?_, fun f nf => ?_⟩
    · show 1 * Int.toNat (2 * (n : Int) + 2 * (m : Int)) ≤ sizeLine
      exact Nat.le_of_lt (small1000 (by omega))
    have e0 : (List.replicate (2 * (n : Int) + 2 * (m : Int)).toNat [V.int 0]).flatten = nv (List.replicate (2 * (n + m)) 0) := by
      rw [rep_flat, show (2 * (n : Int) + 2 * (m : Int)).toNat = 2 * (n + m) by omega]
      unfold nv
      rw [List.map_replicate]; rfl
    have s5 := s4.trans (same_new (o := .lst (List.replicate (2 * (n : Int) + 2 * (m : Int)).toNat [V.int 0]).flatten) nf)
    have nf0 : H f = none := (S3.trans s4).free nf
    have ef5 : upd (upd H3 e (.lst [.int 0])) f (.lst (List.replicate (2 * (n : Int) + 2 * (m : Int)).toNat [V.int 0]).flatten) f = some (.lst (nv (List.replicate (2 * (n + m)) 0))) := by rw [upd_same, e0]
    have cAf : cA ≠ f := ne_of_none (s4 _ _ eA3) nf
    have cBf : cB ≠ f := ne_of_none (s4 _ _ eB3) nf
    revert s5 ef5; generalize upd (upd H3 e (.lst [.int 0])) f (.lst (List.replicate (2 * (n : Int) + 2 * (m : Int)).toNat [V.int 0]).flatten) = H4; intro s5 ef5
    refine st_set [some (.ref a), some (.ref b), some (.int n), some (.int m), some (.ref cA), some (.ref cB), some (.ref f), none, none, none] ?_ rfl
    have turn1 : ∀ (i : Nat) (x : V) (σ : L2.St) (H1 H2 : Hp), i < (nv X1).length → (Same H H1 ∧ ∃ (y7 y8 : Option V) (fs : List Nat), σ = [some (.ref a), some (.ref b), some (.int n), some (.int m), some (.ref cA), some (.ref cB), some (.ref f), y7, y8, none] ∧ H1 cA = some (.lst (nv (sp1 n m))) ∧ H1 cB = some (.lst (nv (sp2 n m))) ∧ H1 f = some (.lst (nv fs)) ∧ EJ n m X1 Y1 fs i 0) → YPair (fun i => some (.int (i : Nat))) (fun i => (nv X1)[i]?) i H1 x H2 →
        ∀ N : L2.St → Hp → Prop, (∀ σ' H', (Same H H' ∧ ∃ (y7 y8 : Option V) (fs : List Nat), σ' = [some (.ref a), some (.ref b), some (.int n), some (.int m), some (.ref cA), some (.ref cB), some (.ref f), y7, y8, none] ∧ H' cA = some (.lst (nv (sp1 n m))) ∧ H' cB = some (.lst (nv (sp2 n m))) ∧ H' f = some (.lst (nv fs)) ∧ EJ n m X1 Y1 fs (i + 1) 0) → N σ' H') →
        gTup K 2 (gCons (gName 7) (gCons (gName 8) gNil)) x σ H2 fun σ2 H2 => ∃ v1, σ2[4]? = some (some v1) ∧ ∃ v4, σ2[8]? = some (some v4) ∧ rIxL K v1 v4 H2 fun u H3 => ∃ v2, σ2[6]? = some (some v2) ∧ ∃ w1, σ2[4]? = some (some w1) ∧ ∃ v3, σ2[7]? = some (some v3) ∧ rIxL K w1 v3 H3 fun z H4 => rSetL v2 z u H4 fun H5 => N σ2 H5 := by
      intro i x σ H1 H2 hi hPv y N hN
      obtain ⟨sm, y7, y8, fs, rfl, eA, eB, ef, mi⟩ := hPv
      obtain ⟨t, v1, v2, rfl, nt, rfl, g1, g2⟩ := y
      have ev1 : v1 = .int (i : Nat) := (Option.some.inj g1).symm
      obtain ⟨z, ez, ev2⟩ := nv_get' g2
      subst ev1 ev2
      rw [nv_length, hx.len] at hi
      have hz : z < 2 * n := hx.lt z (List.mem_of_getElem? ez)
      have st : Same H1 (upd H1 t (.tup [.int (i : Nat), .int z])) := same_new nt
      have g3 : atI (nv (sp1 n m)) ((z : Nat) : Int) = some (.int (p1 n m z : Nat)) := by rw [← sp1_get hz]; exact nv_at (getD_some (by rw [sp1_len]; exact hz))
      have g4 : atI (nv (sp1 n m)) ((i : Nat) : Int) = some (.int (p1 n m i : Nat)) := by rw [← sp1_get hi]; exact nv_at (getD_some (by rw [sp1_len]; exact hi))
      have cf : ∀ {c : Addr} {xs : List Nat}, c ≠ f → H1 c = some (.lst (nv xs)) → upd (upd H1 t (.tup [.int (i : Nat), .int z])) f (.lst ((nv fs).set (p1 n m i) (.int (p1 n m z : Nat)))) c = some (.lst (nv xs)) := fun hc e => by rw [upd_ne hc]; exact st _ _ e
      refine ⟨t, _, rfl, .inl (.inl upd_same), rfl, _, _, rfl, _, _, rfl, rfl, _, rfl, _, rfl, cA, _, _, _, rfl, rfl, .inl (.inl (st _ _ eA)), g3, _, rfl, _, rfl, _, rfl, cA, _, _, _, rfl, rfl, .inl (.inl (st _ _ eA)), g4, f, _, _, p1 n m i, rfl, rfl, st _ _ ef, ixN_nat (by rw [nv_length, mi.1]; exact p1_lt hi), hN _ _ ⟨fun y o hb => ?_, _, _, fs.set (p1 n m i) (p1 n m z), rfl, cf cAf eA, cf cBf eB, ?_, ?_⟩⟩
      · rw [upd_ne (ne_of_none hb nf0)]; exact st _ _ (sm _ _ hb)
      · rw [upd_same, nv_set]
      · have := mi.one hi
        rw [show X1.getD i 0 = z from getD_of ez] at this
        exact this
    have turn2 : ∀ (i : Nat) (x : V) (σ : L2.St) (H1 H2 : Hp), i < (nv Y1).length → (Same H H1 ∧ ∃ (y7 y8 : Option V) (fs : List Nat), σ = [some (.ref a), some (.ref b), some (.int n), some (.int m), some (.ref cA), some (.ref cB), some (.ref f), y7, y8, none] ∧ H1 cA = some (.lst (nv (sp1 n m))) ∧ H1 cB = some (.lst (nv (sp2 n m))) ∧ H1 f = some (.lst (nv fs)) ∧ EJ n m X1 Y1 fs (2 * n) i) → YPair (fun i => some (.int (i : Nat))) (fun i => (nv Y1)[i]?) i H1 x H2 →
        ∀ N : L2.St → Hp → Prop, (∀ σ' H', (Same H H' ∧ ∃ (y7 y8 : Option V) (fs : List Nat), σ' = [some (.ref a), some (.ref b), some (.int n), some (.int m), some (.ref cA), some (.ref cB), some (.ref f), y7, y8, none] ∧ H' cA = some (.lst (nv (sp1 n m))) ∧ H' cB = some (.lst (nv (sp2 n m))) ∧ H' f = some (.lst (nv fs)) ∧ EJ n m X1 Y1 fs (2 * n) (i + 1)) → N σ' H') →
        gTup K 2 (gCons (gName 7) (gCons (gName 8) gNil)) x σ H2 fun σ2 H2 => ∃ v1, σ2[5]? = some (some v1) ∧ ∃ v4, σ2[8]? = some (some v4) ∧ rIxL K v1 v4 H2 fun u H3 => ∃ v2, σ2[6]? = some (some v2) ∧ ∃ w1, σ2[5]? = some (some w1) ∧ ∃ v3, σ2[7]? = some (some v3) ∧ rIxL K w1 v3 H3 fun z H4 => rSetL v2 z u H4 fun H5 => N σ2 H5 := by
      intro i x σ H1 H2 hi hPv y N hN
      obtain ⟨sm, y7, y8, fs, rfl, eA, eB, ef, mi⟩ := hPv
      obtain ⟨t, v1, v2, rfl, nt, rfl, g1, g2⟩ := y
      have ev1 : v1 = .int (i : Nat) := (Option.some.inj g1).symm
      obtain ⟨z, ez, ev2⟩ := nv_get' g2
      subst ev1 ev2
      rw [nv_length, hy.len] at hi
      have hz : z < 2 * m := hy.lt z (List.mem_of_getElem? ez)
      have st : Same H1 (upd H1 t (.tup [.int (i : Nat), .int z])) := same_new nt
      have g3 : atI (nv (sp2 n m)) ((z : Nat) : Int) = some (.int (p2 n m z : Nat)) := by rw [← sp2_get hz]; exact nv_at (getD_some (by rw [sp2_len]; exact hz))
      have g4 : atI (nv (sp2 n m)) ((i : Nat) : Int) = some (.int (p2 n m i : Nat)) := by rw [← sp2_get hi]; exact nv_at (getD_some (by rw [sp2_len]; exact hi))
      have cf : ∀ {c : Addr} {xs : List Nat}, c ≠ f → H1 c = some (.lst (nv xs)) → upd (upd H1 t (.tup [.int (i : Nat), .int z])) f (.lst ((nv fs).set (p2 n m i) (.int (p2 n m z : Nat)))) c = some (.lst (nv xs)) := fun hc e => by rw [upd_ne hc]; exact st _ _ e
      refine ⟨t, _, rfl, .inl (.inl upd_same), rfl, _, _, rfl, _, _, rfl, rfl, _, rfl, _, rfl, cB, _, _, _, rfl, rfl, .inl (.inl (st _ _ eB)), g3, _, rfl, _, rfl, _, rfl, cB, _, _, _, rfl, rfl, .inl (.inl (st _ _ eB)), g4, f, _, _, p2 n m i, rfl, rfl, st _ _ ef, ixN_nat (by rw [nv_length, mi.1]; exact p2_lt hi), hN _ _ ⟨fun y o hb => ?_, _, _, fs.set (p2 n m i) (p2 n m z), rfl, cf cAf eA, cf cBf eB, ?_, ?_⟩⟩
      · rw [upd_ne (ne_of_none hb nf0)]; exact st _ _ (sm _ _ hb)
      · rw [upd_same, nv_set]
      · have := mi.two hi
        rw [show Y1.getD i 0 = z from getD_of ez] at this
        exact this
    refine ⟨.ref a, rfl, a, nv X1, rfl, .inr ⟨same_tup (S3.trans s5) ha, ?_⟩⟩
    refine for_it walk_enumT (fun i σ H' => Same H H' ∧ ∃ (y7 y8 : Option V) (fs : List Nat), σ = [some (.ref a), some (.ref b), some (.int n), some (.int m), some (.ref cA), some (.ref cB), some (.ref f), y7, y8, none] ∧ H' cA = some (.lst (nv (sp1 n m))) ∧ H' cB = some (.lst (nv (sp2 n m))) ∧ H' f = some (.lst (nv fs)) ∧ EJ n m X1 Y1 fs i 0) ⟨S3.trans s5, none, none, List.replicate (2 * (n + m)) 0, rfl, s5 _ _ eA3, s5 _ _ eB3, ef5, by rw [List.length_replicate], fun _ h => absurd h (Nat.not_lt_zero _), fun _ h => absurd h (Nat.not_lt_zero _)⟩ (fun i σ H' _ h => same_tup h.1 ha) (fun i x σ H1 H2 hi hP' y => turn1 i x σ H1 H2 hi hP' y _ fun _ _ z => z) (fun σ H6 h => ?_)
    obtain ⟨sm6, y7, y8, fs, rfl, eA6, eB6, ef6, ej⟩ := h
    rw [nv_length, hx.len] at ej
    refine ⟨.ref b, rfl, b, nv Y1, rfl, .inr ⟨same_tup sm6 hb, ?_⟩⟩
    refine for_it walk_enumT (fun i σ H' => Same H H' ∧ ∃ (y7 y8 : Option V) (fs : List Nat), σ = [some (.ref a), some (.ref b), some (.int n), some (.int m), some (.ref cA), some (.ref cB), some (.ref f), y7, y8, none] ∧ H' cA = some (.lst (nv (sp1 n m))) ∧ H' cB = some (.lst (nv (sp2 n m))) ∧ H' f = some (.lst (nv fs)) ∧ EJ n m X1 Y1 fs (2 * n) i) ⟨sm6, _, _, fs, rfl, eA6, eB6, ef6, ej⟩ (fun i σ H' _ h => same_tup h.1 hb) (fun i x σ H1 H2 hi hP' y => turn2 i x σ H1 H2 hi hP' y _ fun _ _ z => z) (fun σ H7 h => ?_)
    obtain ⟨sm7, y7, y8, gs, rfl, eA7, eB7, ef7, ej7⟩ := h
    rw [nv_length, hy.len] at ej7
    have hM := sbs_to hx hy ej7.1 ⟨ej7.2.1, ej7.2.2⟩
    exact ⟨_, rfl, f, _, rfl, .inl ⟨.inl (.inl ef7), fun t nt => q _ t gs hM (sm7.trans (same_new nt)) (sm7.free nt) upd_same⟩⟩
end
end Pc
namespace Pc
open PySem PySem.Spec PyProof.Rows L2 RZ
section
variable {P : Program} {w : World} {K : PySem.W.Frag} {mg : Str → Option Value} {base : Heap}
/-! ### what is refused -/
def spRef67 (K : PySem.W.Frag) : Sp := fun vs H Q _ => ∃ (p : Addr) (ps : List Nat) (n : Nat), Sq K H p (nv ps) ∧ ps.length = n ∧
  ((∃ u : Int, vs = [.int 0, .ref p, .int u] ∧ ¬ (0 ≤ u ∧ u < n) ∧ ∀ H', Same H H' → Q (.int u) H') ∨ (∃ u : Int, vs = [.int 0, .ref p, .int u] ∧ 0 ≤ u ∧ u < n ∧ n = 2 ∧ ∀ H', Same H H' → Q (.str "last") H') ∨
   (∃ (wd : Addr) (us : List V) (qs : List (Int × Int)) (x : Int), vs = [.int 1, .ref p, .ref wd] ∧ Sq K H wd us ∧ ItemsZ K H us qs ∧ badW n qs = some x ∧ ∀ H', Same H H' → Q (.int x) H'))
theorem ok_refused (T : Env K mg) : FnOk P w K mg base CX0 7 T.f_refused T.d_refused ["_law_kind", "_law_start", "_law_thing"] (spRef67 K) := by
  have GO : FnOk P w K mg base (L2.CX P w) 4 T.f_p_without T.d_p_without ["pairing", "person"] (spWithoutX K T.C_NoPerson T.C_Last) := okx_p_without T
  have GW : FnOk P w K mg base (L2.CX P w) 6 T.f_p_word_renumbered T.d_p_word_renumbered ["word", "numbers"] (spWRenX K T.C_NoPerson) := okx_p_word_renumbered T
  refine T.F_refused.ok sc_refused (fun vs H Q E h => ?_) (fun cdv A outer s H vs Q E hr h => ?_)
  · obtain ⟨p, ps, n, _, _, ⟨u, rfl, _⟩ | ⟨u, rfl, _⟩ | ⟨wd, us, qs, x, rfl, _⟩⟩ := h <;> rfl
  · obtain ⟨p, ps, n, hp, hl, h⟩ := h
    have h4 := hr.mono (show 4 ≤ 6 by decide)
    refine ⟨_, pss_cons (ps_set (i := 3) sc_refused.nd rfl (.inl rfl) pe_non) <|
      pss_cons (ps_try_kept (i := 4) (cs := [.ref T.C_Last, .ref T.C_NoPerson, .ref T.C_NoWord]) rfl rfl rfl sc_refused.nd rfl rfl (.cons ⟨_, _, rfl, by rfl, by decide, .inl T.gC_Last⟩ (.cons ⟨_, _, rfl, by rfl, by decide, .inl T.gC_NoPerson⟩ (.cons ⟨_, _, rfl, by rfl, by decide, .inl T.gC_NoWord⟩ .nil))) (by show 3 ≤ 1000; decide)
        (fun W pn xe tk _ => pss_one (ps_if (pt_cmpR op_eq (pv 0) pe_int (nomark _)) (pss_one (ps_expr (pe_callS GO h4 (by rfl) T.g_p_without T.F_p_without.kp T.b_p_without (fun σ => passAt tk σ) (pa_cons (pv 1) (pa_cons (pv 2) pa_nil)))))
          (pss_one (ps_expr (pe_callS GW hr (by rfl) T.g_p_word_renumbered T.F_p_word_renumbered.kp T.b_p_word_renumbered (fun σ => passAt tk σ) (pa_cons (pv 2) (pa_cons (pv 1) pa_nil)))))))
        (fun a oe pn => pss_one (ps_set (i := 3) sc_refused.nd rfl (.inl rfl) (pv 4)))) <|
      pss_cons (ps_if (pt_val (pe_callB call_isk (by rfl) T.n_isinstance (by decide +kernel) (pa_cons (pv 3) (pa_cons (pe_glob (v := .ref T.C_Last) (by rfl) T.gC_Last rfl) pa_nil)))) (pss_one (ps_ret (pe_ifExp (PW.pt (pw_and (pt_val (pe_callB call_isk (by rfl) T.n_isinstance (by decide +kernel) (pa_cons (pv 3) (pa_cons (pe_bltn (v := .ty "RuntimeError") (by rfl) T.n_RuntimeError (by decide +kernel) rfl) pa_nil)))) (pw_and1 (pt_not (pt_val (pe_callB call_isk (by rfl) T.n_isinstance (by decide +kernel) (pa_cons (pv 3) (pa_cons (pe_glob (v := .ref T.C_NoPerson) (by rfl) T.gC_NoPerson rfl) pa_nil)))))))) pe_str pe_non))) pss_nil) <|
      pss_one (ps_ret (pe_ifExp (PW.pt (pw_and (pt_val (pe_callB call_isk (by rfl) T.n_isinstance (by decide +kernel) (pa_cons (pv 3) (pa_cons (pe_glob (v := .ref T.C_NoPerson) (by rfl) T.gC_NoPerson rfl) pa_nil)))) (pw_and1 (pt_val (pe_callB call_isk (by rfl) T.n_isinstance (by decide +kernel) (pa_cons (pv 3) (pa_cons (pe_bltn (v := .ty "LookupError") (by rfl) T.n_LookupError (by decide +kernel) rfl) pa_nil))))))) (pe_kf (pv 3)) pe_non)), ?_⟩
    rcases h with ⟨u, rfl, hu, q⟩ | ⟨u, rfl, hu0, hu1, h2, q⟩ | ⟨wd, us, qs, x, rfl, hw, hI, hb, q⟩
    · refine st_set [some (.int 0), some (.ref p), some (.int u), some .non, none] ?_ rfl
      refine ⟨_, rfl, rfl, _, rfl, iteY rfl ?_⟩
      refine ⟨_, rfl, _, rfl, p, ps, n, u, rfl, hp, hl, .inl ⟨hu, kept1 (hits_of [false, true, false] rfl (.cons T.ex_NoPerson_Last (.cons T.ee_NoPerson (.cons T.ex_NoPerson_NoWord .nil)))) fun d H2 z s2 nd ed nx ne => ⟨_, rfl, ?_⟩⟩⟩
      have hK : Kept (upd H2 z (exk z (.ref T.C_NoPerson) (some d))) z T.C_NoPerson (some d) := .mk1 ed nx
      have s3 : Same H (upd H2 z (exk z (.ref T.C_NoPerson) (some d))) := s2.trans (same_new nx)
      replace ed := same_new (o := exk z (.ref T.C_NoPerson) (some d)) nx _ _ ed
      refine st_set [some (.int 0), some (.ref p), some (.int u), some (.ref z), some (.ref z)] ?_ rfl
      refine st_kept [some (.int 0), some (.ref p), some (.int u), some (.ref z), none] ?_ rfl
      refine ⟨_, rfl, z, _, _, _, _, _, rfl, hK, T.kpt_NoPerson, .own _, T.ki_NoPerson_Last, _, rfl, iteX rfl ?_⟩
      refine ⟨_, rfl, z, _, _, _, _, _, rfl, hK, T.kpt_NoPerson, .own _, T.kk_NoPerson, _, rfl, iteY rfl ?_⟩
      refine ⟨_, rfl, z, _, _, _, _, _, rfl, hK, T.kpt_NoPerson, .ty _, T.kb_NoPerson_LookupError, _, rfl, iteY rfl ?_⟩
      exact ⟨_, rfl, z, _, _, _, _, rfl, hK.1, T.kpt_NoPerson, T.no_NoPerson, ed, rfl, q _ s3⟩
    · refine st_set [some (.int 0), some (.ref p), some (.int u), some .non, none] ?_ rfl
      refine ⟨_, rfl, rfl, _, rfl, iteY rfl ?_⟩
      refine ⟨_, rfl, _, rfl, p, ps, n, u, rfl, hp, hl, .inr ⟨hu0, hu1, h2, kept0 (hits_of [true, false, false] rfl (.cons T.ee_Last (.cons T.ex_Last_NoPerson (.cons T.ex_Last_NoWord .nil)))) fun H2 z s2 nx => ⟨_, rfl, ?_⟩⟩⟩
      have hK : Kept (upd H2 z (exk z (.ref T.C_Last) none)) z T.C_Last none := .mk0
      have s3 : Same H (upd H2 z (exk z (.ref T.C_Last) none)) := s2.trans (same_new nx)
      refine st_set [some (.int 0), some (.ref p), some (.int u), some (.ref z), some (.ref z)] ?_ rfl
      refine st_kept0 [some (.int 0), some (.ref p), some (.int u), some (.ref z), none] ?_ rfl
      refine ⟨_, rfl, z, _, _, _, _, _, rfl, hK, T.kpt_Last, .own _, T.kk_Last, _, rfl, iteY rfl ?_⟩
      refine ⟨_, rfl, z, _, _, _, _, _, rfl, hK, T.kpt_Last, .ty _, T.kb_Last_RuntimeError, _, rfl, iteY rfl ?_⟩
      refine ⟨_, rfl, z, _, _, _, _, _, rfl, hK, T.kpt_Last, .own _, T.ki_Last_NoPerson, _, rfl, ?_⟩
      exact iteY rfl (q _ s3)
    · refine st_set [some (.int 1), some (.ref p), some (.ref wd), some .non, none] ?_ rfl
      refine ⟨_, rfl, rfl, _, rfl, iteX rfl ?_⟩
      refine ⟨_, rfl, _, rfl, wd, p, us, qs, ps, n, x, rfl, hw, hI, hp, hl, hb, kept1 (hits_of [false, true, false] rfl (.cons T.ex_NoPerson_Last (.cons T.ee_NoPerson (.cons T.ex_NoPerson_NoWord .nil)))) fun d H2 z s2 nd ed nx ne => ⟨_, rfl, ?_⟩⟩
      have hK : Kept (upd H2 z (exk z (.ref T.C_NoPerson) (some d))) z T.C_NoPerson (some d) := .mk1 ed nx
      have s3 : Same H (upd H2 z (exk z (.ref T.C_NoPerson) (some d))) := s2.trans (same_new nx)
      replace ed := same_new (o := exk z (.ref T.C_NoPerson) (some d)) nx _ _ ed
      refine st_set [some (.int 1), some (.ref p), some (.ref wd), some (.ref z), some (.ref z)] ?_ rfl
      refine st_kept [some (.int 1), some (.ref p), some (.ref wd), some (.ref z), none] ?_ rfl
      refine ⟨_, rfl, z, _, _, _, _, _, rfl, hK, T.kpt_NoPerson, .own _, T.ki_NoPerson_Last, _, rfl, iteX rfl ?_⟩
      refine ⟨_, rfl, z, _, _, _, _, _, rfl, hK, T.kpt_NoPerson, .own _, T.kk_NoPerson, _, rfl, iteY rfl ?_⟩
      refine ⟨_, rfl, z, _, _, _, _, _, rfl, hK, T.kpt_NoPerson, .ty _, T.kb_NoPerson_LookupError, _, rfl, iteY rfl ?_⟩
      exact ⟨_, rfl, z, _, _, _, _, rfl, hK.1, T.kpt_NoPerson, T.no_NoPerson, ed, rfl, q _ s3⟩
end
end Pc
namespace Pc
open PySem PySem.Spec PyProof.Rows L2 RZ
section
variable {P : Program} {w : World} {K : PySem.W.Frag} {mg : Str → Option Value} {base : Heap}
theorem wot_fw (ps : List Nat) {n u : Nat} (hn : n ≤ 100) : Fw (wot ps n u) := by
  have h1 := lft_le ps n u
  have hx : ∀ (l : List Nat) (y : Nat), ixo l y ≤ l.length := fun l y => by
    induction l with
    | nil => exact Nat.le_refl _
    | cons x l ih => unfold ixo; split <;> simp; omega
  refine ⟨by unfold wot; rw [List.length_map]; omega, fun i hi => ?_⟩
  obtain ⟨x, _, rfl⟩ := List.mem_map.mp hi
  have := hx (lft ps n u) (ps.getD x 0)
  exact Nat.lt_of_le_of_lt (show _ ≤ 100 by omega) (by decide)
def spPeopleR : Sp := fun vs H Q _ => ∃ (b a : Addr) (ps : List Nat) (n N : Nat), vs = [.ref b, .ref a] ∧ Box (n + 5) H b ∧ H a = some (.tup (nv ps)) ∧ IsPair N ps ∧ N ≤ 20 ∧ 2 ≤ N ∧ ∀ H', Keep b H H' → Box n H' b → Q (.bl true) H'
theorem kw_p_without_10 (T : Env K mg) : ∀ (s : Shared) (ws : List Value), ws.length = (["person", "pairing"] : List Str).length → BindsTo s T.d_p_without ⟨[], (["person", "pairing"] : List Str).zip ws⟩ ((["pairing", "person"] : List Str).zip (pm10 ws)) :=
  kw_to T.F_p_without fun _ _ _ _ _ _ ws hl => match ws, hl with | [_, _], _ => rfl
theorem ok_people_right (T : Env K mg) : FnOk P w K mg base CX0 8 T.f_people_right T.d_people_right ["_law_source", "_law_start"] spPeopleR := by
  have GT : FnOk P w K mg base CX0 1 T.f_draw T.d_draw ["_law_source", "_law_bound"] spTake := ok_take T
  have GE : FnOk P w K mg base CX0 5 T.f_same T.d_same ["_law_found", "_law_due"] (spSame K 5) := (ok_same T 5).mono (by decide)
  have GF : FnOk P w K mg base CX0 7 T.f_refused T.d_refused ["_law_kind", "_law_start", "_law_thing"] (spRef67 K) := ok_refused T
  have Gw : FnOk P w K mg base CX0 4 T.f_p_without T.d_p_without ["pairing", "person"] (spWithout K) := ok_p_without T
  refine T.F_people_right.ok sc_people_right (fun vs H Q E h => ?_) (fun cdv A outer s H vs Q E hr h => ?_)
  · obtain ⟨b, a, ps, n, N, rfl, _⟩ := h
    rfl
  · obtain ⟨b, a, ps, n, N, rfl, hB, e_a, hp, hn, hn2, q⟩ := h
    have h1 := hr.mono (show 1 ≤ 7 by decide)
    have h2 := hr.mono (show 2 ≤ 7 by decide)
    have h3 := hr.mono (show 3 ≤ 7 by decide)
    have h4 := hr.mono (show 4 ≤ 7 by decide)
    have h5 := hr.mono (show 5 ≤ 7 by decide)
    have h6 := hr.mono (show 6 ≤ 7 by decide)
    have kH : Keep b H H := Keep.refl _ _
    refine ⟨_, pss_cons (ps_set (i := 2) sc_people_right.nd rfl (.inl rfl) (pe_callB call_len_seq (by rfl) T.n_len PySem.boot_len (pa_cons (pv 1) pa_nil))) <|
      pss_cons (ps_for PassesOwn.never rfl (pi_tup (pe_tup (pa_cons (pe_un un_neg pe_int) (pa_cons (pv 2) (pa_cons (pe_op op_add (pv 2) pe_int) (pa_cons (pe_op op_pow pe_int pe_int) pa_nil)))))) (pg_name (i := 3) sc_people_right.nd rfl (.inl rfl)) (pss_one (ps_if (pt_not (pt_val (pe_call GE h5 (by rfl) T.g_same T.F_same.kp T.b_same .nil pass0 (pa_cons (pe_call GF hr (by rfl) T.g_refused T.F_refused.kp T.b_refused .nil pass0 (pa_cons pe_int (pa_cons (pv 1) (pa_cons (pv 3) pa_nil)))) (pa_cons (pv 3) pa_nil))))) (pss_one (ps_ret pe_bl)) pss_nil))) <|
      pss_cons (ps_set (i := 4) sc_people_right.nd rfl (.inr rfl) (pe_call GT h1 (by rfl) T.g_draw T.F_draw.kp T.b_draw .nil pass0 (pa_cons (pv 0) (pa_cons (pv 2) pa_nil)))) <|
      pss_cons (ps_if (pt_cmpR op_eq (pv 2) pe_int (nomark _)) (pss_one (ps_ret (pe_call GE h5 (by rfl) T.g_same T.F_same.kp T.b_same .nil pass0 (pa_cons (pe_call GF hr (by rfl) T.g_refused T.F_refused.kp T.b_refused .nil pass0 (pa_cons pe_int (pa_cons (pv 1) (pa_cons (pv 4) pa_nil)))) (pa_cons pe_str pa_nil))))) pss_nil) <|
      pss_cons (ps_set (i := 5) sc_people_right.nd rfl (.inr rfl) (pe_lc (own := [("_law_who", 7)]) (g := gName 7) (tt := tTest (tOp (rIn K true) (tVar 7) (tTup (tCons (tVar 4) (tCons (tOp (rIxT K) (tVar 1) (tVar 4)) tNil))))) (te := tVar 7) (by rfl) sc_people_right.nd (pi_range1 (by rfl) T.n_range (pa_cons (pv 2) pa_nil)) (blkOk_by (N := N_people_right) (sc := defScope s_people_right) (by decide +kernel)) (fun _ _ _ _ _ => pg_name (i := 7) sc_people_right.nd rfl (.inl rfl)) (fun _ _ _ _ _ => pts_one (pt_cmpR op_notIn_seq (pv 7) (pe_tup (pa_cons (pv 4) (pa_cons (pe_ix ix_tup (pv 1) (pv 4) (fun _ _ => rfl)) pa_nil))) (by rfl))) (fun _ _ _ _ _ => pv 7))) <|
      pss_cons (ps_set (i := 6) sc_people_right.nd rfl (.inl rfl) (pe_callTy call_tuple_of (by rfl) T.n_tuple (by decide +kernel) (pa_cons (pe_lc (own := [("_law_who", 7)]) (g := gName 7) (tt := tYes) (te := tBM K "list" (rIndex K) (tVar 5) (tCons (tOp (rIxT K) (tVar 1) (tVar 7)) tNil)) (by rfl) sc_people_right.nd (pi_list (pv 5)) (blkOk_by (N := N_people_right) (sc := defScope s_people_right) (by decide +kernel)) (fun _ _ _ _ _ => pg_name (i := 7) sc_people_right.nd rfl (.inl rfl)) (fun _ _ _ _ _ => pts_nil) (fun _ _ _ _ _ => pe_bm PySem.F.plainAttrs_list PySem.F.slot_list_index PySem.F.type_list_index mt_index (pv 5) (pa_cons (pe_ix ix_tup (pv 1) (pv 7) (fun _ _ => rfl)) pa_nil))) pa_nil))) <|
      pss_one (ps_ret (pe_call GE h5 (by rfl) T.g_same T.F_same.kp T.b_same .nil pass0 (pa_cons (pe_lst (pa_cons (pe_call Gw h4 (by rfl) T.g_p_without T.F_p_without.kp T.b_p_without .nil pass0 (pa_cons (pv 1) (pa_cons (pv 4) pa_nil))) (pa_cons (pe_kw (gV := pm10) Gw h4 (by rfl) T.g_p_without T.F_p_without.kp (kw_p_without_10 T) (rel_pm10) pass0 (pk_cons (pv 4) (pk_cons (pe_callTy call_list_of (by rfl) T.n_list (by decide +kernel) (pa_cons (pv 1) pa_nil)) pk_nil))) pa_nil))) (pa_cons (pe_lst (pa_cons (pv 6) (pa_cons (pv 6) pa_nil))) pa_nil)))), ?_⟩
    refine ⟨_, rfl, a, _, rfl, .inr (.inl (.inl e_a)), ?_⟩
    rw [show ((nv ps).length : Int) = (N : Nat) by rw [nv_length, hp.len]]
    refine st_set [some (.ref b), some (.ref a), some (.int (N : Nat)), none, none, none, none, none] ?_ rfl
    refine ⟨1, rfl, _, rfl, _, rfl, _, _, rfl, rfl, 10, 9, rfl, rfl, ⟨by decide, by decide, by decide⟩, (by show 4 ≤ sizeLine; decide), fun tq ntq => ?_⟩
    have s1 : Same H (upd H tq (.tup [.int ((-1)), .int ((N : Int)), .int (((N : Int) + 3)), .int (((10 : Int) ^ Int.toNat 9))])) := same_new ntq
    have e_tq : upd H tq (.tup [.int ((-1)), .int ((N : Int)), .int (((N : Int) + 3)), .int (((10 : Int) ^ Int.toNat 9))]) tq = some (.tup [.int ((-1)), .int ((N : Int)), .int (((N : Int) + 3)), .int (((10 : Int) ^ Int.toNat 9))]) := upd_same
    revert s1 e_tq; generalize upd H tq (.tup [.int ((-1)), .int ((N : Int)), .int (((N : Int) + 3)), .int (((10 : Int) ^ Int.toNat 9))]) = H2; intro s1 e_tq
    replace e_a := s1 _ _ e_a
    replace hB := hB.same s1
    replace kH := kH.trans (Keep.of_same s1)
    refine ⟨tq, rfl, ⟨_, .inl (.inl e_tq)⟩, ?_⟩
    refine for_tup (xs := [V.int (-1), V.int (N : Int), V.int ((N : Int) + 3), V.int ((10 : Int) ^ Int.toNat 9)]) (fun i σ H' => Keep b H H' ∧ Box (n + 5) H' b ∧ H' a = some (.tup (nv ps)) ∧ H' tq = some (.tup [.int ((-1)), .int ((N : Int)), .int (((N : Int) + 3)), .int (((10 : Int) ^ Int.toNat 9))]) ∧ ∃ y_odd : Option V, σ = [some (.ref b), some (.ref a), some (.int (N : Nat)), y_odd, none, none, none, none]) ⟨kH, hB, e_a, e_tq, _, rfl⟩ (fun i σ H' _ h => .inl (.inl h.2.2.2.1)) (fun i x σ Hi hx hPv => ?_) (fun σ Hi hPv => ?_)
    · clear kH hB e_a e_tq
      obtain ⟨kH, hB, e_a, e_tq, y_odd, rfl⟩ := hPv
      obtain ⟨u, rfl, hu⟩ : ∃ u : Int, x = .int u ∧ ¬ (0 ≤ u ∧ u < (N : Nat)) := by
        have hj : i < 4 := get_lt hx
        rcases (show i = 0 ∨ i = 1 ∨ i = 2 ∨ i = 3 by omega) with z | z | z | z
        · subst z; exact ⟨_, (Option.some.inj hx).symm, by omega⟩
        · subst z; exact ⟨_, (Option.some.inj hx).symm, by omega⟩
        · subst z; exact ⟨_, (Option.some.inj hx).symm, by omega⟩
        · subst z; exact ⟨(1000000000 : Int), (Option.some.inj hx).symm, by omega⟩
      refine st_set [some (.ref b), some (.ref a), some (.int (N : Nat)), some (.int (u)), none, none, none, none] ?_ rfl
      refine ⟨_, rfl, _, rfl, a, ps, N, .inr (.inl (.inl e_a)), hp.len, .inl ⟨u, rfl, hu, fun H3 s4 => ?_⟩⟩
      replace e_a := s4 _ _ e_a
      replace e_tq := s4 _ _ e_tq
      replace hB := hB.same s4
      replace kH := kH.trans (Keep.of_same s4)
      refine ⟨_, rfl, _, _, _, rfl, .int _, .int _, (by show 0 < 5; decide), trivial, fun H5 s6 => ⟨true, rfl, iteN ?_⟩⟩
      replace e_a := s6 _ _ e_a
      replace e_tq := s6 _ _ e_tq
      replace hB := hB.same s6
      replace kH := kH.trans (Keep.of_same s6)
      exact ⟨kH, hB, e_a, e_tq, _, rfl⟩
    clear kH hB e_a e_tq
    obtain ⟨kH, hB, e_a, e_tq, y_odd, rfl⟩ := hPv
    refine ⟨_, rfl, _, rfl, b, n + 4, (N : Int), rfl, hB, by omega, by omega, fun rs Hs rs0 rs1 hBs ks => ?_⟩
    obtain ⟨y_hy7, hy7⟩ := hB.lst
    replace e_a := ks.tup hy7 e_a
    clear hB
    have hB := hBs
    replace kH := kH.trans ks
    obtain ⟨U, rfl⟩ : ∃ U : Nat, rs = (U : Int) := ⟨rs.toNat, by omega⟩
    refine st_set [some (.ref b), some (.ref a), some (.int (N : Nat)), y_odd, some (.int (U : Nat)), none, none, none] ?_ rfl
    refine ⟨_, rfl, rfl, _, rfl, ?_⟩
    by_cases c2 : N = 2
    · rw [show decide (V.int (N : Int) = V.int 2) = true by rw [c2]; rfl]
      refine iteT ⟨_, rfl, _, rfl, a, ps, N, .inr (.inl (.inl e_a)), hp.len, .inr (.inl ⟨(U : Int), rfl, by omega, by omega, c2, fun H8 s9 => ?_⟩)⟩
      replace e_a := s9 _ _ e_a
      replace hB := hB.same s9
      replace kH := kH.trans (Keep.of_same s9)
      refine ⟨_, _, _, rfl, .str _, .str _, by decide, trivial, fun H10 s11 => ?_⟩
      replace e_a := s11 _ _ e_a
      replace hB := hB.same s11
      replace kH := kH.trans (Keep.of_same s11)
      exact q _ kH (hB.mono (by omega))
    rw [show decide (V.int (N : Int) = V.int 2) = false from decide_eq_false fun z => c2 (by have := V.int.inj z; omega)]
    refine iteF ?_
    have gu : atI (nv ps) (U : Int) = some (.int (ps.getD U 0 : Nat)) := nv_at (getD_some (by rw [hp.len]; omega))
    refine ⟨_, rfl, _, rfl, by omega, by omega, fun D nD => ?_⟩
    rw [show ((N : Nat) : Int).toNat = N from rfl]
    refine lc_range (n := N) (fun i H' => Same Hs H' ∧ H' D = some (.lst (nv ((List.range i).filter fun x => decide (x ≠ U ∧ x ≠ ps.getD U 0))))) ⟨same_new nD, upd_same⟩ (fun i H' hi h => ?_) (fun H' h => ?_)
    · obtain ⟨sm, eD⟩ := h
      have ei : (0 : Int) + (i : Nat) = (i : Nat) := Int.zero_add _
      refine ⟨rfl, _, rfl, _, rfl, _, rfl, _, rfl, a, _, _, _, rfl, rfl, .inl (.inl (sm _ _ e_a)), gu, by show 2 ≤ sizeLine; decide, fun tz ntz => ?_⟩
      have s2 : Same H' (upd H' tz (.tup [.int (U : Nat), .int (ps.getD U 0 : Nat)])) := same_new ntz
      have ez : upd H' tz (.tup [.int (U : Nat), .int (ps.getD U 0 : Nat)]) tz = some (.tup (nv [U, ps.getD U 0])) := upd_same
      revert s2 ez; generalize upd H' tz (.tup [.int (U : Nat), .int (ps.getD U 0 : Nat)]) = H2; intro s2 ez
      refine ⟨tz, _, rfl, .inr (.inl (.inl ez)), rfl, flat_nat _, _, rfl, ?_⟩
      rw [ei, in_nat]
      by_cases c1 : i ≠ U ∧ i ≠ ps.getD U 0
      · rw [decide_eq_false (show ¬ i ∈ [U, ps.getD U 0] by simp only [List.mem_cons, List.not_mem_nil, or_false]; omega)]
        refine iteT ⟨_, rfl, _, s2 _ _ eD, ?_, fun y o hy => ?_, ?_⟩
        · rw [nv_length]; exact small1000 (Nat.le_trans (List.length_filter_le _ _) (by rw [List.length_range]; omega))
        · rw [upd_ne (ne_of_none hy nD)]; exact s2 _ _ (sm _ _ hy)
        · rw [upd_same, lft_step ps N U i, if_pos c1, nv_snoc']
      · rw [decide_eq_true (show i ∈ [U, ps.getD U 0] by simp only [List.mem_cons, List.not_mem_nil, or_false]; omega)]
        refine iteF ⟨sm.trans s2, ?_⟩
        rw [lft_step ps N U i, if_neg c1, List.append_nil]; exact s2 _ _ eD
    obtain ⟨sD, e_D⟩ := h
    replace e_D : H' D = some (.lst (nv (lft ps N U))) := e_D
    have ne_D : D ≠ b := (hB.ne_new nD).symm
    revert sD e_D; generalize H' = HD; intro sD e_D
    replace e_a := sD _ _ e_a
    replace hB := hB.same sD
    replace kH := kH.trans (Keep.of_same sD)
    refine st_set [some (.ref b), some (.ref a), some (.int (N : Nat)), y_odd, some (.int (U : Nat)), some (.ref D), none, none] ?_ rfl
    refine ⟨.ref D, rfl, D, rfl, ⟨_, .inl (.inl e_D)⟩, fun D2 nD2 => ?_⟩
    refine lc_list (xs := nv (lft ps N U)) (fun i H2 => Same HD H2 ∧ H2 D2 = some (.lst (nv ((wot ps N U).take i)))) ⟨same_new nD2, upd_same⟩ (fun i H2 _ h => .inl (.inl (h.1 _ _ e_D))) (fun i v H2 hv h => ?_) (fun H2 h => ?_)
    · obtain ⟨sm2, eD2⟩ := h
      obtain ⟨z, ez, rfl⟩ := nv_get' hv
      have hz := List.mem_of_getElem? ez
      have hzn := (lft_mem.mp hz).1
      have gz : atI (nv ps) (z : Int) = some (.int (ps.getD z 0 : Nat)) := nv_at (getD_some (by rw [hp.len]; omega))
      have hm := lft_part hp (show U < N by omega) hz
      obtain ⟨x1, x2⟩ := ixo_get hm
      have hS : SqL K H2 D (nv (lft ps N U)) := .inl (.inl (sm2 _ _ e_D))
      refine ⟨rfl, yes_if ⟨_, rfl, .inl ⟨rfl, _, hS⟩, _, rfl, _, rfl, a, _, _, _, rfl, rfl, .inl (.inl (sm2 _ _ e_a)), gz, D, _, _, ixo (lft ps N U) (ps.getD z 0), _, rfl, rfl, hS, rfl, flat_nat _, nv_get x1, eqV_same _, fun m y hm' hy => ?_, _, eD2, ?_, fun y o hy => ?_, ?_⟩⟩
      · obtain ⟨k, ek, rfl⟩ := nv_get' hy
        exact eqV_ne (x2 m k hm' ek)
      · rw [nv_length]; exact small1000 (Nat.le_trans (List.length_take_le' _ _) (by unfold wot; rw [List.length_map]; have := lft_le ps N U; omega))
      · rw [upd_ne (ne_of_none hy nD2)]; exact sm2 _ _ hy
      · rw [upd_same, wot_take ez]
    obtain ⟨sE, eD2⟩ := h
    rw [nv_length, show (lft ps N U).length = (wot ps N U).length by unfold wot; rw [List.length_map], List.take_length] at eD2
    revert sE eD2; generalize H2 = HE; intro sE eD2
    replace e_a := sE _ _ e_a
    replace e_D := sE _ _ e_D
    replace hB := hB.same sE
    replace kH := kH.trans (Keep.of_same sE)
    have e_D2 := eD2
    refine ⟨D2, _, rfl, .inl ⟨.inl (.inl e_D2), fun t3 nt3 => ?_⟩⟩
    have ne_D2 : D2 ≠ t3 := ne_of_none e_D2 nt3
    have s12 : Same HE (upd HE t3 (.tup (nv ((wot ps N U))))) := same_new nt3
    have e_t3 : upd HE t3 (.tup (nv ((wot ps N U)))) t3 = some (.tup (nv ((wot ps N U)))) := upd_same
    revert s12 e_t3; generalize upd HE t3 (.tup (nv ((wot ps N U)))) = H13; intro s12 e_t3
    replace e_a := s12 _ _ e_a
    replace e_D := s12 _ _ e_D
    replace e_D2 := s12 _ _ e_D2
    replace hB := hB.same s12
    replace kH := kH.trans (Keep.of_same s12)
    refine st_set [some (.ref b), some (.ref a), some (.int (N : Nat)), y_odd, some (.int (U : Nat)), some (.ref D), some (.ref t3), none] ?_ rfl
    refine ⟨_, rfl, _, rfl, a, ps, N, U, rfl, .inr (.inl (.inl e_a)), hp, by omega, c2, by omega, fun H14 t15 s16 n17 e_t15 => ?_⟩
    replace e_a := s16 _ _ e_a
    replace e_t3 := s16 _ _ e_t3
    replace hB := hB.same s16
    replace kH := kH.trans (Keep.of_same s16)
    refine ⟨_, rfl, _, rfl, a, _, rfl, .inr (.inl (.inl e_a)), fun l18 nl18 => ?_⟩
    have ne_l18 : l18 ≠ b := (hB.ne_new nl18).symm
    have s19 : Same H14 (upd H14 l18 (.lst (nv (ps)))) := same_new nl18
    have e_l18 : upd H14 l18 (.lst (nv (ps))) l18 = some (.lst (nv (ps))) := upd_same
    revert s19 e_l18; generalize upd H14 l18 (.lst (nv (ps))) = H20; intro s19 e_l18
    replace e_a := s19 _ _ e_a
    replace e_t3 := s19 _ _ e_t3
    replace e_t15 := s19 _ _ e_t15
    replace hB := hB.same s19
    replace kH := kH.trans (Keep.of_same s19)
    refine ⟨rfl, l18, ps, N, U, rfl, .inl (.inl (.inl e_l18)), hp, by omega, c2, by omega, fun H21 t22 s23 n24 e_t22 => ?_⟩
    replace e_a := s23 _ _ e_a
    replace e_t3 := s23 _ _ e_t3
    replace e_t15 := s23 _ _ e_t15
    replace e_l18 := s23 _ _ e_l18
    replace hB := hB.same s23
    replace kH := kH.trans (Keep.of_same s23)
    refine ⟨(by show 2 ≤ sizeLine; decide), fun l25 nl25 => ?_⟩
    have ne_l25 : l25 ≠ b := (hB.ne_new nl25).symm
    have s26 : Same H21 (upd H21 l25 (.lst [.ref t15, .ref t22])) := same_new nl25
    have e_l25 : upd H21 l25 (.lst [.ref t15, .ref t22]) l25 = some (.lst [.ref t15, .ref t22]) := upd_same
    revert s26 e_l25; generalize upd H21 l25 (.lst [.ref t15, .ref t22]) = H27; intro s26 e_l25
    replace e_a := s26 _ _ e_a
    replace e_t3 := s26 _ _ e_t3
    replace e_t15 := s26 _ _ e_t15
    replace e_l18 := s26 _ _ e_l18
    replace e_t22 := s26 _ _ e_t22
    replace hB := hB.same s26
    replace kH := kH.trans (Keep.of_same s26)
    refine ⟨_, rfl, _, rfl, (by show 2 ≤ sizeLine; decide), fun l28 nl28 => ?_⟩
    have ne_l28 : l28 ≠ b := (hB.ne_new nl28).symm
    have s29 : Same H27 (upd H27 l28 (.lst [.ref t3, .ref t3])) := same_new nl28
    have e_l28 : upd H27 l28 (.lst [.ref t3, .ref t3]) l28 = some (.lst [.ref t3, .ref t3]) := upd_same
    revert s29 e_l28; generalize upd H27 l28 (.lst [.ref t3, .ref t3]) = H30; intro s29 e_l28
    replace e_a := s29 _ _ e_a
    replace e_t3 := s29 _ _ e_t3
    replace e_t15 := s29 _ _ e_t15
    replace e_l18 := s29 _ _ e_l18
    replace e_t22 := s29 _ _ e_t22
    replace e_l25 := s29 _ _ e_l25
    replace hB := hB.same s29
    replace kH := kH.trans (Keep.of_same s29)
    have fk31 : Fi 2 (.list [td ((wot ps N U)), td ((wot ps N U))]) := fi_list (j := 1) (n := 2) (fa_cons (fi_tup' (wot_fw ps (show N ≤ 100 by omega))) (fa_cons (fi_tup' (wot_fw ps (show N ≤ 100 by omega))) fa_nil)) rfl (by decide)
    refine ⟨_, _, _, rfl, .lst (.inl (.inl e_l25)) (.cons (.tup (.inl (.inl e_t15)) (dp_nats _)) (.cons (.tup (.inl (.inl e_t22)) (dp_nats _)) .nil)), .lst (.inl (.inl e_l28)) (.cons (.tup (.inl (.inl e_t3)) (dp_nats _)) (.cons (.tup (.inl (.inl e_t3)) (dp_nats _)) .nil)), Nat.lt_succ_of_le (Nat.le_trans fk31.depth (by decide)), fk31.nar, fun H32 s33 => ?_⟩
    replace e_a := s33 _ _ e_a
    replace e_t3 := s33 _ _ e_t3
    replace e_t15 := s33 _ _ e_t15
    replace e_l18 := s33 _ _ e_l18
    replace e_t22 := s33 _ _ e_t22
    replace e_l25 := s33 _ _ e_l25
    replace e_l28 := s33 _ _ e_l28
    replace hB := hB.same s33
    replace kH := kH.trans (Keep.of_same s33)
    exact q _ kH (hB.mono (by omega))
end
end Pc
namespace Pc
open PySem PySem.Spec PyProof.Rows L2 RZ
/-! ### words that are spoilt (also in lib46: never both) -/
def zz (p : Nat × Nat) : Int × Int := ((p.1 : Int), (p.2 : Int))
theorem itemsZ_prs {K : PySem.W.Frag} {H : Hp} {as : List Addr} {qs : List (Nat × Nat)} (h : Prs H as qs) : ItemsZ K H (as.map V.ref) (qs.map zz) := ⟨by rw [List.length_map, List.length_map]; exact h.length, fun i v hv => by
  rw [List.getElem?_map] at hv
  cases e : as[i]? with
  | none => rw [e] at hv; cases hv
  | some c =>
    rw [e] at hv
    obtain ⟨p, h1, h2⟩ := prs_get h e
    exact ⟨c, zz p, (Option.some.inj hv).symm, by rw [List.getElem?_map, h1]; rfl, .inr (.inl (.inl h2))⟩⟩
theorem itemsZ_app {K : PySem.W.Frag} {H : Hp} {us vs : List V} {qs rs : List (Int × Int)} (h : ItemsZ K H us qs) (g : ItemsZ K H vs rs) : ItemsZ K H (us ++ vs) (qs ++ rs) := ⟨by rw [List.length_append, List.length_append, h.1, g.1], fun i v hv => by
  by_cases c : i < us.length
  · rw [List.getElem?_append_left c] at hv
    obtain ⟨a, p, e1, e2, e3⟩ := h.2 i v hv
    exact ⟨a, p, e1, by rw [List.getElem?_append_left (by rw [← h.1]; exact c)]; exact e2, e3⟩
  · rw [List.getElem?_append_right (by omega)] at hv
    obtain ⟨a, p, e1, e2, e3⟩ := g.2 _ v hv
    exact ⟨a, p, e1, by rw [List.getElem?_append_right (by rw [← h.1]; omega), ← h.1]; exact e2, e3⟩⟩
theorem itemsZ_two {K : PySem.W.Frag} {H : Hp} {a b : Addr} {x y x' y' : Int} (ha : H a = some (.tup [.int x, .int y])) (hb : H b = some (.tup [.int x', .int y'])) : ItemsZ K H [.ref a, .ref b] [(x, y), (x', y')] := ⟨rfl, fun i v hv => by
  have hi : i < 2 := get_lt hv
  rcases (show i = 0 ∨ i = 1 by omega) with rfl | rfl
  · exact ⟨a, _, (Option.some.inj hv).symm, rfl, .inr (.inl (.inl ha))⟩
  · exact ⟨b, _, (Option.some.inj hv).symm, rfl, .inr (.inl (.inl hb))⟩⟩
theorem badP_zz {n : Nat} {p : Nat × Nat} (h1 : p.1 < n) (h2 : p.2 < n) : badP n (zz p) = none := by
  unfold badP zz
  rw [if_neg (by rw [outP_no.mpr ⟨by show (0 : Int) ≤ (p.1 : Int); omega, by show (p.1 : Int) < (n : Int); omega⟩]; exact Bool.false_ne_true), if_neg (by rw [outP_no.mpr ⟨by show (0 : Int) ≤ (p.2 : Int); omega, by show (p.2 : Int) < (n : Int); omega⟩]; exact Bool.false_ne_true)]
theorem badW_zz {n : Nat} {rs : List (Int × Int)} : ∀ {qs : List (Nat × Nat)}, Calls n qs → badW n (qs.map zz ++ rs) = badW n rs
  | [], _ => rfl
  | p :: qs, h => by
    have hp := h p List.mem_cons_self
    show (match badP n (zz p) with | some u => some u | none => badW n (qs.map zz ++ rs)) = _
    rw [badP_zz (by omega) (by omega)]
    exact badW_zz (qs := qs) fun q hq => h q (List.mem_cons_of_mem _ hq)
end Pc
namespace Pc
open PySem PySem.Spec PyProof.Rows L2 RZ
theorem keep_freeE {b p : Addr} {k : Nat} {H H' : Hp} (hk : Keep b H H') (hB : Box k H' b) (h : H' p = none) : H p = none := by
  cases e : H p with
  | none => rfl
  | some o =>
    by_cases hb : p = b
    · subst hb
      obtain ⟨y, hy⟩ := hB.lst
      rw [hy] at h; cases h
    · rw [hk p o hb e] at h; cases h
theorem badW_hitE {n : Int} {p : Int × Int} {x : Int} {rs : List (Int × Int)} (h : badP n p = some x) : badW n (p :: rs) = some x := by
  show (match badP n p with | some u => some u | none => badW n rs) = some x
  rw [h]
theorem badP_sndE {n : Nat} {u : Int} (hn : 0 < n) (hu : ¬ (0 ≤ u ∧ u < (n : Int))) : badP n (0, u) = some u := by
  unfold badP
  rw [if_neg (by rw [outP_no.mpr ⟨(show (0 : Int) ≤ 0 by decide), (show (0 : Int) < (n : Int) by omega)⟩]; exact Bool.false_ne_true), if_pos (outP_yes.mpr hu)]
theorem wrn_b {pl : List Nat} {n : Nat} {qs : List (Nat × Nat)} (hp : pl.Perm (List.range n)) (hc : Calls n qs) (hn : n ≤ 100) (hq : qs.length ≤ 1000) : (wrn pl qs).length ≤ 1000 ∧ ∀ p ∈ wrn pl qs, p.1 < 2 ^ 60 ∧ p.2 < 2 ^ 60 := by
  refine ⟨by rw [wrn_len]; exact hq, fun p h => ?_⟩
  unfold wrn at h
  obtain ⟨q, hq, rfl⟩ := List.mem_map.mp h
  have c := hc q hq
  have a := pm_lt hp (show q.1 < n by omega)
  have b := pm_lt hp c.2
  have e : (100 : Nat) < 2 ^ 60 := by decide
  constructor
  · exact Nat.lt_of_le_of_lt (show min (pl.getD q.1 0) (pl.getD q.2 0) ≤ 100 by omega) e
  · exact Nat.lt_of_le_of_lt (show max (pl.getD q.1 0) (pl.getD q.2 0) ≤ 100 by omega) e
theorem pm_fw {pl : List Nat} {n : Nat} (hp : pl.Perm (List.range n)) (hn : n ≤ 100) : Fw pl := by
  refine ⟨by rw [pm_len hp]; exact hn, fun i hi => ?_⟩
  have := List.mem_range.mp (hp.mem_iff.mp hi)
  exact Nat.lt_of_lt_of_le this (Nat.le_trans hn (by decide))
theorem add_take {pl : List Nat} {k i z : Nat} (h : pl[i]? = some z) : nv ((pl.map (k + ·)).take i) ++ [V.int ((k : Int) + (z : Int))] = nv ((pl.map (k + ·)).take (i + 1)) := by
  rw [List.take_add_one, List.getElem?_map, h]
  unfold nv
  rw [List.map_append]; rfl
theorem q_bl {Q : VK} {H : Hp} {b : Bool} (h : b = true) (hq : Q (.bl true) H) : Q (.bl b) H := by rw [h]; exact hq
end Pc
namespace Pc
open PySem PySem.Spec PyProof.Rows L2 RZ
section
variable {P : Program} {w : World} {K : PySem.W.Frag} {mg : Str → Option Value} {base : Heap}
theorem wcb {n : Nat} {qs : List (Nat × Nat)} (hc : Calls n qs) (hn : n ≤ 100) (hq : qs.length ≤ 1000) : qs.length ≤ 1000 ∧ ∀ p ∈ qs, p.1 < 2 ^ 60 ∧ p.2 < 2 ^ 60 := ⟨hq, fun p hp => by
  have := hc p hp
  have e : (100 : Nat) < 2 ^ 60 := by decide
  exact ⟨Nat.lt_of_le_of_lt (show p.1 ≤ 100 by omega) e, Nat.lt_of_le_of_lt (show p.2 ≤ 100 by omega) e⟩⟩
def spRight : Sp := fun vs H Q _ => ∃ (b : Addr) (n : Nat), vs = [.ref b] ∧ Box (n + 1000) H b ∧ ∀ H', Keep b H H' → Box n H' b → Q (.bl true) H'
theorem kw_p_renumbered_10 (T : Env K mg) : ∀ (s : Shared) (ws : List Value), ws.length = (["numbers", "pairing"] : List Str).length → BindsTo s T.d_p_renumbered ⟨[], (["numbers", "pairing"] : List Str).zip ws⟩ ((["pairing", "numbers"] : List Str).zip (pm10 ws)) :=
  kw_to T.F_p_renumbered fun _ _ _ _ _ _ ws hl => match ws, hl with | [_, _], _ => rfl
theorem kw_p_sheet_renumbered_10 (T : Env K mg) : ∀ (s : Shared) (ws : List Value), ws.length = (["numbers", "sheet"] : List Str).length → BindsTo s T.d_p_sheet_renumbered ⟨[], (["numbers", "sheet"] : List Str).zip ws⟩ ((["sheet", "numbers"] : List Str).zip (pm10 ws)) :=
  kw_to T.F_p_sheet_renumbered fun _ _ _ _ _ _ ws hl => match ws, hl with | [_, _], _ => rfl
theorem kw_p_word_renumbered_10 (T : Env K mg) : ∀ (s : Shared) (ws : List Value), ws.length = (["numbers", "word"] : List Str).length → BindsTo s T.d_p_word_renumbered ⟨[], (["numbers", "word"] : List Str).zip ws⟩ ((["word", "numbers"] : List Str).zip (pm10 ws)) :=
  kw_to T.F_p_word_renumbered fun _ _ _ _ _ _ ws hl => match ws, hl with | [_, _], _ => rfl
theorem kw_p_joined_10 (T : Env K mg) : ∀ (s : Shared) (ws : List Value), ws.length = (["other", "one"] : List Str).length → BindsTo s T.d_p_joined ⟨[], (["other", "one"] : List Str).zip ws⟩ ((["one", "other"] : List Str).zip (pm10 ws)) :=
  kw_to T.F_p_joined fun _ _ _ _ _ _ ws hl => match ws, hl with | [_, _], _ => rfl
theorem kw_p_sheets_joined_10 (T : Env K mg) : ∀ (s : Shared) (ws : List Value), ws.length = (["other", "one"] : List Str).length → BindsTo s T.d_p_sheets_joined ⟨[], (["other", "one"] : List Str).zip ws⟩ ((["one", "other"] : List Str).zip (pm10 ws)) :=
  kw_to T.F_p_sheets_joined fun _ _ _ _ _ _ ws hl => match ws, hl with | [_, _], _ => rfl
theorem ok_right (T : Env K mg) : FnG P w K mg base CX0 9 T.f_right T.d_right ["_law_source"] spRight := by
  have GT : FnOk P w K mg base CX0 1 T.f_draw T.d_draw ["_law_source", "_law_bound"] spTake := ok_take T
  have GW : FnOk P w K mg base CX0 4 T.f_random_word T.d_random_word ["_law_source", "_law_crowd", "_law_most"] spSomeCalls := ok_some_calls T
  have GR : FnOk P w K mg base CX0 3 T.f_random_pairing T.d_random_pairing ["_law_source", "_law_crowd"] spRandom := ok_random T
  have GE : FnOk P w K mg base CX0 5 T.f_same T.d_same ["_law_found", "_law_due"] (spSame K 5) := (ok_same T 5).mono (by decide)
  have GS : FnOk P w K mg base CX0 2 T.f_shuffled T.d_shuffled ["_law_source", "_law_some"] (spStrewn K) := ok_strewn T
  have GP : FnOk P w K mg base CX0 2 T.f_pick T.d_pick ["_law_source", "_law_some"] (spOf K) := ok_of T
  have Gx : FnOk P w K mg base CX0 1 T.f_ends_joined T.d_ends_joined ["_law_start", "_law_mate"] (spEndsJ K) := ok_ends_joined T
  have GF : FnOk P w K mg base CX0 7 T.f_refused T.d_refused ["_law_kind", "_law_start", "_law_thing"] (spRef67 K) := ok_refused T
  have Gy : FnOk P w K mg base CX0 8 T.f_people_right T.d_people_right ["_law_source", "_law_start"] spPeopleR := ok_people_right T
  have Gn : FnOk P w K mg base CX0 2 T.f_p_renumbered T.d_p_renumbered ["pairing", "numbers"] (spMoved K) := ok_p_renumbered T
  have Gs : FnOk P w K mg base CX0 2 T.f_p_sheet_renumbered T.d_p_sheet_renumbered ["sheet", "numbers"] (spSRenum K) := ok_p_sheet_renumbered T
  have Gw : FnOk P w K mg base CX0 4 T.f_p_word_renumbered T.d_p_word_renumbered ["word", "numbers"] (spWRenum K) := ok_p_word_renumbered T
  have Gj : FnOk P w K mg base CX0 1 T.f_p_joined T.d_p_joined ["one", "other"] (spJoined K) := ok_p_joined T
  have GJ : FnOk P w K mg base CX0 2 T.f_p_sheets_joined T.d_p_sheets_joined ["one", "other"] (spSJoined K) := ok_p_sheets_joined T
  refine fun_g T.F_right sc_right (fun vs H Q E h => ?_) (fun cdv A outer s H vs Q E hr hgd h => ?_)
  · obtain ⟨b, n, rfl, _⟩ := h
    rfl
  · obtain ⟨b, n, rfl, hB, q⟩ := h
    have h1 := hr.mono (show 1 ≤ 8 by decide)
    have h2 := hr.mono (show 2 ≤ 8 by decide)
    have h3 := hr.mono (show 3 ≤ 8 by decide)
    have h4 := hr.mono (show 4 ≤ 8 by decide)
    have h5 := hr.mono (show 5 ≤ 8 by decide)
    have h6 := hr.mono (show 6 ≤ 8 by decide)
    have h7 := hr.mono (show 7 ≤ 8 by decide)
    have kH : Keep b H H := Keep.refl _ _
    refine ⟨_, pss_cons (ps_asg (pe_tup (pa_cons (pe_op op_add pe_int (pe_op op_mul pe_int (pe_call GT h1 (by rfl) T.g_draw T.F_draw.kp T.b_draw .nil pass0 (pa_cons (pv 0) (pa_cons pe_int pa_nil))))) (pa_cons (pe_op op_add pe_int (pe_op op_mul pe_int (pe_call GT h1 (by rfl) T.g_draw T.F_draw.kp T.b_draw .nil pass0 (pa_cons (pv 0) (pa_cons pe_int pa_nil))))) pa_nil))) (pg_tup rfl (pgs_cons (pg_name (i := 1) sc_right.nd rfl (.inr rfl)) (pgs_cons (pg_name (i := 2) sc_right.nd rfl (.inl rfl)) pgs_nil)))) <|
      pss_cons (ps_par (i := 3) (j := 4) (by rfl) sc_right.nd rfl rfl (by decide) rfl rfl (pa_cons (pe_call GR h3 (by rfl) T.g_random_pairing T.F_random_pairing.kp T.b_random_pairing .nil pass0 (pa_cons (pv 0) (pa_cons (pv 1) pa_nil))) (pa_cons (pe_call GR h3 (by rfl) T.g_random_pairing T.F_random_pairing.kp T.b_random_pairing .nil pass0 (pa_cons (pv 0) (pa_cons (pv 2) pa_nil))) pa_nil)) (by rfl)) <|
      pss_cons (ps_par (i := 5) (j := 6) (by rfl) sc_right.nd rfl rfl (by decide) rfl rfl (pa_cons (pe_call GR h3 (by rfl) T.g_random_pairing T.F_random_pairing.kp T.b_random_pairing .nil pass0 (pa_cons (pv 0) (pa_cons (pe_op op_mul pe_int (pv 1)) pa_nil))) (pa_cons (pe_call GR h3 (by rfl) T.g_random_pairing T.F_random_pairing.kp T.b_random_pairing .nil pass0 (pa_cons (pv 0) (pa_cons (pe_op op_mul pe_int (pv 2)) pa_nil))) pa_nil)) (by rfl)) <|
      pss_cons (ps_asg (pe_tup (pa_cons (pe_call GS h2 (by rfl) T.g_shuffled T.F_shuffled.kp T.b_shuffled .nil pass0 (pa_cons (pv 0) (pa_cons (pe_listRg rfl (by rfl) T.n_list (prg_1 (by rfl) T.n_range (pv 1))) pa_nil))) (pa_cons (pe_call GW h4 (by rfl) T.g_random_word T.F_random_word.kp T.b_random_word .nil pass0 (pa_cons (pv 0) (pa_cons (pv 1) (pa_cons pe_int pa_nil)))) pa_nil))) (pg_tup rfl (pgs_cons (pg_name (i := 7) sc_right.nd rfl (.inr rfl)) (pgs_cons (pg_name (i := 8) sc_right.nd rfl (.inl rfl)) pgs_nil)))) <|
      pss_cons (ps_set (i := 9) sc_right.nd rfl (.inl rfl) (pe_callB (call_reprD hgd hr.units) (by rfl) T.n_repr (by decide +kernel) (pa_cons (pe_lst (pa_cons (pv 3) (pa_cons (pv 5) (pa_cons (pv 7) (pa_cons (pv 8) pa_nil))))) pa_nil))) <|
      pss_cons (ps_par (i := 10) (j := 11) (by rfl) sc_right.nd rfl rfl (by decide) rfl rfl (pa_cons (pe_op op_rep (pe_lst (pa_cons pe_int pa_nil)) (pv 1)) (pa_cons (pe_op op_rep (pe_lst (pa_cons pe_int pa_nil)) (pe_op op_mul pe_int (pv 1))) pa_nil)) (by rfl)) <|
      pss_cons (ps_for PassesOwn.never rfl (pi_range1 (by rfl) T.n_range (pa_cons (pv 1) pa_nil)) (pg_name (i := 12) sc_right.nd rfl (.inl rfl)) (pss_one (ps_asg (pe_ix ix_list (pv 7) (pe_ix ix_tup (pv 3) (pv 12) (fun _ _ => rfl)) (fun _ _ => rfl)) (pg_sub (pv 10) (pe_ix ix_list (pv 7) (pv 12) (fun _ _ => rfl)) set_list)))) <|
      pss_cons (ps_set (i := 13) sc_right.nd rfl (.inl rfl) (pe_op op_cat (pv 7) (pe_lc (own := [("_law_spot", 12)]) (g := gName 12) (tt := tYes) (te := tOp (rI0 fun i j => .int (i + j)) (tVar 1) (tVar 12)) (by rfl) sc_right.nd (pi_list (pv 7)) (blkOk_by (N := N_right) (sc := defScope s_right) (by decide +kernel)) (fun _ _ _ _ _ => pg_name (i := 12) sc_right.nd rfl (.inl rfl)) (fun _ _ _ _ _ => pts_nil) (fun _ _ _ _ _ => pe_op op_add (pv 1) (pv 12))))) <|
      pss_cons (ps_for PassesOwn.never rfl (pi_range1 (by rfl) T.n_range (pa_cons (pe_op op_mul pe_int (pv 1)) pa_nil)) (pg_name (i := 14) sc_right.nd rfl (.inl rfl)) (pss_one (ps_asg (pe_ix ix_list (pv 13) (pe_ix ix_tup (pv 5) (pv 14) (fun _ _ => rfl)) (fun _ _ => rfl)) (pg_sub (pv 11) (pe_ix ix_list (pv 13) (pv 14) (fun _ _ => rfl)) set_list)))) <|
      pss_cons (ps_setLc (i := 15) (own := [("_law_first_one", 18), ("_law_two", 19)]) (g := gTup K 2 (gCons (gName 18) (gCons (gName 19) gNil))) (tt := tYes) (te := tTup (tCons (tCB (fun xs H Q => ∃ i j, xs = [V.int i, V.int j] ∧ Q (.int (if j < i then j else i)) H) (tCons (tOp (rIxL K) (tVar 7) (tVar 18)) (tCons (tOp (rIxL K) (tVar 7) (tVar 19)) tNil))) (tCons (tCB (fun xs H Q => ∃ i j, xs = [V.int i, V.int j] ∧ Q (.int (if j > i then j else i)) H) (tCons (tOp (rIxL K) (tVar 7) (tVar 18)) (tCons (tOp (rIxL K) (tVar 7) (tVar 19)) tNil))) tNil))) rfl sc_right.nd rfl rfl (sw_true rfl rfl rfl (by decide +kernel)) (pi_list (pv 8)) (blkOk_by (N := N_right) (sc := defScope s_right) (by decide +kernel)) (fun _ _ _ _ _ => pg_tup (by rfl) (pgs_cons (pg_name (i := 18) sc_right.nd rfl (.inl rfl)) (pgs_cons (pg_name (i := 19) sc_right.nd rfl (.inl rfl)) pgs_nil))) (fun _ _ _ _ _ => pts_nil) (fun _ _ _ _ _ => pe_tup (pa_cons (pe_callB (call_min2 rfl) (by rfl) T.n_min (by decide +kernel) (pa_cons (pe_ix ix_list (pv 7) (pv 18) (fun _ _ => rfl)) (pa_cons (pe_ix ix_list (pv 7) (pv 19) (fun _ _ => rfl)) pa_nil))) (pa_cons (pe_callB (call_max2 rfl) (by rfl) T.n_max (by decide +kernel) (pa_cons (pe_ix ix_list (pv 7) (pv 18) (fun _ _ => rfl)) (pa_cons (pe_ix ix_list (pv 7) (pv 19) (fun _ _ => rfl)) pa_nil))) pa_nil)))) <|
      pss_cons (ps_set (i := 16) sc_right.nd rfl (.inl rfl) (pe_lst (pa_cons (pe_call Gn h2 (by rfl) T.g_p_renumbered T.F_p_renumbered.kp T.b_p_renumbered .nil pass0 (pa_cons (pv 3) (pa_cons (pe_callTy call_tuple_of (by rfl) T.n_tuple (by decide +kernel) (pa_cons (pv 7) pa_nil)) pa_nil))) (pa_cons (pe_call Gs h2 (by rfl) T.g_p_sheet_renumbered T.F_p_sheet_renumbered.kp T.b_p_sheet_renumbered .nil pass0 (pa_cons (pv 5) (pa_cons (pe_callTy call_tuple_of (by rfl) T.n_tuple (by decide +kernel) (pa_cons (pv 7) pa_nil)) pa_nil))) (pa_cons (pe_call Gw h4 (by rfl) T.g_p_word_renumbered T.F_p_word_renumbered.kp T.b_p_word_renumbered .nil pass0 (pa_cons (pv 8) (pa_cons (pe_callTy call_tuple_of (by rfl) T.n_tuple (by decide +kernel) (pa_cons (pv 7) pa_nil)) pa_nil))) pa_nil))))) <|
      pss_cons (ps_if (pt_not (pt_val (pe_call GE h5 (by rfl) T.g_same T.F_same.kp T.b_same .nil pass0 (pa_cons (pv 16) (pa_cons (pe_lst (pa_cons (pe_callTy call_tuple_of (by rfl) T.n_tuple (by decide +kernel) (pa_cons (pv 10) pa_nil)) (pa_cons (pe_callTy call_tuple_of (by rfl) T.n_tuple (by decide +kernel) (pa_cons (pv 11) pa_nil)) (pa_cons (pv 15) pa_nil)))) pa_nil))))) (pss_one (ps_ret pe_bl)) pss_nil) <|
      pss_cons (ps_set (i := 16) sc_right.nd rfl (.inl rfl) (pe_lst (pa_cons (pe_kw (gV := pm10) Gn h2 (by rfl) T.g_p_renumbered T.F_p_renumbered.kp (kw_p_renumbered_10 T) (rel_pm10) pass0 (pk_cons (pv 7) (pk_cons (pe_callTy call_list_of (by rfl) T.n_list (by decide +kernel) (pa_cons (pv 3) pa_nil)) pk_nil))) (pa_cons (pe_kw (gV := pm10) Gs h2 (by rfl) T.g_p_sheet_renumbered T.F_p_sheet_renumbered.kp (kw_p_sheet_renumbered_10 T) (rel_pm10) pass0 (pk_cons (pv 7) (pk_cons (pe_callTy call_list_of (by rfl) T.n_list (by decide +kernel) (pa_cons (pv 5) pa_nil)) pk_nil))) pa_nil)))) <|
      pss_cons (ps_expr (pe_bm PySem.F.plainAttrs_list PySem.F.slot_list_append PySem.F.type_list_append mt_append (pv 16) (pa_cons (pe_kw (gV := pm10) Gw h4 (by rfl) T.g_p_word_renumbered T.F_p_word_renumbered.kp (kw_p_word_renumbered_10 T) (rel_pm10) pass0 (pk_cons (pv 7) (pk_cons (pe_callTy call_tuple_of (by rfl) T.n_tuple (by decide +kernel) (pa_cons (pv 8) pa_nil)) pk_nil))) pa_nil))) <|
      pss_cons (ps_if (pt_not (pt_val (pe_call GE h5 (by rfl) T.g_same T.F_same.kp T.b_same .nil pass0 (pa_cons (pv 16) (pa_cons (pe_lst (pa_cons (pe_callTy call_tuple_of (by rfl) T.n_tuple (by decide +kernel) (pa_cons (pv 10) pa_nil)) (pa_cons (pe_callTy call_tuple_of (by rfl) T.n_tuple (by decide +kernel) (pa_cons (pv 11) pa_nil)) (pa_cons (pv 15) pa_nil)))) pa_nil))))) (pss_one (ps_ret pe_bl)) pss_nil) <|
      pss_cons (ps_set (i := 10) sc_right.nd rfl (.inl rfl) (pe_lst (pa_cons (pe_op op_catT (pv 3) (pe_callTy call_tuple_of (by rfl) T.n_tuple (by decide +kernel) (pa_cons (pe_lc (own := [("_law_spot", 12)]) (g := gName 12) (tt := tYes) (te := tOp (rI0 fun i j => .int (i + j)) (tVar 1) (tVar 12)) (by rfl) sc_right.nd (pi_tup (pv 4)) (blkOk_by (N := N_right) (sc := defScope s_right) (by decide +kernel)) (fun _ _ _ _ _ => pg_name (i := 12) sc_right.nd rfl (.inl rfl)) (fun _ _ _ _ _ => pts_nil) (fun _ _ _ _ _ => pe_op op_add (pv 1) (pv 12))) pa_nil))) (pa_cons (pe_call Gx h1 (by rfl) T.g_ends_joined T.F_ends_joined.kp T.b_ends_joined .nil pass0 (pa_cons (pv 5) (pa_cons (pv 6) pa_nil))) pa_nil)))) <|
      pss_cons (ps_set (i := 16) sc_right.nd rfl (.inl rfl) (pe_lst (pa_cons (pe_call Gj h1 (by rfl) T.g_p_joined T.F_p_joined.kp T.b_p_joined .nil pass0 (pa_cons (pv 3) (pa_cons (pv 4) pa_nil))) (pa_cons (pe_call GJ h2 (by rfl) T.g_p_sheets_joined T.F_p_sheets_joined.kp T.b_p_sheets_joined .nil pass0 (pa_cons (pv 5) (pa_cons (pv 6) pa_nil))) pa_nil)))) <|
      pss_cons (ps_if (PW.pt (pw_or (pt_not (pt_val (pe_call GE h5 (by rfl) T.g_same T.F_same.kp T.b_same .nil pass0 (pa_cons (pv 16) (pa_cons (pv 10) pa_nil))))) (pw_or1 (pt_not (pt_val (pe_call GE h5 (by rfl) T.g_same T.F_same.kp T.b_same .nil pass0 (pa_cons (pe_kw (gV := pm10) Gj h1 (by rfl) T.g_p_joined T.F_p_joined.kp (kw_p_joined_10 T) (rel_pm10) pass0 (pk_cons (pe_callTy call_list_of (by rfl) T.n_list (by decide +kernel) (pa_cons (pv 4) pa_nil)) (pk_cons (pe_callTy call_list_of (by rfl) T.n_list (by decide +kernel) (pa_cons (pv 3) pa_nil)) pk_nil))) (pa_cons (pe_ix ix_list (pv 10) pe_int (fun _ _ => rfl)) pa_nil)))))))) (pss_one (ps_ret pe_bl)) pss_nil) <|
      pss_cons (ps_if (pt_not (pt_val (pe_call GE h5 (by rfl) T.g_same T.F_same.kp T.b_same .nil pass0 (pa_cons (pe_kw (gV := pm10) GJ h2 (by rfl) T.g_p_sheets_joined T.F_p_sheets_joined.kp (kw_p_sheets_joined_10 T) (rel_pm10) pass0 (pk_cons (pe_callTy call_list_of (by rfl) T.n_list (by decide +kernel) (pa_cons (pv 6) pa_nil)) (pk_cons (pe_callTy call_list_of (by rfl) T.n_list (by decide +kernel) (pa_cons (pv 5) pa_nil)) pk_nil))) (pa_cons (pe_ix ix_list (pv 10) pe_int (fun _ _ => rfl)) pa_nil))))) (pss_one (ps_ret pe_bl)) pss_nil) <|
      pss_cons (ps_set (i := 17) sc_right.nd rfl (.inl rfl) (pe_call GP h2 (by rfl) T.g_pick T.F_pick.kp T.b_pick .nil pass0 (pa_cons (pv 0) (pa_cons (pe_lst (pa_cons (pv 1) (pa_cons (pe_op op_add (pv 1) pe_int) (pa_cons (pe_op op_pow pe_int pe_int) pa_nil)))) pa_nil)))) <|
      pss_cons (ps_if (pt_not (pt_val (pe_call GE h5 (by rfl) T.g_same T.F_same.kp T.b_same .nil pass0 (pa_cons (pe_call GF h7 (by rfl) T.g_refused T.F_refused.kp T.b_refused .nil pass0 (pa_cons pe_int (pa_cons (pe_callTy call_tuple_of (by rfl) T.n_tuple (by decide +kernel) (pa_cons (pv 7) pa_nil)) (pa_cons (pe_op op_cat (pv 8) (pe_lst (pa_cons (pe_tup (pa_cons pe_int (pa_cons (pv 17) pa_nil))) (pa_cons (pe_tup (pa_cons (pe_op op_add (pv 17) pe_int) (pa_cons (pe_op op_add (pv 17) pe_int) pa_nil))) pa_nil)))) pa_nil)))) (pa_cons (pv 17) pa_nil))))) (pss_one (ps_ret pe_bl)) pss_nil) <|
      pss_one (ps_ret (pe_and (pe_call Gy hr (by rfl) T.g_people_right T.F_people_right.kp T.b_people_right .nil pass0 (pa_cons (pv 0) (pa_cons (pv 3) pa_nil))) (pe_one (pe_cmpR op_eq (pe_callB (call_reprD hgd hr.units) (by rfl) T.n_repr (by decide +kernel) (pa_cons (pe_lst (pa_cons (pv 3) (pa_cons (pv 5) (pa_cons (pv 7) (pa_cons (pv 8) pa_nil))))) pa_nil)) (pv 9) (nomark _))))), ?_⟩
    refine ⟨_, rfl, b, n + 999, 10, rfl, hB.mono (by omega), by decide, by decide, fun r1 H2 ra3 rb4 hB5 k6 => ?_⟩
    obtain ⟨y_hy7, hy7⟩ := hB.lst
    clear hB
    have hB := hB5
    replace kH := kH.trans k6
    refine ⟨_, _, rfl, rfl, .inl ⟨by omega, by omega⟩, _, _, rfl, rfl, ?_⟩
    have hn1 : 2 + 2 * r1.toNat ≤ 20 := by omega
    have hn2 : 2 ≤ 2 + 2 * r1.toNat := by omega
    have hn3 : (2 + 2 * r1.toNat) % 2 = 0 := by omega
    rw [show (fun i j => V.int (i + j)) 2 ((fun i j => i * j) 2 r1) = V.int ((2 + 2 * r1.toNat : Nat) : Int) from congrArg V.int (show (2 + 2 * r1 : Int) = _ by omega)]
    revert hn1 hn2 hn3; generalize 2 + 2 * r1.toNat = N; intro hn1 hn2 hn3
    refine ⟨_, rfl, b, n + 998, 10, rfl, hB.mono (by omega), by decide, by decide, fun r8 H9 ra10 rb11 hB12 k13 => ?_⟩
    obtain ⟨y_hy14, hy14⟩ := hB.lst
    clear hB
    have hB := hB12
    replace kH := kH.trans k13
    refine ⟨_, _, rfl, rfl, .inl ⟨by omega, by omega⟩, _, _, rfl, rfl, ?_⟩
    have hm1 : 2 + 2 * r8.toNat ≤ 20 := by omega
    have hm2 : 2 ≤ 2 + 2 * r8.toNat := by omega
    have hm3 : (2 + 2 * r8.toNat) % 2 = 0 := by omega
    rw [show (fun i j => V.int (i + j)) 2 ((fun i j => i * j) 2 r8) = V.int ((2 + 2 * r8.toNat : Nat) : Int) from congrArg V.int (show (2 + 2 * r8 : Int) = _ by omega)]
    revert hm1 hm2 hm3; generalize 2 + 2 * r8.toNat = M; intro hm1 hm2 hm3
    refine ⟨(by show 2 ≤ sizeLine; decide), fun l15 nl15 => ?_⟩
    have s16 : Same H9 (upd H9 l15 (.tup [.int (N : Nat), .int (M : Nat)])) := same_new nl15
    have e_l15 : upd H9 l15 (.tup [.int (N : Nat), .int (M : Nat)]) l15 = some (.tup [.int (N : Nat), .int (M : Nat)]) := upd_same
    revert s16 e_l15; generalize upd H9 l15 (.tup [.int (N : Nat), .int (M : Nat)]) = H17; intro s16 e_l15
    replace hB := hB.same s16
    replace kH := kH.trans (Keep.of_same s16)
    refine ⟨l15, _, rfl, .inl (.inl e_l15), rfl, _, _, rfl, _, _, rfl, rfl, ?_⟩
    first | refine st_set [some (.ref b), some (.int (N : Nat)), some (.int (M : Nat)), none, none, none, none, none, none, none, none, none, none, none, none, none, none, none, none, none] ?_ rfl | refine st_eq [some (.ref b), some (.int (N : Nat)), some (.int (M : Nat)), none, none, none, none, none, none, none, none, none, none, none, none, none, none, none, none, none] ?_ rfl | refine st_eq (t := tSeq _ _) [some (.ref b), some (.int (N : Nat)), some (.int (M : Nat)), none, none, none, none, none, none, none, none, none, none, none, none, none, none, none, none, none] ?_ rfl
    refine ⟨_, rfl, _, rfl, b, n + 958, N, rfl, hB.mono (by omega), by omega, by omega, fun H18 t19 ps20 hp21 k22 hB23 n24 e_t19 => ?_⟩
    obtain ⟨y_hy25, hy25⟩ := hB.lst
    clear hB
    have hB := hB23
    replace kH := kH.trans k22
    refine ⟨_, rfl, _, rfl, b, n + 918, M, rfl, hB.mono (by omega), by omega, by omega, fun H26 t27 ps28 hp29 k30 hB31 n32 e_t27 => ?_⟩
    obtain ⟨y_hy33, hy33⟩ := hB.lst
    replace e_t19 := k30.tup hy33 e_t19
    clear hB
    have hB := hB31
    replace kH := kH.trans k30
    refine ⟨_, _, rfl, ?_⟩
    first | refine st_set [some (.ref b), some (.int (N : Nat)), some (.int (M : Nat)), some (.ref t19), some (.ref t27), none, none, none, none, none, none, none, none, none, none, none, none, none, none, none] ?_ rfl | refine st_eq [some (.ref b), some (.int (N : Nat)), some (.int (M : Nat)), some (.ref t19), some (.ref t27), none, none, none, none, none, none, none, none, none, none, none, none, none, none, none] ?_ rfl | refine st_eq (t := tSeq _ _) [some (.ref b), some (.int (N : Nat)), some (.int (M : Nat)), some (.ref t19), some (.ref t27), none, none, none, none, none, none, none, none, none, none, none, none, none, none, none] ?_ rfl
    refine ⟨_, rfl, _, rfl, _, _, rfl, rfl, .inl ⟨by omega, by omega⟩, b, n + 878, (2 * N), rfl, hB.mono (by omega), by omega, by omega, fun H34 t35 ps36 hp37 k38 hB39 n40 e_t35 => ?_⟩
    obtain ⟨y_hy41, hy41⟩ := hB.lst
    replace e_t19 := k38.tup hy41 e_t19
    replace e_t27 := k38.tup hy41 e_t27
    clear hB
    have hB := hB39
    replace kH := kH.trans k38
    refine ⟨_, rfl, _, rfl, _, _, rfl, rfl, .inl ⟨by omega, by omega⟩, b, n + 838, (2 * M), rfl, hB.mono (by omega), by omega, by omega, fun H42 t43 ps44 hp45 k46 hB47 n48 e_t43 => ?_⟩
    obtain ⟨y_hy49, hy49⟩ := hB.lst
    replace e_t19 := k46.tup hy49 e_t19
    replace e_t27 := k46.tup hy49 e_t27
    replace e_t35 := k46.tup hy49 e_t35
    clear hB
    have hB := hB47
    replace kH := kH.trans k46
    refine ⟨_, _, rfl, ?_⟩
    first | refine st_set [some (.ref b), some (.int (N : Nat)), some (.int (M : Nat)), some (.ref t19), some (.ref t27), some (.ref t35), some (.ref t43), none, none, none, none, none, none, none, none, none, none, none, none, none] ?_ rfl | refine st_eq [some (.ref b), some (.int (N : Nat)), some (.int (M : Nat)), some (.ref t19), some (.ref t27), some (.ref t35), some (.ref t43), none, none, none, none, none, none, none, none, none, none, none, none, none] ?_ rfl | refine st_eq (t := tSeq _ _) [some (.ref b), some (.int (N : Nat)), some (.int (M : Nat)), some (.ref t19), some (.ref t27), some (.ref t35), some (.ref t43), none, none, none, none, none, none, none, none, none, none, none, none, none] ?_ rfl
    refine ⟨_, rfl, _, rfl, _, rfl, RgOk.of_le (by decide) (by omega) (by decide) (by omega), fun lr nlr => ?_⟩
    rw [rg_nv]
    have ne_lr : lr ≠ b := (hB.ne_new nlr).symm
    have s50 : Same H42 (upd H42 lr (.lst (nv (List.range N)))) := same_new nlr
    have e_lr : upd H42 lr (.lst (nv (List.range N))) lr = some (.lst (nv (List.range N))) := upd_same
    revert s50 e_lr; generalize upd H42 lr (.lst (nv (List.range N))) = H51; intro s50 e_lr
    replace e_t19 := s50 _ _ e_t19
    replace e_t27 := s50 _ _ e_t27
    replace e_t35 := s50 _ _ e_t35
    replace e_t43 := s50 _ _ e_t43
    replace hB := hB.same s50
    replace kH := kH.trans (Keep.of_same s50)
    refine ⟨b, lr, n + 818, _, rfl, hB.mono (by rw [nv_length, List.length_range]; omega), .inl (.inl e_lr), by rw [nv_length, List.length_range]; omega, fun Hs tg ys hpe k6 hB6 ntg e_tg => ?_⟩
    have ne_tg : tg ≠ b := (hB.ne_new ntg).symm
    obtain ⟨y_hy52, hy52⟩ := hB.lst
    replace e_t19 := k6.tup hy52 e_t19
    replace e_t27 := k6.tup hy52 e_t27
    replace e_t35 := k6.tup hy52 e_t35
    replace e_t43 := k6.tup hy52 e_t43
    clear hB
    have hB := hB6
    replace kH := kH.trans k6
    obtain ⟨fr, efr, pfr⟩ := perm_map_inv (fun (i : Nat) => V.int (i : Int)) hpe.symm (List.range N) rfl
    replace e_tg : Hs tg = some (.lst (nv fr)) := by rw [e_tg, efr]; rfl
    refine ⟨_, rfl, _, rfl, b, n + 528, N, 12, rfl, hB.mono (by omega), by omega, by omega, by omega, fun H53 t54 as55 qs56 hc57 hl58 n59 e_t54 hA_t54 k60 hB61 => ?_⟩
    have ne_t54 : t54 ≠ b := (hB.ne_new n59).symm
    obtain ⟨y_hy62, hy62⟩ := hB.lst
    replace e_t19 := k60.tup hy62 e_t19
    replace e_t27 := k60.tup hy62 e_t27
    replace e_t35 := k60.tup hy62 e_t35
    replace e_t43 := k60.tup hy62 e_t43
    replace e_tg := k60 _ _ ne_tg e_tg
    clear hB
    have hB := hB61
    replace kH := kH.trans k60
    refine ⟨(by show 2 ≤ sizeLine; decide), fun l63 nl63 => ?_⟩
    have s64 : Same H53 (upd H53 l63 (.tup [.ref tg, .ref t54])) := same_new nl63
    have e_l63 : upd H53 l63 (.tup [.ref tg, .ref t54]) l63 = some (.tup [.ref tg, .ref t54]) := upd_same
    revert s64 e_l63; generalize upd H53 l63 (.tup [.ref tg, .ref t54]) = H65; intro s64 e_l63
    replace e_t19 := s64 _ _ e_t19
    replace e_t27 := s64 _ _ e_t27
    replace e_t35 := s64 _ _ e_t35
    replace e_t43 := s64 _ _ e_t43
    replace e_tg := s64 _ _ e_tg
    replace e_t54 := s64 _ _ e_t54
    replace hA_t54 := prs_same s64 hA_t54
    replace hB := hB.same s64
    replace kH := kH.trans (Keep.of_same s64)
    refine ⟨l63, _, rfl, .inl (.inl e_l63), rfl, _, _, rfl, _, _, rfl, rfl, ?_⟩
    first | refine st_set [some (.ref b), some (.int (N : Nat)), some (.int (M : Nat)), some (.ref t19), some (.ref t27), some (.ref t35), some (.ref t43), some (.ref tg), some (.ref t54), none, none, none, none, none, none, none, none, none, none, none] ?_ rfl | refine st_eq [some (.ref b), some (.int (N : Nat)), some (.int (M : Nat)), some (.ref t19), some (.ref t27), some (.ref t35), some (.ref t43), some (.ref tg), some (.ref t54), none, none, none, none, none, none, none, none, none, none, none] ?_ rfl | refine st_eq (t := tSeq _ _) [some (.ref b), some (.int (N : Nat)), some (.int (M : Nat)), some (.ref t19), some (.ref t27), some (.ref t35), some (.ref t43), some (.ref tg), some (.ref t54), none, none, none, none, none, none, none, none, none, none, none] ?_ rfl
    refine ⟨_, rfl, _, rfl, _, rfl, _, rfl, (by show 4 ≤ sizeLine; decide), fun l66 nl66 => ?_⟩
    have ne_l66 : l66 ≠ b := (hB.ne_new nl66).symm
    have s67 : Same H65 (upd H65 l66 (.lst [.ref t19, .ref t35, .ref tg, .ref t54])) := same_new nl66
    have e_l66 : upd H65 l66 (.lst [.ref t19, .ref t35, .ref tg, .ref t54]) l66 = some (.lst [.ref t19, .ref t35, .ref tg, .ref t54]) := upd_same
    revert s67 e_l66; generalize upd H65 l66 (.lst [.ref t19, .ref t35, .ref tg, .ref t54]) = H68; intro s67 e_l66
    replace e_t19 := s67 _ _ e_t19
    replace e_t27 := s67 _ _ e_t27
    replace e_t35 := s67 _ _ e_t35
    replace e_t43 := s67 _ _ e_t43
    replace e_tg := s67 _ _ e_tg
    replace e_t54 := s67 _ _ e_t54
    replace hA_t54 := prs_same s67 hA_t54
    replace hB := hB.same s67
    replace kH := kH.trans (Keep.of_same s67)
    have fk69 : Fi 3 (.list [td (ps20), td (ps36), .list (nd (fr)), .list ((qs56).map pd)]) := fi_list (j := 2) (n := 4) (fa_cons ((fi_tup hp21 (by omega)).up) (fa_cons ((fi_tup hp37 (by omega)).up) (fa_cons ((fi_lst (pm_fw pfr (by omega))).up) (fa_cons (fi_prs (wcb hc57 (by omega) (by omega))) fa_nil)))) rfl (by decide)
    refine ⟨l66, _, rfl, .lst (.inl (.inl e_l66)) (.cons (.tup (.inl (.inl e_t19)) (dp_nats _)) (.cons (.tup (.inl (.inl e_t35)) (dp_nats _)) (.cons (.lst (.inl (.inl e_tg)) (dp_nats _)) (.cons (.lst (.inl (.inl e_t54)) (prs_dp hA_t54)) .nil)))), fk69.lay, fk69.show_, Nat.le_trans fk69.depth (by decide), Nat.le_trans fk69.len (by decide), ?_⟩
    obtain ⟨kst, hkst⟩ : ∃ k, k = (PyData.shown (.list [td (ps20), td (ps36), .list (nd (fr)), .list ((qs56).map pd)])) := ⟨_, rfl⟩
    refine st_set [some (.ref b), some (.int (N : Nat)), some (.int (M : Nat)), some (.ref t19), some (.ref t27), some (.ref t35), some (.ref t43), some (.ref tg), some (.ref t54), some (.str kst), none, none, none, none, none, none, none, none, none, none] ?_ (by rw [hkst]; rfl)
    refine ⟨(by show 1 ≤ sizeLine; decide), fun l70 nl70 => ?_⟩
    have ne_l70 : l70 ≠ b := (hB.ne_new nl70).symm
    have s71 : Same H68 (upd H68 l70 (.lst [.int (0)])) := same_new nl70
    have e_l70 : upd H68 l70 (.lst [.int (0)]) l70 = some (.lst [.int (0)]) := upd_same
    revert s71 e_l70; generalize upd H68 l70 (.lst [.int (0)]) = H72; intro s71 e_l70
    replace e_t19 := s71 _ _ e_t19
    replace e_t27 := s71 _ _ e_t27
    replace e_t35 := s71 _ _ e_t35
    replace e_t43 := s71 _ _ e_t43
    replace e_tg := s71 _ _ e_tg
    replace e_t54 := s71 _ _ e_t54
    replace hA_t54 := prs_same s71 hA_t54
    replace hB := hB.same s71
    replace kH := kH.trans (Keep.of_same s71)
    refine ⟨_, rfl, l70, (N : Int), _, rfl, rfl, e_l70, by omega, by omega, ?_, fun l73 nl73 => ?_⟩
    · show 1 * Int.toNat (N : Int) ≤ sizeLine; exact Nat.le_of_lt (small1000 (by omega))
    rw [show (List.replicate (Int.toNat (N : Int)) [V.int 0]).flatten = nv (List.replicate (N) 0) by rw [rep_flat, show Int.toNat (N : Int) = N by omega]; unfold nv; rw [List.map_replicate]; rfl]
    have n0_l73 : H l73 = none := keep_freeE kH hB nl73
    have ap_tg_l73 : tg ≠ l73 := ne_of_none e_tg nl73
    have ap_t54_l73 : t54 ≠ l73 := ne_of_none e_t54 nl73
    have ne_l73 : l73 ≠ b := (hB.ne_new nl73).symm
    have s74 : Same H72 (upd H72 l73 (.lst (nv ((List.replicate (N) 0))))) := same_new nl73
    have e_l73 : upd H72 l73 (.lst (nv ((List.replicate (N) 0)))) l73 = some (.lst (nv ((List.replicate (N) 0)))) := upd_same
    revert s74 e_l73; generalize upd H72 l73 (.lst (nv ((List.replicate (N) 0)))) = H75; intro s74 e_l73
    replace e_t19 := s74 _ _ e_t19
    replace e_t27 := s74 _ _ e_t27
    replace e_t35 := s74 _ _ e_t35
    replace e_t43 := s74 _ _ e_t43
    replace e_tg := s74 _ _ e_tg
    replace e_t54 := s74 _ _ e_t54
    replace hA_t54 := prs_same s74 hA_t54
    replace hB := hB.same s74
    replace kH := kH.trans (Keep.of_same s74)
    refine ⟨(by show 1 ≤ sizeLine; decide), fun l76 nl76 => ?_⟩
    have ne_l76 : l76 ≠ b := (hB.ne_new nl76).symm
    have s77 : Same H75 (upd H75 l76 (.lst [.int (0)])) := same_new nl76
    have e_l76 : upd H75 l76 (.lst [.int (0)]) l76 = some (.lst [.int (0)]) := upd_same
    revert s77 e_l76; generalize upd H75 l76 (.lst [.int (0)]) = H78; intro s77 e_l76
    replace e_t19 := s77 _ _ e_t19
    replace e_t27 := s77 _ _ e_t27
    replace e_t35 := s77 _ _ e_t35
    replace e_t43 := s77 _ _ e_t43
    replace e_tg := s77 _ _ e_tg
    replace e_t54 := s77 _ _ e_t54
    replace hA_t54 := prs_same s77 hA_t54
    replace e_l73 := s77 _ _ e_l73
    replace hB := hB.same s77
    replace kH := kH.trans (Keep.of_same s77)
    refine ⟨_, rfl, 2, _, rfl, rfl, .inl ⟨by decide, by decide⟩, l76, (2 * (N : Int)), _, rfl, rfl, e_l76, by omega, by omega, ?_, fun l79 nl79 => ?_⟩
    · show 1 * Int.toNat (2 * (N : Int)) ≤ sizeLine; exact Nat.le_of_lt (small1000 (by omega))
    rw [show (List.replicate (Int.toNat (2 * (N : Int))) [V.int 0]).flatten = nv (List.replicate (2 * N) 0) by rw [rep_flat, show Int.toNat (2 * (N : Int)) = 2 * N by omega]; unfold nv; rw [List.map_replicate]; rfl]
    have n0_l79 : H l79 = none := keep_freeE kH hB nl79
    have ap_tg_l79 : tg ≠ l79 := ne_of_none e_tg nl79
    have ap_t54_l79 : t54 ≠ l79 := ne_of_none e_t54 nl79
    have ap_l73_l79 : l73 ≠ l79 := ne_of_none e_l73 nl79
    have ne_l79 : l79 ≠ b := (hB.ne_new nl79).symm
    have s80 : Same H78 (upd H78 l79 (.lst (nv ((List.replicate (2 * N) 0))))) := same_new nl79
    have e_l79 : upd H78 l79 (.lst (nv ((List.replicate (2 * N) 0)))) l79 = some (.lst (nv ((List.replicate (2 * N) 0)))) := upd_same
    revert s80 e_l79; generalize upd H78 l79 (.lst (nv ((List.replicate (2 * N) 0)))) = H81; intro s80 e_l79
    replace e_t19 := s80 _ _ e_t19
    replace e_t27 := s80 _ _ e_t27
    replace e_t35 := s80 _ _ e_t35
    replace e_t43 := s80 _ _ e_t43
    replace e_tg := s80 _ _ e_tg
    replace e_t54 := s80 _ _ e_t54
    replace hA_t54 := prs_same s80 hA_t54
    replace e_l73 := s80 _ _ e_l73
    replace hB := hB.same s80
    replace kH := kH.trans (Keep.of_same s80)
    refine ⟨_, _, rfl, ?_⟩
    first | refine st_set [some (.ref b), some (.int (N : Nat)), some (.int (M : Nat)), some (.ref t19), some (.ref t27), some (.ref t35), some (.ref t43), some (.ref tg), some (.ref t54), some (.str kst), some (.ref l73), some (.ref l79), none, none, none, none, none, none, none, none] ?_ rfl | refine st_eq [some (.ref b), some (.int (N : Nat)), some (.int (M : Nat)), some (.ref t19), some (.ref t27), some (.ref t35), some (.ref t43), some (.ref tg), some (.ref t54), some (.str kst), some (.ref l73), some (.ref l79), none, none, none, none, none, none, none, none] ?_ rfl | refine st_eq (t := tSeq _ _) [some (.ref b), some (.int (N : Nat)), some (.int (M : Nat)), some (.ref t19), some (.ref t27), some (.ref t35), some (.ref t43), some (.ref tg), some (.ref t54), some (.str kst), some (.ref l73), some (.ref l79), none, none, none, none, none, none, none, none] ?_ rfl
    have ap_l79_l73 := ap_l73_l79.symm
    refine ⟨_, rfl, _, rfl, by omega, by omega, ?_⟩
    rw [show Int.toNat (N : Int) = N by omega]
    refine for_range (n := N) (fun i σ H' => Keep l73 H81 H' ∧ ∃ (fs : List Nat), H' l73 = some (.lst (nv fs)) ∧ MvI (N) ps20 fr fs i ∧ ∃ y_spot : Option V, σ = [some (.ref b), some (.int (N : Nat)), some (.int (M : Nat)), some (.ref t19), some (.ref t27), some (.ref t35), some (.ref t43), some (.ref tg), some (.ref t54), some (.str kst), some (.ref l73), some (.ref l79), y_spot, none, none, none, none, none, none, none]) ⟨Keep.refl _ _, _, e_l73, ⟨by rw [List.length_replicate], fun _ h => absurd h (Nat.not_lt_zero _)⟩, _, rfl⟩ (fun i σ Hi hi hPv => ?_) (fun σ Hi hPv => ?_)
    · obtain ⟨kk, fs, ef, mi, y_spot, rfl⟩ := hPv
      have dj := hp21.d hi
      have e_j := kk.tup e_l73 e_t19
      have e_p := kk _ _ ap_tg_l73 e_tg
      have g1 : atI (nv ps20) ((0 : Int) + (i : Nat)) = some (.int (ps20.getD i 0 : Nat)) := by rw [Int.zero_add]; exact nv_at dj.2.2.2
      have hpl := pm_len pfr
      have g2 : atI (nv fr) ((ps20.getD i 0 : Nat) : Int) = some (.int ((fr).getD (ps20.getD i 0) 0 : Nat)) := nv_at (getD_some (by omega))
      have g3 : atI (nv fr) ((0 : Int) + (i : Nat)) = some (.int ((fr).getD i 0 : Nat)) := by rw [Int.zero_add]; exact nv_at (getD_some (by omega))
      have hli := pm_lt pfr hi
      refine ⟨_, rfl, _, rfl, _, rfl, t19, _, _, _, rfl, rfl, .inl (.inl e_j), g1, tg, _, _, _, rfl, rfl, .inl (.inl e_p), g2, _, rfl, _, rfl, _, rfl, tg, _, _, _, rfl, rfl, .inl (.inl e_p), g3, l73, _, _, (fr).getD i 0, rfl, rfl, ef, ixN_nat (by rw [nv_length, mi.1]; exact hli), fun y z ny hy => ?_, _, ?_, mi.step pfr hi, _, rfl⟩
      · rw [upd_ne ny]; exact kk _ _ ny hy
      · rw [upd_same, nv_set]
    obtain ⟨kk82, fs83, e_new, hMv, y_spot, rfl⟩ := hPv
    have hV84 : Mvd (N) ps20 fr fs83 := ⟨hMv.1, hMv.2⟩
    revert kk82 e_new; generalize Hi = H85; intro kk82 e_new
    replace e_t19 := kk82.tup e_l73 e_t19
    replace e_t27 := kk82.tup e_l73 e_t27
    replace e_t35 := kk82.tup e_l73 e_t35
    replace e_t43 := kk82.tup e_l73 e_t43
    replace e_tg := kk82 _ _ ap_tg_l73 e_tg
    replace e_t54 := kk82 _ _ ap_t54_l73 e_t54
    replace hA_t54 := prs_keep kk82 e_l73 hA_t54
    replace e_l79 := kk82 _ _ ap_l79_l73 e_l79
    replace hB := hB.keep kk82 (show b ≠ l73 from ne_l73.symm)
    replace kH : Keep b H H85 := fun y z ny hy => kk82 y z (fun e => by rw [e, n0_l73] at hy; cases hy) (kH y z ny hy)
    replace e_l73 := e_new
    first | refine st_set [some (.ref b), some (.int (N : Nat)), some (.int (M : Nat)), some (.ref t19), some (.ref t27), some (.ref t35), some (.ref t43), some (.ref tg), some (.ref t54), some (.str kst), some (.ref l73), some (.ref l79), y_spot, none, none, none, none, none, none, none] ?_ rfl | refine st_eq [some (.ref b), some (.int (N : Nat)), some (.int (M : Nat)), some (.ref t19), some (.ref t27), some (.ref t35), some (.ref t43), some (.ref tg), some (.ref t54), some (.str kst), some (.ref l73), some (.ref l79), y_spot, none, none, none, none, none, none, none] ?_ rfl | refine st_eq (t := tSeq _ _) [some (.ref b), some (.int (N : Nat)), some (.int (M : Nat)), some (.ref t19), some (.ref t27), some (.ref t35), some (.ref t43), some (.ref tg), some (.ref t54), some (.str kst), some (.ref l73), some (.ref l79), y_spot, none, none, none, none, none, none, none] ?_ rfl
    refine ⟨_, rfl, _, rfl, tg, rfl, ⟨_, .inl (.inl e_tg)⟩, fun D86 nD86 => ?_⟩
    refine lc_list (xs := nv fr) (fun i H' => Same H85 H' ∧ H' D86 = some (.lst (nv ((fr.map (N + ·)).take i)))) ⟨same_new nD86, upd_same⟩ (fun i H' _ h => .inl (.inl (h.1 _ _ e_tg))) (fun i v H' hv h => ?_) (fun H' h => ?_)
    · obtain ⟨sm, eD⟩ := h
      obtain ⟨z, ez, rfl⟩ := nv_get' hv
      have hil := get_lt ez
      refine ⟨rfl, yes_if ⟨_, rfl, _, rfl, _, _, rfl, rfl, _, eD, ?_, fun y o hy => ?_, ?_⟩⟩
      · rw [nv_length]; exact small1000 (Nat.le_trans (List.length_take_le' _ _) (by rw [List.length_map]; have := pm_len pfr; omega))
      · rw [upd_ne (ne_of_none hy nD86)]; exact sm _ _ hy
      · rw [upd_same]; exact congrArg (fun l => some (HO.lst l)) (add_take ez)
    obtain ⟨s87, e_D86⟩ := h
    rw [nv_length, show fr.length = (fr.map (N + ·)).length from (List.length_map _).symm, List.take_length] at e_D86
    have ne_D86 : D86 ≠ b := (hB.ne_new nD86).symm
    revert s87 e_D86; generalize H' = H88; intro s87 e_D86
    replace e_t19 := s87 _ _ e_t19
    replace e_t27 := s87 _ _ e_t27
    replace e_t35 := s87 _ _ e_t35
    replace e_t43 := s87 _ _ e_t43
    replace e_tg := s87 _ _ e_tg
    replace e_t54 := s87 _ _ e_t54
    replace hA_t54 := prs_same s87 hA_t54
    replace e_l73 := s87 _ _ e_l73
    replace e_l79 := s87 _ _ e_l79
    replace hB := hB.same s87
    replace kH := kH.trans (Keep.of_same s87)
    refine ⟨tg, D86, _, _, rfl, rfl, e_tg, e_D86, ?_, fun l89 nl89 => ?_⟩
    · rw [nv_length, nv_length, List.length_map]; have := pm_len pfr; exact Nat.le_of_lt (small1000 (by omega))
    rw [nv_app, show fr ++ fr.map (N + ·) = pl2 N fr from rfl]
    have ap_l89_l79 : l89 ≠ l79 := (ne_of_none e_l79 nl89).symm
    have ne_l89 : l89 ≠ b := (hB.ne_new nl89).symm
    have s90 : Same H88 (upd H88 l89 (.lst (nv ((pl2 N fr))))) := same_new nl89
    have e_l89 : upd H88 l89 (.lst (nv ((pl2 N fr)))) l89 = some (.lst (nv ((pl2 N fr)))) := upd_same
    revert s90 e_l89; generalize upd H88 l89 (.lst (nv ((pl2 N fr)))) = H91; intro s90 e_l89
    replace e_t19 := s90 _ _ e_t19
    replace e_t27 := s90 _ _ e_t27
    replace e_t35 := s90 _ _ e_t35
    replace e_t43 := s90 _ _ e_t43
    replace e_tg := s90 _ _ e_tg
    replace e_t54 := s90 _ _ e_t54
    replace hA_t54 := prs_same s90 hA_t54
    replace e_l73 := s90 _ _ e_l73
    replace e_l79 := s90 _ _ e_l79
    replace e_D86 := s90 _ _ e_D86
    replace hB := hB.same s90
    replace kH := kH.trans (Keep.of_same s90)
    first | refine st_set [some (.ref b), some (.int (N : Nat)), some (.int (M : Nat)), some (.ref t19), some (.ref t27), some (.ref t35), some (.ref t43), some (.ref tg), some (.ref t54), some (.str kst), some (.ref l73), some (.ref l79), y_spot, some (.ref l89), none, none, none, none, none, none] ?_ rfl | refine st_eq [some (.ref b), some (.int (N : Nat)), some (.int (M : Nat)), some (.ref t19), some (.ref t27), some (.ref t35), some (.ref t43), some (.ref tg), some (.ref t54), some (.str kst), some (.ref l73), some (.ref l79), y_spot, some (.ref l89), none, none, none, none, none, none] ?_ rfl | refine st_eq (t := tSeq _ _) [some (.ref b), some (.int (N : Nat)), some (.int (M : Nat)), some (.ref t19), some (.ref t27), some (.ref t35), some (.ref t43), some (.ref tg), some (.ref t54), some (.str kst), some (.ref l73), some (.ref l79), y_spot, some (.ref l89), none, none, none, none, none, none] ?_ rfl
    refine ⟨_, rfl, 2, _, rfl, rfl, .inl ⟨by decide, by decide⟩, _, rfl, by omega, by omega, ?_⟩
    rw [show Int.toNat (2 * (N : Int)) = 2 * N by omega]
    refine for_range (n := 2 * N) (fun i σ H' => Keep l79 H91 H' ∧ ∃ (fs : List Nat), H' l79 = some (.lst (nv fs)) ∧ MvI (2 * N) ps36 (pl2 N fr) fs i ∧ ∃ y_end : Option V, σ = [some (.ref b), some (.int (N : Nat)), some (.int (M : Nat)), some (.ref t19), some (.ref t27), some (.ref t35), some (.ref t43), some (.ref tg), some (.ref t54), some (.str kst), some (.ref l73), some (.ref l79), y_spot, some (.ref l89), y_end, none, none, none, none, none]) ⟨Keep.refl _ _, _, e_l79, ⟨by rw [List.length_replicate], fun _ h => absurd h (Nat.not_lt_zero _)⟩, _, rfl⟩ (fun i σ Hi hi hPv => ?_) (fun σ Hi hPv => ?_)
    · obtain ⟨kk, fs, ef, mi, y_end, rfl⟩ := hPv
      have dj := hp37.d hi
      have e_j := kk.tup e_l79 e_t35
      have e_p := kk _ _ ap_l89_l79 e_l89
      have g1 : atI (nv ps36) ((0 : Int) + (i : Nat)) = some (.int (ps36.getD i 0 : Nat)) := by rw [Int.zero_add]; exact nv_at dj.2.2.2
      have hpl := pm_len (pl2_perm pfr)
      have g2 : atI (nv (pl2 N fr)) ((ps36.getD i 0 : Nat) : Int) = some (.int (((pl2 N fr)).getD (ps36.getD i 0) 0 : Nat)) := nv_at (getD_some (by omega))
      have g3 : atI (nv (pl2 N fr)) ((0 : Int) + (i : Nat)) = some (.int (((pl2 N fr)).getD i 0 : Nat)) := by rw [Int.zero_add]; exact nv_at (getD_some (by omega))
      have hli := pm_lt (pl2_perm pfr) hi
      refine ⟨_, rfl, _, rfl, _, rfl, t35, _, _, _, rfl, rfl, .inl (.inl e_j), g1, l89, _, _, _, rfl, rfl, .inl (.inl e_p), g2, _, rfl, _, rfl, _, rfl, l89, _, _, _, rfl, rfl, .inl (.inl e_p), g3, l79, _, _, ((pl2 N fr)).getD i 0, rfl, rfl, ef, ixN_nat (by rw [nv_length, mi.1]; exact hli), fun y z ny hy => ?_, _, ?_, mi.step (pl2_perm pfr) hi, _, rfl⟩
      · rw [upd_ne ny]; exact kk _ _ ny hy
      · rw [upd_same, nv_set]
    obtain ⟨kk92, fs93, e_new, hMv, y_end, rfl⟩ := hPv
    have hV94 : Mvd (2 * N) ps36 (pl2 N fr) fs93 := ⟨hMv.1, hMv.2⟩
    revert kk92 e_new; generalize Hi = H95; intro kk92 e_new
    replace e_t19 := kk92.tup e_l79 e_t19
    replace e_t27 := kk92.tup e_l79 e_t27
    replace e_t35 := kk92.tup e_l79 e_t35
    replace e_t43 := kk92.tup e_l79 e_t43
    replace e_tg := kk92 _ _ ap_tg_l79 e_tg
    replace e_t54 := kk92 _ _ ap_t54_l79 e_t54
    replace hA_t54 := prs_keep kk92 e_l79 hA_t54
    replace e_l73 := kk92 _ _ ap_l73_l79 e_l73
    replace e_l89 := kk92 _ _ ap_l89_l79 e_l89
    replace hB := hB.keep kk92 (show b ≠ l79 from ne_l79.symm)
    replace kH : Keep b H H95 := fun y z ny hy => kk92 y z (fun e => by rw [e, n0_l79] at hy; cases hy) (kH y z ny hy)
    replace e_l79 := e_new
    first | refine st_set [some (.ref b), some (.int (N : Nat)), some (.int (M : Nat)), some (.ref t19), some (.ref t27), some (.ref t35), some (.ref t43), some (.ref tg), some (.ref t54), some (.str kst), some (.ref l73), some (.ref l79), y_spot, some (.ref l89), y_end, none, none, none, none, none] ?_ rfl | refine st_eq [some (.ref b), some (.int (N : Nat)), some (.int (M : Nat)), some (.ref t19), some (.ref t27), some (.ref t35), some (.ref t43), some (.ref tg), some (.ref t54), some (.str kst), some (.ref l73), some (.ref l79), y_spot, some (.ref l89), y_end, none, none, none, none, none] ?_ rfl | refine st_eq (t := tSeq _ _) [some (.ref b), some (.int (N : Nat)), some (.int (M : Nat)), some (.ref t19), some (.ref t27), some (.ref t35), some (.ref t43), some (.ref tg), some (.ref t54), some (.str kst), some (.ref l73), some (.ref l79), y_spot, some (.ref l89), y_end, none, none, none, none, none] ?_ rfl
    refine ⟨_, rfl, t54, rfl, ⟨_, .inl (.inl e_t54)⟩, fun D96 nD96 => ?_⟩
    refine lc_list (xs := as55.map V.ref) (fun i H' => Same H95 H' ∧ ∃ es : List Addr, H' D96 = some (.lst (es.map V.ref)) ∧ Prs H' es ((wrn fr qs56).take i)) ⟨same_new nD96, [], upd_same, .nil⟩ (fun i H' _ h => .inl (.inl (h.1 _ _ e_t54))) (fun i v H' hv h => ?_) (fun H' h => ?_)
    · obtain ⟨sm, es, eD, hE⟩ := h
      rw [List.getElem?_map] at hv
      obtain ⟨u, hu, rfl⟩ := Option.map_eq_some_iff.mp hv
      obtain ⟨r, hr', exu⟩ := prs_get hA_t54 hu
      have hcr := hc57 r (List.mem_of_getElem? hr')
      have hpl := pm_len pfr
      have g1 : atI (nv fr) (r.1 : Int) = some (.int (fr.getD r.1 0 : Nat)) := nv_at (getD_some (by omega))
      have g2 : atI (nv fr) (r.2 : Int) = some (.int (fr.getD r.2 0 : Nat)) := nv_at (getD_some (by omega))
      have ef : SqL K H' tg (nv fr) := .inl (.inl (sm _ _ e_tg))
      refine ⟨u, _, rfl, .inl (.inl (sm _ _ exu)), rfl, _, _, rfl, _, _, rfl, rfl, rfl, yes_if ⟨_, rfl, _, rfl, tg, _, _, _, rfl, rfl, ef, g1, _, rfl, _, rfl, tg, _, _, _, rfl, rfl, ef, g2, _, _, rfl, _, rfl, _, rfl, tg, _, _, _, rfl, rfl, ef, g1, _, rfl, _, rfl, tg, _, _, _, rfl, rfl, ef, g2, _, _, rfl, by show 2 ≤ sizeLine; decide, fun z nz => ?_⟩⟩
      rw [min_v, max_v]
      refine ⟨_, same_new nz _ _ eD, ?_, fun y o hy => ?_, es ++ [z], ?_, ?_⟩
      · rw [List.length_map, hE.length]; exact small1000 (Nat.le_trans (List.length_take_le' _ _) (by rw [wrn_len]; omega))
      · rw [upd_ne (ne_of_none hy nD96)]; exact same_new nz _ _ (sm _ _ hy)
      · rw [upd_same, List.map_append]; rfl
      · have zD : z ≠ D96 := fun e => by rw [e, eD] at nz; cases nz
        rw [wrn_take hr']
        refine prs_append (prs_keep (b := D96) keep_upd (same_new nz _ _ eD) (prs_same (same_new nz) hE)) (.cons ?_ .nil)
        rw [upd_ne zD, upd_same]
    obtain ⟨s97, es99, e_D96, hA_D96⟩ := h
    rw [List.length_map, hA_t54.length, ← wrn_len fr qs56, List.take_length] at hA_D96
    have ne_D96 : D96 ≠ b := (hB.ne_new nD96).symm
    revert s97 e_D96 hA_D96; generalize H' = H98; intro s97 e_D96 hA_D96
    replace e_t19 := s97 _ _ e_t19
    replace e_t27 := s97 _ _ e_t27
    replace e_t35 := s97 _ _ e_t35
    replace e_t43 := s97 _ _ e_t43
    replace e_tg := s97 _ _ e_tg
    replace e_t54 := s97 _ _ e_t54
    replace hA_t54 := prs_same s97 hA_t54
    replace e_l73 := s97 _ _ e_l73
    replace e_l79 := s97 _ _ e_l79
    replace hB := hB.same s97
    replace kH := kH.trans (Keep.of_same s97)
    first | refine st_set [some (.ref b), some (.int (N : Nat)), some (.int (M : Nat)), some (.ref t19), some (.ref t27), some (.ref t35), some (.ref t43), some (.ref tg), some (.ref t54), some (.str kst), some (.ref l73), some (.ref l79), y_spot, some (.ref l89), y_end, some (.ref D96), none, none, none, none] ?_ rfl | refine st_eq [some (.ref b), some (.int (N : Nat)), some (.int (M : Nat)), some (.ref t19), some (.ref t27), some (.ref t35), some (.ref t43), some (.ref tg), some (.ref t54), some (.str kst), some (.ref l73), some (.ref l79), y_spot, some (.ref l89), y_end, some (.ref D96), none, none, none, none] ?_ rfl | refine st_eq (t := tSeq _ _) [some (.ref b), some (.int (N : Nat)), some (.int (M : Nat)), some (.ref t19), some (.ref t27), some (.ref t35), some (.ref t43), some (.ref tg), some (.ref t54), some (.str kst), some (.ref l73), some (.ref l79), y_spot, some (.ref l89), y_end, some (.ref D96), none, none, none, none] ?_ rfl
    refine ⟨_, rfl, _, rfl, tg, _, rfl, .inl ⟨.inl (.inl e_tg), fun l100 nl100 => ?_⟩⟩
    have s101 : Same H98 (upd H98 l100 (.tup (nv (fr)))) := same_new nl100
    have e_l100 : upd H98 l100 (.tup (nv (fr))) l100 = some (.tup (nv (fr))) := upd_same
    revert s101 e_l100; generalize upd H98 l100 (.tup (nv (fr))) = H102; intro s101 e_l100
    replace e_t19 := s101 _ _ e_t19
    replace e_t27 := s101 _ _ e_t27
    replace e_t35 := s101 _ _ e_t35
    replace e_t43 := s101 _ _ e_t43
    replace e_tg := s101 _ _ e_tg
    replace e_t54 := s101 _ _ e_t54
    replace hA_t54 := prs_same s101 hA_t54
    replace e_l73 := s101 _ _ e_l73
    replace e_l79 := s101 _ _ e_l79
    replace e_D96 := s101 _ _ e_D96
    replace hA_D96 := prs_same s101 hA_D96
    replace hB := hB.same s101
    replace kH := kH.trans (Keep.of_same s101)
    refine ⟨t19, l100, ps20, fr, N, rfl, .inr (.inl (.inl e_t19)), .inr (.inl (.inl e_l100)), pfr, hp21.len, hp21.lt, by omega, fun H103 t104 r105 hM106 s107 n108 e_t104 => ?_⟩
    replace e_t19 := s107 _ _ e_t19
    replace e_t27 := s107 _ _ e_t27
    replace e_t35 := s107 _ _ e_t35
    replace e_t43 := s107 _ _ e_t43
    replace e_tg := s107 _ _ e_tg
    replace e_t54 := s107 _ _ e_t54
    replace hA_t54 := prs_same s107 hA_t54
    replace e_l73 := s107 _ _ e_l73
    replace e_l79 := s107 _ _ e_l79
    replace e_D96 := s107 _ _ e_D96
    replace hA_D96 := prs_same s107 hA_D96
    replace e_l100 := s107 _ _ e_l100
    replace hB := hB.same s107
    replace kH := kH.trans (Keep.of_same s107)
    rw [hM106.det pfr hV84] at e_t104
    refine ⟨_, rfl, _, rfl, tg, _, rfl, .inl ⟨.inl (.inl e_tg), fun l109 nl109 => ?_⟩⟩
    have s110 : Same H103 (upd H103 l109 (.tup (nv (fr)))) := same_new nl109
    have e_l109 : upd H103 l109 (.tup (nv (fr))) l109 = some (.tup (nv (fr))) := upd_same
    revert s110 e_l109; generalize upd H103 l109 (.tup (nv (fr))) = H111; intro s110 e_l109
    replace e_t19 := s110 _ _ e_t19
    replace e_t27 := s110 _ _ e_t27
    replace e_t35 := s110 _ _ e_t35
    replace e_t43 := s110 _ _ e_t43
    replace e_tg := s110 _ _ e_tg
    replace e_t54 := s110 _ _ e_t54
    replace hA_t54 := prs_same s110 hA_t54
    replace e_l73 := s110 _ _ e_l73
    replace e_l79 := s110 _ _ e_l79
    replace e_D96 := s110 _ _ e_D96
    replace hA_D96 := prs_same s110 hA_D96
    replace e_l100 := s110 _ _ e_l100
    replace e_t104 := s110 _ _ e_t104
    replace hB := hB.same s110
    replace kH := kH.trans (Keep.of_same s110)
    refine ⟨t35, l109, ps36, fr, N, rfl, .inr (.inl (.inl e_t35)), .inr (.inl (.inl e_l109)), hp37, pfr, by omega, fun H112 t113 r114 hM115 s116 n117 e_t113 => ?_⟩
    replace e_t19 := s116 _ _ e_t19
    replace e_t27 := s116 _ _ e_t27
    replace e_t35 := s116 _ _ e_t35
    replace e_t43 := s116 _ _ e_t43
    replace e_tg := s116 _ _ e_tg
    replace e_t54 := s116 _ _ e_t54
    replace hA_t54 := prs_same s116 hA_t54
    replace e_l73 := s116 _ _ e_l73
    replace e_l79 := s116 _ _ e_l79
    replace e_D96 := s116 _ _ e_D96
    replace hA_D96 := prs_same s116 hA_D96
    replace e_l100 := s116 _ _ e_l100
    replace e_t104 := s116 _ _ e_t104
    replace e_l109 := s116 _ _ e_l109
    replace hB := hB.same s116
    replace kH := kH.trans (Keep.of_same s116)
    rw [hM115.det (pl2_perm pfr) hV94] at e_t113
    refine ⟨_, rfl, _, rfl, tg, _, rfl, .inl ⟨.inl (.inl e_tg), fun l118 nl118 => ?_⟩⟩
    have s119 : Same H112 (upd H112 l118 (.tup (nv (fr)))) := same_new nl118
    have e_l118 : upd H112 l118 (.tup (nv (fr))) l118 = some (.tup (nv (fr))) := upd_same
    revert s119 e_l118; generalize upd H112 l118 (.tup (nv (fr))) = H120; intro s119 e_l118
    replace e_t19 := s119 _ _ e_t19
    replace e_t27 := s119 _ _ e_t27
    replace e_t35 := s119 _ _ e_t35
    replace e_t43 := s119 _ _ e_t43
    replace e_tg := s119 _ _ e_tg
    replace e_t54 := s119 _ _ e_t54
    replace hA_t54 := prs_same s119 hA_t54
    replace e_l73 := s119 _ _ e_l73
    replace e_l79 := s119 _ _ e_l79
    replace e_D96 := s119 _ _ e_D96
    replace hA_D96 := prs_same s119 hA_D96
    replace e_l100 := s119 _ _ e_l100
    replace e_t104 := s119 _ _ e_t104
    replace e_l109 := s119 _ _ e_l109
    replace e_t113 := s119 _ _ e_t113
    replace hB := hB.same s119
    replace kH := kH.trans (Keep.of_same s119)
    refine ⟨t54, l118, as55, qs56, fr, N, rfl, .inl (.inl (.inl e_t54)), hA_t54, hc57, .inr (.inl (.inl e_l118)), pm_len pfr, by omega, by omega, fun H121 t122 bs123 s124 n125 e_t122 hA_t122 => ?_⟩
    have ne_t122 : t122 ≠ b := (hB.ne_new n125).symm
    replace e_t19 := s124 _ _ e_t19
    replace e_t27 := s124 _ _ e_t27
    replace e_t35 := s124 _ _ e_t35
    replace e_t43 := s124 _ _ e_t43
    replace e_tg := s124 _ _ e_tg
    replace e_t54 := s124 _ _ e_t54
    replace hA_t54 := prs_same s124 hA_t54
    replace e_l73 := s124 _ _ e_l73
    replace e_l79 := s124 _ _ e_l79
    replace e_D96 := s124 _ _ e_D96
    replace hA_D96 := prs_same s124 hA_D96
    replace e_l100 := s124 _ _ e_l100
    replace e_t104 := s124 _ _ e_t104
    replace e_l109 := s124 _ _ e_l109
    replace e_t113 := s124 _ _ e_t113
    replace e_l118 := s124 _ _ e_l118
    replace hB := hB.same s124
    replace kH := kH.trans (Keep.of_same s124)
    refine ⟨(by show 3 ≤ sizeLine; decide), fun l126 nl126 => ?_⟩
    have ne_l126 : l126 ≠ b := (hB.ne_new nl126).symm
    have s127 : Same H121 (upd H121 l126 (.lst [.ref t104, .ref t113, .ref t122])) := same_new nl126
    have e_l126 : upd H121 l126 (.lst [.ref t104, .ref t113, .ref t122]) l126 = some (.lst [.ref t104, .ref t113, .ref t122]) := upd_same
    revert s127 e_l126; generalize upd H121 l126 (.lst [.ref t104, .ref t113, .ref t122]) = H128; intro s127 e_l126
    replace e_t19 := s127 _ _ e_t19
    replace e_t27 := s127 _ _ e_t27
    replace e_t35 := s127 _ _ e_t35
    replace e_t43 := s127 _ _ e_t43
    replace e_tg := s127 _ _ e_tg
    replace e_t54 := s127 _ _ e_t54
    replace hA_t54 := prs_same s127 hA_t54
    replace e_l73 := s127 _ _ e_l73
    replace e_l79 := s127 _ _ e_l79
    replace e_D96 := s127 _ _ e_D96
    replace hA_D96 := prs_same s127 hA_D96
    replace e_l100 := s127 _ _ e_l100
    replace e_t104 := s127 _ _ e_t104
    replace e_l109 := s127 _ _ e_l109
    replace e_t113 := s127 _ _ e_t113
    replace e_l118 := s127 _ _ e_l118
    replace e_t122 := s127 _ _ e_t122
    replace hA_t122 := prs_same s127 hA_t122
    replace hB := hB.same s127
    replace kH := kH.trans (Keep.of_same s127)
    first | refine st_set [some (.ref b), some (.int (N : Nat)), some (.int (M : Nat)), some (.ref t19), some (.ref t27), some (.ref t35), some (.ref t43), some (.ref tg), some (.ref t54), some (.str kst), some (.ref l73), some (.ref l79), y_spot, some (.ref l89), y_end, some (.ref D96), some (.ref l126), none, none, none] ?_ rfl | refine st_eq [some (.ref b), some (.int (N : Nat)), some (.int (M : Nat)), some (.ref t19), some (.ref t27), some (.ref t35), some (.ref t43), some (.ref tg), some (.ref t54), some (.str kst), some (.ref l73), some (.ref l79), y_spot, some (.ref l89), y_end, some (.ref D96), some (.ref l126), none, none, none] ?_ rfl | refine st_eq (t := tSeq _ _) [some (.ref b), some (.int (N : Nat)), some (.int (M : Nat)), some (.ref t19), some (.ref t27), some (.ref t35), some (.ref t43), some (.ref tg), some (.ref t54), some (.str kst), some (.ref l73), some (.ref l79), y_spot, some (.ref l89), y_end, some (.ref D96), some (.ref l126), none, none, none] ?_ rfl
    refine ⟨_, rfl, _, rfl, l73, _, rfl, .inl ⟨.inl (.inl e_l73), fun l129 nl129 => ?_⟩⟩
    have s130 : Same H128 (upd H128 l129 (.tup (nv (fs83)))) := same_new nl129
    have e_l129 : upd H128 l129 (.tup (nv (fs83))) l129 = some (.tup (nv (fs83))) := upd_same
    revert s130 e_l129; generalize upd H128 l129 (.tup (nv (fs83))) = H131; intro s130 e_l129
    replace e_t19 := s130 _ _ e_t19
    replace e_t27 := s130 _ _ e_t27
    replace e_t35 := s130 _ _ e_t35
    replace e_t43 := s130 _ _ e_t43
    replace e_tg := s130 _ _ e_tg
    replace e_t54 := s130 _ _ e_t54
    replace hA_t54 := prs_same s130 hA_t54
    replace e_l73 := s130 _ _ e_l73
    replace e_l79 := s130 _ _ e_l79
    replace e_D96 := s130 _ _ e_D96
    replace hA_D96 := prs_same s130 hA_D96
    replace e_l100 := s130 _ _ e_l100
    replace e_t104 := s130 _ _ e_t104
    replace e_l109 := s130 _ _ e_l109
    replace e_t113 := s130 _ _ e_t113
    replace e_l118 := s130 _ _ e_l118
    replace e_t122 := s130 _ _ e_t122
    replace hA_t122 := prs_same s130 hA_t122
    replace e_l126 := s130 _ _ e_l126
    replace hB := hB.same s130
    replace kH := kH.trans (Keep.of_same s130)
    refine ⟨_, rfl, l79, _, rfl, .inl ⟨.inl (.inl e_l79), fun l132 nl132 => ?_⟩⟩
    have s133 : Same H131 (upd H131 l132 (.tup (nv (fs93)))) := same_new nl132
    have e_l132 : upd H131 l132 (.tup (nv (fs93))) l132 = some (.tup (nv (fs93))) := upd_same
    revert s133 e_l132; generalize upd H131 l132 (.tup (nv (fs93))) = H134; intro s133 e_l132
    replace e_t19 := s133 _ _ e_t19
    replace e_t27 := s133 _ _ e_t27
    replace e_t35 := s133 _ _ e_t35
    replace e_t43 := s133 _ _ e_t43
    replace e_tg := s133 _ _ e_tg
    replace e_t54 := s133 _ _ e_t54
    replace hA_t54 := prs_same s133 hA_t54
    replace e_l73 := s133 _ _ e_l73
    replace e_l79 := s133 _ _ e_l79
    replace e_D96 := s133 _ _ e_D96
    replace hA_D96 := prs_same s133 hA_D96
    replace e_l100 := s133 _ _ e_l100
    replace e_t104 := s133 _ _ e_t104
    replace e_l109 := s133 _ _ e_l109
    replace e_t113 := s133 _ _ e_t113
    replace e_l118 := s133 _ _ e_l118
    replace e_t122 := s133 _ _ e_t122
    replace hA_t122 := prs_same s133 hA_t122
    replace e_l126 := s133 _ _ e_l126
    replace e_l129 := s133 _ _ e_l129
    replace hB := hB.same s133
    replace kH := kH.trans (Keep.of_same s133)
    refine ⟨_, rfl, (by show 3 ≤ sizeLine; decide), fun l135 nl135 => ?_⟩
    have ne_l135 : l135 ≠ b := (hB.ne_new nl135).symm
    have s136 : Same H134 (upd H134 l135 (.lst [.ref l129, .ref l132, .ref D96])) := same_new nl135
    have e_l135 : upd H134 l135 (.lst [.ref l129, .ref l132, .ref D96]) l135 = some (.lst [.ref l129, .ref l132, .ref D96]) := upd_same
    revert s136 e_l135; generalize upd H134 l135 (.lst [.ref l129, .ref l132, .ref D96]) = H137; intro s136 e_l135
    replace e_t19 := s136 _ _ e_t19
    replace e_t27 := s136 _ _ e_t27
    replace e_t35 := s136 _ _ e_t35
    replace e_t43 := s136 _ _ e_t43
    replace e_tg := s136 _ _ e_tg
    replace e_t54 := s136 _ _ e_t54
    replace hA_t54 := prs_same s136 hA_t54
    replace e_l73 := s136 _ _ e_l73
    replace e_l79 := s136 _ _ e_l79
    replace e_D96 := s136 _ _ e_D96
    replace hA_D96 := prs_same s136 hA_D96
    replace e_l100 := s136 _ _ e_l100
    replace e_t104 := s136 _ _ e_t104
    replace e_l109 := s136 _ _ e_l109
    replace e_t113 := s136 _ _ e_t113
    replace e_l118 := s136 _ _ e_l118
    replace e_t122 := s136 _ _ e_t122
    replace hA_t122 := prs_same s136 hA_t122
    replace e_l126 := s136 _ _ e_l126
    replace e_l129 := s136 _ _ e_l129
    replace e_l132 := s136 _ _ e_l132
    replace hB := hB.same s136
    replace kH := kH.trans (Keep.of_same s136)
    have fk138 : Fi 3 (.list [td (fs83), td (fs93), .list (((wrn fr qs56)).map pd)]) := fi_list (j := 2) (n := 3) (fa_cons ((fi_tup (hV84.pair pfr hp21) (by omega)).up) (fa_cons ((fi_tup (hV94.pair (pl2_perm pfr) hp37) (by omega)).up) (fa_cons (fi_prs (wrn_b pfr hc57 (by omega) (by omega))) fa_nil))) rfl (by decide)
    refine ⟨_, _, _, rfl, .lst (.inl (.inl e_l126)) (.cons (.tup (.inl (.inl e_t104)) (dp_nats _)) (.cons (.tup (.inl (.inl e_t113)) (dp_nats _)) (.cons (.lst (.inl (.inl e_t122)) (prs_dp hA_t122)) .nil))), .lst (.inl (.inl e_l135)) (.cons (.tup (.inl (.inl e_l129)) (dp_nats _)) (.cons (.tup (.inl (.inl e_l132)) (dp_nats _)) (.cons (.lst (.inl (.inl e_D96)) (prs_dp hA_D96)) .nil))), Nat.lt_succ_of_le (Nat.le_trans fk138.depth (by decide)), fk138.nar, fun H139 s140 => ?_⟩
    replace e_t19 := s140 _ _ e_t19
    replace e_t27 := s140 _ _ e_t27
    replace e_t35 := s140 _ _ e_t35
    replace e_t43 := s140 _ _ e_t43
    replace e_tg := s140 _ _ e_tg
    replace e_t54 := s140 _ _ e_t54
    replace hA_t54 := prs_same s140 hA_t54
    replace e_l73 := s140 _ _ e_l73
    replace e_l79 := s140 _ _ e_l79
    replace e_D96 := s140 _ _ e_D96
    replace hA_D96 := prs_same s140 hA_D96
    replace e_l100 := s140 _ _ e_l100
    replace e_t104 := s140 _ _ e_t104
    replace e_l109 := s140 _ _ e_l109
    replace e_t113 := s140 _ _ e_t113
    replace e_l118 := s140 _ _ e_l118
    replace e_t122 := s140 _ _ e_t122
    replace hA_t122 := prs_same s140 hA_t122
    replace e_l126 := s140 _ _ e_l126
    replace e_l129 := s140 _ _ e_l129
    replace e_l132 := s140 _ _ e_l132
    replace e_l135 := s140 _ _ e_l135
    replace hB := hB.same s140
    replace kH := kH.trans (Keep.of_same s140)
    refine ⟨true, rfl, iteN ?_⟩
    refine ⟨_, rfl, _, rfl, t19, _, rfl, .inr (.inl (.inl e_t19)), fun l141 nl141 => ?_⟩
    have ne_l141 : l141 ≠ b := (hB.ne_new nl141).symm
    have s142 : Same H139 (upd H139 l141 (.lst (nv (ps20)))) := same_new nl141
    have e_l141 : upd H139 l141 (.lst (nv (ps20))) l141 = some (.lst (nv (ps20))) := upd_same
    revert s142 e_l141; generalize upd H139 l141 (.lst (nv (ps20))) = H143; intro s142 e_l141
    replace e_t19 := s142 _ _ e_t19
    replace e_t27 := s142 _ _ e_t27
    replace e_t35 := s142 _ _ e_t35
    replace e_t43 := s142 _ _ e_t43
    replace e_tg := s142 _ _ e_tg
    replace e_t54 := s142 _ _ e_t54
    replace hA_t54 := prs_same s142 hA_t54
    replace e_l73 := s142 _ _ e_l73
    replace e_l79 := s142 _ _ e_l79
    replace e_D96 := s142 _ _ e_D96
    replace hA_D96 := prs_same s142 hA_D96
    replace hB := hB.same s142
    replace kH := kH.trans (Keep.of_same s142)
    refine ⟨rfl, l141, tg, ps20, fr, N, rfl, .inl (.inl (.inl e_l141)), .inl (.inl (.inl e_tg)), pfr, hp21.len, hp21.lt, by omega, fun H144 t145 r146 hM147 s148 n149 e_t145 => ?_⟩
    replace e_t19 := s148 _ _ e_t19
    replace e_t27 := s148 _ _ e_t27
    replace e_t35 := s148 _ _ e_t35
    replace e_t43 := s148 _ _ e_t43
    replace e_tg := s148 _ _ e_tg
    replace e_t54 := s148 _ _ e_t54
    replace hA_t54 := prs_same s148 hA_t54
    replace e_l73 := s148 _ _ e_l73
    replace e_l79 := s148 _ _ e_l79
    replace e_D96 := s148 _ _ e_D96
    replace hA_D96 := prs_same s148 hA_D96
    replace e_l141 := s148 _ _ e_l141
    replace hB := hB.same s148
    replace kH := kH.trans (Keep.of_same s148)
    rw [hM147.det pfr hV84] at e_t145
    refine ⟨_, rfl, _, rfl, t35, _, rfl, .inr (.inl (.inl e_t35)), fun l150 nl150 => ?_⟩
    have ne_l150 : l150 ≠ b := (hB.ne_new nl150).symm
    have s151 : Same H144 (upd H144 l150 (.lst (nv (ps36)))) := same_new nl150
    have e_l150 : upd H144 l150 (.lst (nv (ps36))) l150 = some (.lst (nv (ps36))) := upd_same
    revert s151 e_l150; generalize upd H144 l150 (.lst (nv (ps36))) = H152; intro s151 e_l150
    replace e_t19 := s151 _ _ e_t19
    replace e_t27 := s151 _ _ e_t27
    replace e_t35 := s151 _ _ e_t35
    replace e_t43 := s151 _ _ e_t43
    replace e_tg := s151 _ _ e_tg
    replace e_t54 := s151 _ _ e_t54
    replace hA_t54 := prs_same s151 hA_t54
    replace e_l73 := s151 _ _ e_l73
    replace e_l79 := s151 _ _ e_l79
    replace e_D96 := s151 _ _ e_D96
    replace hA_D96 := prs_same s151 hA_D96
    replace e_l141 := s151 _ _ e_l141
    replace e_t145 := s151 _ _ e_t145
    replace hB := hB.same s151
    replace kH := kH.trans (Keep.of_same s151)
    refine ⟨rfl, l150, tg, ps36, fr, N, rfl, .inl (.inl (.inl e_l150)), .inl (.inl (.inl e_tg)), hp37, pfr, by omega, fun H153 t154 r155 hM156 s157 n158 e_t154 => ?_⟩
    replace e_t19 := s157 _ _ e_t19
    replace e_t27 := s157 _ _ e_t27
    replace e_t35 := s157 _ _ e_t35
    replace e_t43 := s157 _ _ e_t43
    replace e_tg := s157 _ _ e_tg
    replace e_t54 := s157 _ _ e_t54
    replace hA_t54 := prs_same s157 hA_t54
    replace e_l73 := s157 _ _ e_l73
    replace e_l79 := s157 _ _ e_l79
    replace e_D96 := s157 _ _ e_D96
    replace hA_D96 := prs_same s157 hA_D96
    replace e_l141 := s157 _ _ e_l141
    replace e_t145 := s157 _ _ e_t145
    replace e_l150 := s157 _ _ e_l150
    replace hB := hB.same s157
    replace kH := kH.trans (Keep.of_same s157)
    rw [hM156.det (pl2_perm pfr) hV94] at e_t154
    refine ⟨(by show 2 ≤ sizeLine; decide), fun l159 nl159 => ?_⟩
    have apf_tg : tg ≠ l159 := ne_of_none e_tg nl159
    have apf_t54 : t54 ≠ l159 := ne_of_none e_t54 nl159
    have apf_l73 : l73 ≠ l159 := ne_of_none e_l73 nl159
    have apf_l79 : l79 ≠ l159 := ne_of_none e_l79 nl159
    have apf_D96 : D96 ≠ l159 := ne_of_none e_D96 nl159
    have apf_l141 : l141 ≠ l159 := ne_of_none e_l141 nl159
    have apf_l150 : l150 ≠ l159 := ne_of_none e_l150 nl159
    have nf0 : H l159 = none := keep_freeE kH hB nl159
    have ne_l159 : l159 ≠ b := (hB.ne_new nl159).symm
    have s160 : Same H153 (upd H153 l159 (.lst [.ref t145, .ref t154])) := same_new nl159
    have e_l159 : upd H153 l159 (.lst [.ref t145, .ref t154]) l159 = some (.lst [.ref t145, .ref t154]) := upd_same
    revert s160 e_l159; generalize upd H153 l159 (.lst [.ref t145, .ref t154]) = H161; intro s160 e_l159
    replace e_t19 := s160 _ _ e_t19
    replace e_t27 := s160 _ _ e_t27
    replace e_t35 := s160 _ _ e_t35
    replace e_t43 := s160 _ _ e_t43
    replace e_tg := s160 _ _ e_tg
    replace e_t54 := s160 _ _ e_t54
    replace hA_t54 := prs_same s160 hA_t54
    replace e_l73 := s160 _ _ e_l73
    replace e_l79 := s160 _ _ e_l79
    replace e_D96 := s160 _ _ e_D96
    replace hA_D96 := prs_same s160 hA_D96
    replace e_l141 := s160 _ _ e_l141
    replace e_t145 := s160 _ _ e_t145
    replace e_l150 := s160 _ _ e_l150
    replace e_t154 := s160 _ _ e_t154
    replace hB := hB.same s160
    replace kH := kH.trans (Keep.of_same s160)
    first | refine st_set [some (.ref b), some (.int (N : Nat)), some (.int (M : Nat)), some (.ref t19), some (.ref t27), some (.ref t35), some (.ref t43), some (.ref tg), some (.ref t54), some (.str kst), some (.ref l73), some (.ref l79), y_spot, some (.ref l89), y_end, some (.ref D96), some (.ref l159), none, none, none] ?_ rfl | refine st_eq [some (.ref b), some (.int (N : Nat)), some (.int (M : Nat)), some (.ref t19), some (.ref t27), some (.ref t35), some (.ref t43), some (.ref tg), some (.ref t54), some (.str kst), some (.ref l73), some (.ref l79), y_spot, some (.ref l89), y_end, some (.ref D96), some (.ref l159), none, none, none] ?_ rfl | refine st_eq (t := tSeq _ _) [some (.ref b), some (.int (N : Nat)), some (.int (M : Nat)), some (.ref t19), some (.ref t27), some (.ref t35), some (.ref t43), some (.ref tg), some (.ref t54), some (.str kst), some (.ref l73), some (.ref l79), y_spot, some (.ref l89), y_end, some (.ref D96), some (.ref l159), none, none, none] ?_ rfl
    refine ⟨_, rfl, .inl ⟨rfl, _, .inl (.inl e_l159)⟩, _, rfl, _, rfl, t54, _, rfl, .inl ⟨.inl (.inl e_t54), fun l162 nl162 => ?_⟩⟩
    have s163 : Same H161 (upd H161 l162 (.tup (as55.map V.ref))) := same_new nl162
    have e_l162 : upd H161 l162 (.tup (as55.map V.ref)) l162 = some (.tup (as55.map V.ref)) := upd_same
    revert s163 e_l162; generalize upd H161 l162 (.tup (as55.map V.ref)) = H164; intro s163 e_l162
    replace e_t19 := s163 _ _ e_t19
    replace e_t27 := s163 _ _ e_t27
    replace e_t35 := s163 _ _ e_t35
    replace e_t43 := s163 _ _ e_t43
    replace e_tg := s163 _ _ e_tg
    replace e_t54 := s163 _ _ e_t54
    replace hA_t54 := prs_same s163 hA_t54
    replace e_l73 := s163 _ _ e_l73
    replace e_l79 := s163 _ _ e_l79
    replace e_D96 := s163 _ _ e_D96
    replace hA_D96 := prs_same s163 hA_D96
    replace e_t145 := s163 _ _ e_t145
    replace e_t154 := s163 _ _ e_t154
    replace e_l159 := s163 _ _ e_l159
    replace hB := hB.same s163
    replace kH := kH.trans (Keep.of_same s163)
    refine ⟨rfl, l162, tg, as55, qs56, fr, N, rfl, .inr (.inl (.inl e_l162)), hA_t54, hc57, .inl (.inl (.inl e_tg)), pm_len pfr, by omega, by omega, fun H165 t166 bs167 s168 n169 e_t166 hA_t166 => ?_⟩
    have ne_t166 : t166 ≠ b := (hB.ne_new n169).symm
    have apw : t166 ≠ l159 := (ne_of_none e_l159 n169).symm
    replace e_t19 := s168 _ _ e_t19
    replace e_t27 := s168 _ _ e_t27
    replace e_t35 := s168 _ _ e_t35
    replace e_t43 := s168 _ _ e_t43
    replace e_tg := s168 _ _ e_tg
    replace e_t54 := s168 _ _ e_t54
    replace hA_t54 := prs_same s168 hA_t54
    replace e_l73 := s168 _ _ e_l73
    replace e_l79 := s168 _ _ e_l79
    replace e_D96 := s168 _ _ e_D96
    replace hA_D96 := prs_same s168 hA_D96
    replace e_t145 := s168 _ _ e_t145
    replace e_t154 := s168 _ _ e_t154
    replace e_l159 := s168 _ _ e_l159
    replace e_l162 := s168 _ _ e_l162
    replace hB := hB.same s168
    replace kH := kH.trans (Keep.of_same s168)
    have apf_t166 : t166 ≠ l159 := apw
    refine ⟨l159, _, _, rfl, rfl, e_l159, (by show 2 < sizeLine; decide), ?_⟩
    have kk171 : Keep l159 H165 (upd H165 l159 (.lst ([.ref t145, .ref t154] ++ [.ref t166]))) := keep_upd
    have e_new : upd H165 l159 (.lst ([.ref t145, .ref t154] ++ [.ref t166])) l159 = some (.lst [.ref t145, .ref t154, .ref t166]) := upd_same
    revert kk171 e_new; generalize upd H165 l159 (.lst ([.ref t145, .ref t154] ++ [.ref t166])) = H170; intro kk171 e_new
    replace e_t19 := kk171.tup e_l159 e_t19
    replace e_t27 := kk171.tup e_l159 e_t27
    replace e_t35 := kk171.tup e_l159 e_t35
    replace e_t43 := kk171.tup e_l159 e_t43
    replace e_tg := kk171 _ _ apf_tg e_tg
    replace e_t54 := kk171 _ _ apf_t54 e_t54
    replace hA_t54 := prs_keep kk171 e_l159 hA_t54
    replace e_l73 := kk171 _ _ apf_l73 e_l73
    replace e_l79 := kk171 _ _ apf_l79 e_l79
    replace e_D96 := kk171 _ _ apf_D96 e_D96
    replace hA_D96 := prs_keep kk171 e_l159 hA_D96
    replace e_t145 := kk171.tup e_l159 e_t145
    replace e_t154 := kk171.tup e_l159 e_t154
    replace e_l162 := kk171.tup e_l159 e_l162
    replace e_t166 := kk171 _ _ apf_t166 e_t166
    replace hA_t166 := prs_keep kk171 e_l159 hA_t166
    replace hB := hB.keep kk171 (show b ≠ l159 from ne_l159.symm)
    replace kH : Keep b H H170 := fun y z ny hy => kk171 y z (fun e => by rw [e, nf0] at hy; cases hy) (kH y z ny hy)
    replace e_l159 := e_new
    refine ⟨_, rfl, _, rfl, l73, _, rfl, .inl ⟨.inl (.inl e_l73), fun l172 nl172 => ?_⟩⟩
    have s173 : Same H170 (upd H170 l172 (.tup (nv (fs83)))) := same_new nl172
    have e_l172 : upd H170 l172 (.tup (nv (fs83))) l172 = some (.tup (nv (fs83))) := upd_same
    revert s173 e_l172; generalize upd H170 l172 (.tup (nv (fs83))) = H174; intro s173 e_l172
    replace e_t19 := s173 _ _ e_t19
    replace e_t27 := s173 _ _ e_t27
    replace e_t35 := s173 _ _ e_t35
    replace e_t43 := s173 _ _ e_t43
    replace e_tg := s173 _ _ e_tg
    replace e_t54 := s173 _ _ e_t54
    replace hA_t54 := prs_same s173 hA_t54
    replace e_l73 := s173 _ _ e_l73
    replace e_l79 := s173 _ _ e_l79
    replace e_D96 := s173 _ _ e_D96
    replace hA_D96 := prs_same s173 hA_D96
    replace e_t145 := s173 _ _ e_t145
    replace e_t154 := s173 _ _ e_t154
    replace e_l159 := s173 _ _ e_l159
    replace e_l162 := s173 _ _ e_l162
    replace e_t166 := s173 _ _ e_t166
    replace hA_t166 := prs_same s173 hA_t166
    replace hB := hB.same s173
    replace kH := kH.trans (Keep.of_same s173)
    refine ⟨_, rfl, l79, _, rfl, .inl ⟨.inl (.inl e_l79), fun l175 nl175 => ?_⟩⟩
    have s176 : Same H174 (upd H174 l175 (.tup (nv (fs93)))) := same_new nl175
    have e_l175 : upd H174 l175 (.tup (nv (fs93))) l175 = some (.tup (nv (fs93))) := upd_same
    revert s176 e_l175; generalize upd H174 l175 (.tup (nv (fs93))) = H177; intro s176 e_l175
    replace e_t19 := s176 _ _ e_t19
    replace e_t27 := s176 _ _ e_t27
    replace e_t35 := s176 _ _ e_t35
    replace e_t43 := s176 _ _ e_t43
    replace e_tg := s176 _ _ e_tg
    replace e_t54 := s176 _ _ e_t54
    replace hA_t54 := prs_same s176 hA_t54
    replace e_l73 := s176 _ _ e_l73
    replace e_l79 := s176 _ _ e_l79
    replace e_D96 := s176 _ _ e_D96
    replace hA_D96 := prs_same s176 hA_D96
    replace e_t145 := s176 _ _ e_t145
    replace e_t154 := s176 _ _ e_t154
    replace e_l159 := s176 _ _ e_l159
    replace e_l162 := s176 _ _ e_l162
    replace e_t166 := s176 _ _ e_t166
    replace hA_t166 := prs_same s176 hA_t166
    replace e_l172 := s176 _ _ e_l172
    replace hB := hB.same s176
    replace kH := kH.trans (Keep.of_same s176)
    refine ⟨_, rfl, (by show 3 ≤ sizeLine; decide), fun l178 nl178 => ?_⟩
    have ne_l178 : l178 ≠ b := (hB.ne_new nl178).symm
    have s179 : Same H177 (upd H177 l178 (.lst [.ref l172, .ref l175, .ref D96])) := same_new nl178
    have e_l178 : upd H177 l178 (.lst [.ref l172, .ref l175, .ref D96]) l178 = some (.lst [.ref l172, .ref l175, .ref D96]) := upd_same
    revert s179 e_l178; generalize upd H177 l178 (.lst [.ref l172, .ref l175, .ref D96]) = H180; intro s179 e_l178
    replace e_t19 := s179 _ _ e_t19
    replace e_t27 := s179 _ _ e_t27
    replace e_t35 := s179 _ _ e_t35
    replace e_t43 := s179 _ _ e_t43
    replace e_tg := s179 _ _ e_tg
    replace e_t54 := s179 _ _ e_t54
    replace hA_t54 := prs_same s179 hA_t54
    replace e_l73 := s179 _ _ e_l73
    replace e_l79 := s179 _ _ e_l79
    replace e_D96 := s179 _ _ e_D96
    replace hA_D96 := prs_same s179 hA_D96
    replace e_t145 := s179 _ _ e_t145
    replace e_t154 := s179 _ _ e_t154
    replace e_l159 := s179 _ _ e_l159
    replace e_l162 := s179 _ _ e_l162
    replace e_t166 := s179 _ _ e_t166
    replace hA_t166 := prs_same s179 hA_t166
    replace e_l172 := s179 _ _ e_l172
    replace e_l175 := s179 _ _ e_l175
    replace hB := hB.same s179
    replace kH := kH.trans (Keep.of_same s179)
    have fk181 : Fi 3 (.list [td (fs83), td (fs93), .list (((wrn fr qs56)).map pd)]) := fi_list (j := 2) (n := 3) (fa_cons ((fi_tup (hV84.pair pfr hp21) (by omega)).up) (fa_cons ((fi_tup (hV94.pair (pl2_perm pfr) hp37) (by omega)).up) (fa_cons (fi_prs (wrn_b pfr hc57 (by omega) (by omega))) fa_nil))) rfl (by decide)
    refine ⟨_, _, _, rfl, .lst (.inl (.inl e_l159)) (.cons (.tup (.inl (.inl e_t145)) (dp_nats _)) (.cons (.tup (.inl (.inl e_t154)) (dp_nats _)) (.cons (.lst (.inl (.inl e_t166)) (prs_dp hA_t166)) .nil))), .lst (.inl (.inl e_l178)) (.cons (.tup (.inl (.inl e_l172)) (dp_nats _)) (.cons (.tup (.inl (.inl e_l175)) (dp_nats _)) (.cons (.lst (.inl (.inl e_D96)) (prs_dp hA_D96)) .nil))), Nat.lt_succ_of_le (Nat.le_trans fk181.depth (by decide)), fk181.nar, fun H182 s183 => ?_⟩
    replace e_t19 := s183 _ _ e_t19
    replace e_t27 := s183 _ _ e_t27
    replace e_t35 := s183 _ _ e_t35
    replace e_t43 := s183 _ _ e_t43
    replace e_tg := s183 _ _ e_tg
    replace e_t54 := s183 _ _ e_t54
    replace hA_t54 := prs_same s183 hA_t54
    replace e_l73 := s183 _ _ e_l73
    replace e_l79 := s183 _ _ e_l79
    replace e_D96 := s183 _ _ e_D96
    replace hA_D96 := prs_same s183 hA_D96
    replace e_t145 := s183 _ _ e_t145
    replace e_t154 := s183 _ _ e_t154
    replace e_l159 := s183 _ _ e_l159
    replace e_l162 := s183 _ _ e_l162
    replace e_t166 := s183 _ _ e_t166
    replace hA_t166 := prs_same s183 hA_t166
    replace e_l172 := s183 _ _ e_l172
    replace e_l175 := s183 _ _ e_l175
    replace e_l178 := s183 _ _ e_l178
    replace hB := hB.same s183
    replace kH := kH.trans (Keep.of_same s183)
    refine ⟨true, rfl, iteN ?_⟩
    refine ⟨_, rfl, _, rfl, t27, rfl, ⟨_, .inl (.inl e_t27)⟩, fun D184 nD184 => ?_⟩
    refine lc_tup (xs := nv ps28) (fun i H' => Same H182 H' ∧ H' D184 = some (.lst (nv ((ps28.map (N + ·)).take i)))) ⟨same_new nD184, upd_same⟩ (fun i H' _ h => .inl (.inl (h.1 _ _ e_t27))) (fun i v H' hv h => ?_) (fun H' h => ?_)
    · obtain ⟨sm, eD⟩ := h
      obtain ⟨z, ez, rfl⟩ := nv_get' hv
      have hil := get_lt ez
      refine ⟨rfl, yes_if ⟨_, rfl, _, rfl, _, _, rfl, rfl, _, eD, ?_, fun y o hy => ?_, ?_⟩⟩
      · rw [nv_length]; exact small1000 (Nat.le_trans (List.length_take_le' _ _) (by rw [List.length_map]; rw [hp29.len]; omega))
      · rw [upd_ne (ne_of_none hy nD184)]; exact sm _ _ hy
      · rw [upd_same]; exact congrArg (fun l => some (HO.lst l)) (add_take ez)
    obtain ⟨s185, e_D184⟩ := h
    rw [nv_length, show ps28.length = (ps28.map (N + ·)).length from (List.length_map _).symm, List.take_length] at e_D184
    have ne_D184 : D184 ≠ b := (hB.ne_new nD184).symm
    revert s185 e_D184; generalize H' = H186; intro s185 e_D184
    replace e_t19 := s185 _ _ e_t19
    replace e_t27 := s185 _ _ e_t27
    replace e_t35 := s185 _ _ e_t35
    replace e_t43 := s185 _ _ e_t43
    replace e_tg := s185 _ _ e_tg
    replace e_t54 := s185 _ _ e_t54
    replace hA_t54 := prs_same s185 hA_t54
    replace hB := hB.same s185
    replace kH := kH.trans (Keep.of_same s185)
    refine ⟨D184, _, rfl, .inl ⟨.inl (.inl e_D184), fun l187 nl187 => ?_⟩⟩
    have s188 : Same H186 (upd H186 l187 (.tup (nv ((ps28.map (N + ·)))))) := same_new nl187
    have e_l187 : upd H186 l187 (.tup (nv ((ps28.map (N + ·))))) l187 = some (.tup (nv ((ps28.map (N + ·))))) := upd_same
    revert s188 e_l187; generalize upd H186 l187 (.tup (nv ((ps28.map (N + ·))))) = H189; intro s188 e_l187
    replace e_t19 := s188 _ _ e_t19
    replace e_t27 := s188 _ _ e_t27
    replace e_t35 := s188 _ _ e_t35
    replace e_t43 := s188 _ _ e_t43
    replace e_tg := s188 _ _ e_tg
    replace e_t54 := s188 _ _ e_t54
    replace hA_t54 := prs_same s188 hA_t54
    replace e_D184 := s188 _ _ e_D184
    replace hB := hB.same s188
    replace kH := kH.trans (Keep.of_same s188)
    refine ⟨t19, l187, _, _, rfl, rfl, .inl (.inl e_t19), .inl (.inl e_l187), (fun z => (fun z => by have := hp21.len; rw [z] at this; simp at this; omega) (List.map_eq_nil_iff.mp z)), ?_, fun z => absurd (List.map_eq_nil_iff.mp (List.map_eq_nil_iff.mp z)) (fun z => by have := hp29.len; rw [z] at this; simp at this; omega), fun _ l190 nl190 => ?_⟩
    · rw [nv_length, nv_length, List.length_map, hp21.len, hp29.len]; exact Nat.le_of_lt (small1000 (by omega))
    rw [nv_app, show ps20 ++ ps28.map (N + ·) = jnd ps20 ps28 by unfold jnd; rw [hp21.len]]
    have s191 : Same H189 (upd H189 l190 (.tup (nv ((jnd ps20 ps28))))) := same_new nl190
    have e_l190 : upd H189 l190 (.tup (nv ((jnd ps20 ps28)))) l190 = some (.tup (nv ((jnd ps20 ps28)))) := upd_same
    revert s191 e_l190; generalize upd H189 l190 (.tup (nv ((jnd ps20 ps28)))) = H192; intro s191 e_l190
    replace e_t19 := s191 _ _ e_t19
    replace e_t27 := s191 _ _ e_t27
    replace e_t35 := s191 _ _ e_t35
    replace e_t43 := s191 _ _ e_t43
    replace e_tg := s191 _ _ e_tg
    replace e_t54 := s191 _ _ e_t54
    replace hA_t54 := prs_same s191 hA_t54
    replace e_D184 := s191 _ _ e_D184
    replace e_l187 := s191 _ _ e_l187
    replace hB := hB.same s191
    replace kH := kH.trans (Keep.of_same s191)
    refine ⟨_, rfl, _, rfl, t35, t43, ps36, ps44, N, M, rfl, .inl (.inl e_t35), .inl (.inl e_t43), hp37, hp45, by omega, fun H193 t194 r195 hM196 s197 n198 e_t194 => ?_⟩
    replace e_t19 := s197 _ _ e_t19
    replace e_t27 := s197 _ _ e_t27
    replace e_t35 := s197 _ _ e_t35
    replace e_t43 := s197 _ _ e_t43
    replace e_tg := s197 _ _ e_tg
    replace e_t54 := s197 _ _ e_t54
    replace hA_t54 := prs_same s197 hA_t54
    replace e_D184 := s197 _ _ e_D184
    replace e_l187 := s197 _ _ e_l187
    replace e_l190 := s197 _ _ e_l190
    replace hB := hB.same s197
    replace kH := kH.trans (Keep.of_same s197)
    refine ⟨(by show 2 ≤ sizeLine; decide), fun l199 nl199 => ?_⟩
    have ne_l199 : l199 ≠ b := (hB.ne_new nl199).symm
    have s200 : Same H193 (upd H193 l199 (.lst [.ref l190, .ref t194])) := same_new nl199
    have e_l199 : upd H193 l199 (.lst [.ref l190, .ref t194]) l199 = some (.lst [.ref l190, .ref t194]) := upd_same
    revert s200 e_l199; generalize upd H193 l199 (.lst [.ref l190, .ref t194]) = H201; intro s200 e_l199
    replace e_t19 := s200 _ _ e_t19
    replace e_t27 := s200 _ _ e_t27
    replace e_t35 := s200 _ _ e_t35
    replace e_t43 := s200 _ _ e_t43
    replace e_tg := s200 _ _ e_tg
    replace e_t54 := s200 _ _ e_t54
    replace hA_t54 := prs_same s200 hA_t54
    replace e_D184 := s200 _ _ e_D184
    replace e_l187 := s200 _ _ e_l187
    replace e_l190 := s200 _ _ e_l190
    replace e_t194 := s200 _ _ e_t194
    replace hB := hB.same s200
    replace kH := kH.trans (Keep.of_same s200)
    first | refine st_set [some (.ref b), some (.int (N : Nat)), some (.int (M : Nat)), some (.ref t19), some (.ref t27), some (.ref t35), some (.ref t43), some (.ref tg), some (.ref t54), some (.str kst), some (.ref l199), some (.ref l79), y_spot, some (.ref l89), y_end, some (.ref D96), some (.ref l159), none, none, none] ?_ rfl | refine st_eq [some (.ref b), some (.int (N : Nat)), some (.int (M : Nat)), some (.ref t19), some (.ref t27), some (.ref t35), some (.ref t43), some (.ref tg), some (.ref t54), some (.str kst), some (.ref l199), some (.ref l79), y_spot, some (.ref l89), y_end, some (.ref D96), some (.ref l159), none, none, none] ?_ rfl | refine st_eq (t := tSeq _ _) [some (.ref b), some (.int (N : Nat)), some (.int (M : Nat)), some (.ref t19), some (.ref t27), some (.ref t35), some (.ref t43), some (.ref tg), some (.ref t54), some (.str kst), some (.ref l199), some (.ref l79), y_spot, some (.ref l89), y_end, some (.ref D96), some (.ref l159), none, none, none] ?_ rfl
    refine ⟨_, rfl, _, rfl, t19, t27, ps20, ps28, rfl, .inr (.inl (.inl e_t19)), .inr (.inl (.inl e_t27)), (fun z => by have := hp21.len; rw [z] at this; simp at this; omega), (fun z => by have := hp29.len; rw [z] at this; simp at this; omega), by rw [hp21.len]; omega, by rw [hp29.len]; omega, fun H202 t203 s204 n205 e_t203 => ?_⟩
    replace e_t19 := s204 _ _ e_t19
    replace e_t27 := s204 _ _ e_t27
    replace e_t35 := s204 _ _ e_t35
    replace e_t43 := s204 _ _ e_t43
    replace e_tg := s204 _ _ e_tg
    replace e_t54 := s204 _ _ e_t54
    replace hA_t54 := prs_same s204 hA_t54
    replace e_l190 := s204 _ _ e_l190
    replace e_t194 := s204 _ _ e_t194
    replace e_l199 := s204 _ _ e_l199
    replace hB := hB.same s204
    replace kH := kH.trans (Keep.of_same s204)
    refine ⟨_, rfl, _, rfl, t35, t43, ps36, ps44, N, M, rfl, .inr (.inl (.inl e_t35)), .inr (.inl (.inl e_t43)), hp37, hp45, by omega, by omega, by omega, fun H206 t207 r208 hM209 s210 n211 e_t207 => ?_⟩
    replace e_t19 := s210 _ _ e_t19
    replace e_t27 := s210 _ _ e_t27
    replace e_t35 := s210 _ _ e_t35
    replace e_t43 := s210 _ _ e_t43
    replace e_tg := s210 _ _ e_tg
    replace e_t54 := s210 _ _ e_t54
    replace hA_t54 := prs_same s210 hA_t54
    replace e_l190 := s210 _ _ e_l190
    replace e_t194 := s210 _ _ e_t194
    replace e_l199 := s210 _ _ e_l199
    replace e_t203 := s210 _ _ e_t203
    replace hB := hB.same s210
    replace kH := kH.trans (Keep.of_same s210)
    rw [hM209.det (plj_perm N M) hM196] at e_t207
    refine ⟨(by show 2 ≤ sizeLine; decide), fun l212 nl212 => ?_⟩
    have ne_l212 : l212 ≠ b := (hB.ne_new nl212).symm
    have s213 : Same H206 (upd H206 l212 (.lst [.ref t203, .ref t207])) := same_new nl212
    have e_l212 : upd H206 l212 (.lst [.ref t203, .ref t207]) l212 = some (.lst [.ref t203, .ref t207]) := upd_same
    revert s213 e_l212; generalize upd H206 l212 (.lst [.ref t203, .ref t207]) = H214; intro s213 e_l212
    replace e_t19 := s213 _ _ e_t19
    replace e_t27 := s213 _ _ e_t27
    replace e_t35 := s213 _ _ e_t35
    replace e_t43 := s213 _ _ e_t43
    replace e_tg := s213 _ _ e_tg
    replace e_t54 := s213 _ _ e_t54
    replace hA_t54 := prs_same s213 hA_t54
    replace e_l190 := s213 _ _ e_l190
    replace e_t194 := s213 _ _ e_t194
    replace e_l199 := s213 _ _ e_l199
    replace e_t203 := s213 _ _ e_t203
    replace e_t207 := s213 _ _ e_t207
    replace hB := hB.same s213
    replace kH := kH.trans (Keep.of_same s213)
    first | refine st_set [some (.ref b), some (.int (N : Nat)), some (.int (M : Nat)), some (.ref t19), some (.ref t27), some (.ref t35), some (.ref t43), some (.ref tg), some (.ref t54), some (.str kst), some (.ref l199), some (.ref l79), y_spot, some (.ref l89), y_end, some (.ref D96), some (.ref l212), none, none, none] ?_ rfl | refine st_eq [some (.ref b), some (.int (N : Nat)), some (.int (M : Nat)), some (.ref t19), some (.ref t27), some (.ref t35), some (.ref t43), some (.ref tg), some (.ref t54), some (.str kst), some (.ref l199), some (.ref l79), y_spot, some (.ref l89), y_end, some (.ref D96), some (.ref l212), none, none, none] ?_ rfl | refine st_eq (t := tSeq _ _) [some (.ref b), some (.int (N : Nat)), some (.int (M : Nat)), some (.ref t19), some (.ref t27), some (.ref t35), some (.ref t43), some (.ref tg), some (.ref t54), some (.str kst), some (.ref l199), some (.ref l79), y_spot, some (.ref l89), y_end, some (.ref D96), some (.ref l212), none, none, none] ?_ rfl
    have fk215 : Fi 2 (.list [td ((jnd ps20 ps28)), td (r195)]) := fi_list (j := 1) (n := 2) (fa_cons (fi_tup (jnd_pair hp21 hp29) (by omega)) (fa_cons (fi_tup (sbs_pair hp37 hp45 hM196) (by omega)) fa_nil)) rfl (by decide)
    refine ⟨_, rfl, _, rfl, _, _, _, rfl, .lst (.inl (.inl e_l212)) (.cons (.tup (.inl (.inl e_t203)) (dp_nats _)) (.cons (.tup (.inl (.inl e_t207)) (dp_nats _)) .nil)), .lst (.inl (.inl e_l199)) (.cons (.tup (.inl (.inl e_l190)) (dp_nats _)) (.cons (.tup (.inl (.inl e_t194)) (dp_nats _)) .nil)), Nat.lt_succ_of_le (Nat.le_trans fk215.depth (by decide)), fk215.nar, fun H216 s217 => ?_⟩
    replace e_t19 := s217 _ _ e_t19
    replace e_t27 := s217 _ _ e_t27
    replace e_t35 := s217 _ _ e_t35
    replace e_t43 := s217 _ _ e_t43
    replace e_tg := s217 _ _ e_tg
    replace e_t54 := s217 _ _ e_t54
    replace hA_t54 := prs_same s217 hA_t54
    replace e_l190 := s217 _ _ e_l190
    replace e_t194 := s217 _ _ e_t194
    replace e_l199 := s217 _ _ e_l199
    replace e_t203 := s217 _ _ e_t203
    replace e_t207 := s217 _ _ e_t207
    replace e_l212 := s217 _ _ e_l212
    replace hB := hB.same s217
    replace kH := kH.trans (Keep.of_same s217)
    refine ⟨true, rfl, iteN ?_⟩
    refine ⟨_, rfl, t27, _, rfl, .inr (.inl (.inl e_t27)), fun l218 nl218 => ?_⟩
    have ne_l218 : l218 ≠ b := (hB.ne_new nl218).symm
    have s219 : Same H216 (upd H216 l218 (.lst (nv (ps28)))) := same_new nl218
    have e_l218 : upd H216 l218 (.lst (nv (ps28))) l218 = some (.lst (nv (ps28))) := upd_same
    revert s219 e_l218; generalize upd H216 l218 (.lst (nv (ps28))) = H220; intro s219 e_l218
    replace e_t19 := s219 _ _ e_t19
    replace e_t27 := s219 _ _ e_t27
    replace e_t35 := s219 _ _ e_t35
    replace e_t43 := s219 _ _ e_t43
    replace e_tg := s219 _ _ e_tg
    replace e_t54 := s219 _ _ e_t54
    replace hA_t54 := prs_same s219 hA_t54
    replace e_l190 := s219 _ _ e_l190
    replace e_t194 := s219 _ _ e_t194
    replace e_l199 := s219 _ _ e_l199
    replace e_t203 := s219 _ _ e_t203
    replace e_t207 := s219 _ _ e_t207
    replace e_l212 := s219 _ _ e_l212
    replace hB := hB.same s219
    replace kH := kH.trans (Keep.of_same s219)
    refine ⟨_, rfl, t19, _, rfl, .inr (.inl (.inl e_t19)), fun l221 nl221 => ?_⟩
    have ne_l221 : l221 ≠ b := (hB.ne_new nl221).symm
    have s222 : Same H220 (upd H220 l221 (.lst (nv (ps20)))) := same_new nl221
    have e_l221 : upd H220 l221 (.lst (nv (ps20))) l221 = some (.lst (nv (ps20))) := upd_same
    revert s222 e_l221; generalize upd H220 l221 (.lst (nv (ps20))) = H223; intro s222 e_l221
    replace e_t19 := s222 _ _ e_t19
    replace e_t27 := s222 _ _ e_t27
    replace e_t35 := s222 _ _ e_t35
    replace e_t43 := s222 _ _ e_t43
    replace e_tg := s222 _ _ e_tg
    replace e_t54 := s222 _ _ e_t54
    replace hA_t54 := prs_same s222 hA_t54
    replace e_l190 := s222 _ _ e_l190
    replace e_t194 := s222 _ _ e_t194
    replace e_l199 := s222 _ _ e_l199
    replace e_t203 := s222 _ _ e_t203
    replace e_t207 := s222 _ _ e_t207
    replace e_l212 := s222 _ _ e_l212
    replace e_l218 := s222 _ _ e_l218
    replace hB := hB.same s222
    replace kH := kH.trans (Keep.of_same s222)
    refine ⟨rfl, l221, l218, ps20, ps28, rfl, .inl (.inl (.inl e_l221)), .inl (.inl (.inl e_l218)), (fun z => by have := hp21.len; rw [z] at this; simp at this; omega), (fun z => by have := hp29.len; rw [z] at this; simp at this; omega), by rw [hp21.len]; omega, by rw [hp29.len]; omega, fun H224 t225 s226 n227 e_t225 => ?_⟩
    replace e_t19 := s226 _ _ e_t19
    replace e_t27 := s226 _ _ e_t27
    replace e_t35 := s226 _ _ e_t35
    replace e_t43 := s226 _ _ e_t43
    replace e_tg := s226 _ _ e_tg
    replace e_t54 := s226 _ _ e_t54
    replace hA_t54 := prs_same s226 hA_t54
    replace e_l190 := s226 _ _ e_l190
    replace e_t194 := s226 _ _ e_t194
    replace e_l199 := s226 _ _ e_l199
    replace e_t203 := s226 _ _ e_t203
    replace e_t207 := s226 _ _ e_t207
    replace e_l212 := s226 _ _ e_l212
    replace e_l218 := s226 _ _ e_l218
    replace e_l221 := s226 _ _ e_l221
    replace hB := hB.same s226
    replace kH := kH.trans (Keep.of_same s226)
    have fk228 : Fi 1 (td ((jnd ps20 ps28))) := fi_tup (jnd_pair hp21 hp29) (by omega)
    refine ⟨_, rfl, l199, _, _, _, rfl, rfl, .inl (.inl e_l199), rfl, _, _, _, rfl, .tup (.inl (.inl e_t225)) (dp_nats _), .tup (.inl (.inl e_l190)) (dp_nats _), Nat.lt_succ_of_le (Nat.le_trans fk228.depth (by decide)), fk228.nar, fun H229 s230 => ?_⟩
    replace e_t19 := s230 _ _ e_t19
    replace e_t27 := s230 _ _ e_t27
    replace e_t35 := s230 _ _ e_t35
    replace e_t43 := s230 _ _ e_t43
    replace e_tg := s230 _ _ e_tg
    replace e_t54 := s230 _ _ e_t54
    replace hA_t54 := prs_same s230 hA_t54
    replace e_l190 := s230 _ _ e_l190
    replace e_t194 := s230 _ _ e_t194
    replace e_l199 := s230 _ _ e_l199
    replace e_t203 := s230 _ _ e_t203
    replace e_t207 := s230 _ _ e_t207
    replace e_l212 := s230 _ _ e_l212
    replace e_l218 := s230 _ _ e_l218
    replace e_l221 := s230 _ _ e_l221
    replace e_t225 := s230 _ _ e_t225
    replace hB := hB.same s230
    replace kH := kH.trans (Keep.of_same s230)
    refine ⟨true, rfl, iteN ?_⟩
    refine ⟨_, rfl, t43, _, rfl, .inr (.inl (.inl e_t43)), fun l231 nl231 => ?_⟩
    have ne_l231 : l231 ≠ b := (hB.ne_new nl231).symm
    have s232 : Same H229 (upd H229 l231 (.lst (nv (ps44)))) := same_new nl231
    have e_l231 : upd H229 l231 (.lst (nv (ps44))) l231 = some (.lst (nv (ps44))) := upd_same
    revert s232 e_l231; generalize upd H229 l231 (.lst (nv (ps44))) = H233; intro s232 e_l231
    replace e_t19 := s232 _ _ e_t19
    replace e_t27 := s232 _ _ e_t27
    replace e_t35 := s232 _ _ e_t35
    replace e_t43 := s232 _ _ e_t43
    replace e_tg := s232 _ _ e_tg
    replace e_t54 := s232 _ _ e_t54
    replace hA_t54 := prs_same s232 hA_t54
    replace e_l190 := s232 _ _ e_l190
    replace e_t194 := s232 _ _ e_t194
    replace e_l199 := s232 _ _ e_l199
    replace hB := hB.same s232
    replace kH := kH.trans (Keep.of_same s232)
    refine ⟨_, rfl, t35, _, rfl, .inr (.inl (.inl e_t35)), fun l234 nl234 => ?_⟩
    have ne_l234 : l234 ≠ b := (hB.ne_new nl234).symm
    have s235 : Same H233 (upd H233 l234 (.lst (nv (ps36)))) := same_new nl234
    have e_l234 : upd H233 l234 (.lst (nv (ps36))) l234 = some (.lst (nv (ps36))) := upd_same
    revert s235 e_l234; generalize upd H233 l234 (.lst (nv (ps36))) = H236; intro s235 e_l234
    replace e_t19 := s235 _ _ e_t19
    replace e_t27 := s235 _ _ e_t27
    replace e_t35 := s235 _ _ e_t35
    replace e_t43 := s235 _ _ e_t43
    replace e_tg := s235 _ _ e_tg
    replace e_t54 := s235 _ _ e_t54
    replace hA_t54 := prs_same s235 hA_t54
    replace e_l190 := s235 _ _ e_l190
    replace e_t194 := s235 _ _ e_t194
    replace e_l199 := s235 _ _ e_l199
    replace e_l231 := s235 _ _ e_l231
    replace hB := hB.same s235
    replace kH := kH.trans (Keep.of_same s235)
    refine ⟨rfl, l234, l231, ps36, ps44, N, M, rfl, .inl (.inl (.inl e_l234)), .inl (.inl (.inl e_l231)), hp37, hp45, by omega, by omega, by omega, fun H237 t238 r239 hM240 s241 n242 e_t238 => ?_⟩
    replace e_t19 := s241 _ _ e_t19
    replace e_t27 := s241 _ _ e_t27
    replace e_t35 := s241 _ _ e_t35
    replace e_t43 := s241 _ _ e_t43
    replace e_tg := s241 _ _ e_tg
    replace e_t54 := s241 _ _ e_t54
    replace hA_t54 := prs_same s241 hA_t54
    replace e_l190 := s241 _ _ e_l190
    replace e_t194 := s241 _ _ e_t194
    replace e_l199 := s241 _ _ e_l199
    replace e_l231 := s241 _ _ e_l231
    replace e_l234 := s241 _ _ e_l234
    replace hB := hB.same s241
    replace kH := kH.trans (Keep.of_same s241)
    rw [hM240.det (plj_perm N M) hM196] at e_t238
    have fk243 : Fi 1 (td (r195)) := fi_tup (sbs_pair hp37 hp45 hM196) (by omega)
    refine ⟨_, rfl, l199, _, _, _, rfl, rfl, .inl (.inl e_l199), rfl, _, _, _, rfl, .tup (.inl (.inl e_t238)) (dp_nats _), .tup (.inl (.inl e_t194)) (dp_nats _), Nat.lt_succ_of_le (Nat.le_trans fk243.depth (by decide)), fk243.nar, fun H244 s245 => ?_⟩
    replace e_t19 := s245 _ _ e_t19
    replace e_t27 := s245 _ _ e_t27
    replace e_t35 := s245 _ _ e_t35
    replace e_t43 := s245 _ _ e_t43
    replace e_tg := s245 _ _ e_tg
    replace e_t54 := s245 _ _ e_t54
    replace hA_t54 := prs_same s245 hA_t54
    replace e_l190 := s245 _ _ e_l190
    replace e_t194 := s245 _ _ e_t194
    replace e_l199 := s245 _ _ e_l199
    replace e_l231 := s245 _ _ e_l231
    replace e_l234 := s245 _ _ e_l234
    replace e_t238 := s245 _ _ e_t238
    replace hB := hB.same s245
    replace kH := kH.trans (Keep.of_same s245)
    refine ⟨true, rfl, iteN ?_⟩
    refine ⟨_, rfl, _, rfl, _, rfl, _, 4, rfl, rfl, 10, 9, rfl, rfl, ⟨by decide, by decide, by decide⟩, (by show 3 ≤ sizeLine; decide), fun l246 nl246 => ?_⟩
    have ne_l246 : l246 ≠ b := (hB.ne_new nl246).symm
    have s247 : Same H244 (upd H244 l246 (.lst [.int ((N : Int)), .int (((N : Int) + 4)), .int (((10 : Int) ^ Int.toNat 9))])) := same_new nl246
    have e_l246 : upd H244 l246 (.lst [.int ((N : Int)), .int (((N : Int) + 4)), .int (((10 : Int) ^ Int.toNat 9))]) l246 = some (.lst [.int ((N : Int)), .int (((N : Int) + 4)), .int (((10 : Int) ^ Int.toNat 9))]) := upd_same
    revert s247 e_l246; generalize upd H244 l246 (.lst [.int ((N : Int)), .int (((N : Int) + 4)), .int (((10 : Int) ^ Int.toNat 9))]) = H248; intro s247 e_l246
    replace e_t19 := s247 _ _ e_t19
    replace e_t27 := s247 _ _ e_t27
    replace e_t35 := s247 _ _ e_t35
    replace e_t43 := s247 _ _ e_t43
    replace e_tg := s247 _ _ e_tg
    replace e_t54 := s247 _ _ e_t54
    replace hA_t54 := prs_same s247 hA_t54
    replace hB := hB.same s247
    replace kH := kH.trans (Keep.of_same s247)
    refine ⟨b, l246, n + 527, _, rfl, hB.mono (by omega), ne_l246, e_l246, (by show 0 < 3; decide), (by show 3 ≤ 1000; decide), fun Hp ix vx hvx kp hBp => ?_⟩
    obtain ⟨y_hy249, hy249⟩ := hB.lst
    replace e_t19 := kp.tup hy249 e_t19
    replace e_t27 := kp.tup hy249 e_t27
    replace e_t35 := kp.tup hy249 e_t35
    replace e_t43 := kp.tup hy249 e_t43
    replace e_tg := kp _ _ ne_tg e_tg
    replace e_t54 := kp _ _ ne_t54 e_t54
    replace hA_t54 := prs_keep kp hy249 hA_t54
    clear hB
    have hB := hBp
    replace kH := kH.trans kp
    obtain ⟨od, rfl, hod, ho1⟩ : ∃ od : Int, vx = .int od ∧ ¬ (0 ≤ od ∧ od < (N : Nat)) ∧ True := by
      have hj : ix < 3 := get_lt hvx
      rcases (show ix = 0 ∨ ix = 1 ∨ ix = 2 by omega) with z | z | z
      · subst z; exact ⟨_, (Option.some.inj hvx).symm, by omega, trivial⟩
      · subst z; exact ⟨_, (Option.some.inj hvx).symm, by omega, trivial⟩
      · subst z; exact ⟨(1000000000 : Int), (Option.some.inj hvx).symm, by omega, trivial⟩
    first | refine st_set [some (.ref b), some (.int (N : Nat)), some (.int (M : Nat)), some (.ref t19), some (.ref t27), some (.ref t35), some (.ref t43), some (.ref tg), some (.ref t54), some (.str kst), some (.ref l199), some (.ref l79), y_spot, some (.ref l89), y_end, some (.ref D96), some (.ref l212), some (.int (od)), none, none] ?_ rfl | refine st_eq [some (.ref b), some (.int (N : Nat)), some (.int (M : Nat)), some (.ref t19), some (.ref t27), some (.ref t35), some (.ref t43), some (.ref tg), some (.ref t54), some (.str kst), some (.ref l199), some (.ref l79), y_spot, some (.ref l89), y_end, some (.ref D96), some (.ref l212), some (.int (od)), none, none] ?_ rfl | refine st_eq (t := tSeq _ _) [some (.ref b), some (.int (N : Nat)), some (.int (M : Nat)), some (.ref t19), some (.ref t27), some (.ref t35), some (.ref t43), some (.ref tg), some (.ref t54), some (.str kst), some (.ref l199), some (.ref l79), y_spot, some (.ref l89), y_end, some (.ref D96), some (.ref l212), some (.int (od)), none, none] ?_ rfl
    refine ⟨_, rfl, tg, _, rfl, .inl ⟨.inl (.inl e_tg), fun l250 nl250 => ?_⟩⟩
    have s251 : Same Hp (upd Hp l250 (.tup (nv (fr)))) := same_new nl250
    have e_l250 : upd Hp l250 (.tup (nv (fr))) l250 = some (.tup (nv (fr))) := upd_same
    revert s251 e_l250; generalize upd Hp l250 (.tup (nv (fr))) = H252; intro s251 e_l250
    replace e_t19 := s251 _ _ e_t19
    replace e_t27 := s251 _ _ e_t27
    replace e_t35 := s251 _ _ e_t35
    replace e_t43 := s251 _ _ e_t43
    replace e_tg := s251 _ _ e_tg
    replace e_t54 := s251 _ _ e_t54
    replace hA_t54 := prs_same s251 hA_t54
    replace hB := hB.same s251
    replace kH := kH.trans (Keep.of_same s251)
    refine ⟨_, rfl, _, rfl, (by show 2 ≤ sizeLine; decide), fun l253 nl253 => ?_⟩
    have s254 : Same H252 (upd H252 l253 (.tup [.int (0 : Nat), .int (od)])) := same_new nl253
    have e_l253 : upd H252 l253 (.tup [.int (0 : Nat), .int (od)]) l253 = some (.tup [.int (0 : Nat), .int (od)]) := upd_same
    revert s254 e_l253; generalize upd H252 l253 (.tup [.int (0 : Nat), .int (od)]) = H255; intro s254 e_l253
    replace e_t19 := s254 _ _ e_t19
    replace e_t27 := s254 _ _ e_t27
    replace e_t35 := s254 _ _ e_t35
    replace e_t43 := s254 _ _ e_t43
    replace e_tg := s254 _ _ e_tg
    replace e_t54 := s254 _ _ e_t54
    replace hA_t54 := prs_same s254 hA_t54
    replace e_l250 := s254 _ _ e_l250
    replace hB := hB.same s254
    replace kH := kH.trans (Keep.of_same s254)
    refine ⟨_, rfl, _, 1, rfl, rfl, _, rfl, _, 2, rfl, rfl, (by show 2 ≤ sizeLine; decide), fun l256 nl256 => ?_⟩
    have s257 : Same H255 (upd H255 l256 (.tup [.int ((od + 1)), .int ((od + 2))])) := same_new nl256
    have e_l256 : upd H255 l256 (.tup [.int ((od + 1)), .int ((od + 2))]) l256 = some (.tup [.int ((od + 1)), .int ((od + 2))]) := upd_same
    revert s257 e_l256; generalize upd H255 l256 (.tup [.int ((od + 1)), .int ((od + 2))]) = H258; intro s257 e_l256
    replace e_t19 := s257 _ _ e_t19
    replace e_t27 := s257 _ _ e_t27
    replace e_t35 := s257 _ _ e_t35
    replace e_t43 := s257 _ _ e_t43
    replace e_tg := s257 _ _ e_tg
    replace e_t54 := s257 _ _ e_t54
    replace hA_t54 := prs_same s257 hA_t54
    replace e_l250 := s257 _ _ e_l250
    replace e_l253 := s257 _ _ e_l253
    replace hB := hB.same s257
    replace kH := kH.trans (Keep.of_same s257)
    refine ⟨(by show 2 ≤ sizeLine; decide), fun l259 nl259 => ?_⟩
    have ne_l259 : l259 ≠ b := (hB.ne_new nl259).symm
    have s260 : Same H258 (upd H258 l259 (.lst [.ref l253, .ref l256])) := same_new nl259
    have e_l259 : upd H258 l259 (.lst [.ref l253, .ref l256]) l259 = some (.lst [.ref l253, .ref l256]) := upd_same
    revert s260 e_l259; generalize upd H258 l259 (.lst [.ref l253, .ref l256]) = H261; intro s260 e_l259
    replace e_t19 := s260 _ _ e_t19
    replace e_t27 := s260 _ _ e_t27
    replace e_t35 := s260 _ _ e_t35
    replace e_t43 := s260 _ _ e_t43
    replace e_tg := s260 _ _ e_tg
    replace e_t54 := s260 _ _ e_t54
    replace hA_t54 := prs_same s260 hA_t54
    replace e_l250 := s260 _ _ e_l250
    replace e_l253 := s260 _ _ e_l253
    replace e_l256 := s260 _ _ e_l256
    replace hB := hB.same s260
    replace kH := kH.trans (Keep.of_same s260)
    refine ⟨t54, l259, _, _, rfl, rfl, e_t54, e_l259, ?_, fun l262 nl262 => ?_⟩
    · rw [List.length_map, hA_t54.length]; exact Nat.le_of_lt (small1000 (by show _ + 2 ≤ 1000; omega))
    have s263 : Same H261 (upd H261 l262 (.lst (as55.map V.ref ++ [V.ref l253, V.ref l256]))) := same_new nl262
    have e_l262 : upd H261 l262 (.lst (as55.map V.ref ++ [V.ref l253, V.ref l256])) l262 = some (.lst (as55.map V.ref ++ [V.ref l253, V.ref l256])) := upd_same
    revert s263 e_l262; generalize upd H261 l262 (.lst (as55.map V.ref ++ [V.ref l253, V.ref l256])) = H264; intro s263 e_l262
    replace e_t19 := s263 _ _ e_t19
    replace e_t27 := s263 _ _ e_t27
    replace e_t35 := s263 _ _ e_t35
    replace e_t43 := s263 _ _ e_t43
    replace e_tg := s263 _ _ e_tg
    replace e_t54 := s263 _ _ e_t54
    replace hA_t54 := prs_same s263 hA_t54
    replace e_l250 := s263 _ _ e_l250
    replace e_l253 := s263 _ _ e_l253
    replace e_l256 := s263 _ _ e_l256
    replace e_l259 := s263 _ _ e_l259
    replace hB := hB.same s263
    replace kH := kH.trans (Keep.of_same s263)
    refine ⟨l250, fr, N, .inr (.inl (.inl e_l250)), pm_len pfr, .inr (.inr ⟨l262, _, qs56.map zz ++ [(0, od), (od + 1, od + 2)], od, rfl, .inl (.inl (.inl e_l262)), itemsZ_app (itemsZ_prs hA_t54) (itemsZ_two e_l253 e_l256), (by rw [badW_zz hc57]; exact badW_hitE (badP_sndE (by omega) hod)), fun H265 s266 => ?_⟩)⟩
    replace e_t19 := s266 _ _ e_t19
    replace e_t27 := s266 _ _ e_t27
    replace e_t35 := s266 _ _ e_t35
    replace e_t43 := s266 _ _ e_t43
    replace e_tg := s266 _ _ e_tg
    replace e_t54 := s266 _ _ e_t54
    replace hA_t54 := prs_same s266 hA_t54
    replace hB := hB.same s266
    replace kH := kH.trans (Keep.of_same s266)
    refine ⟨_, rfl, _, _, _, rfl, .int _, .int _, (by show 0 < 5; decide), trivial, fun H267 s268 => ⟨true, rfl, iteN ?_⟩⟩
    replace e_t19 := s268 _ _ e_t19
    replace e_t27 := s268 _ _ e_t27
    replace e_t35 := s268 _ _ e_t35
    replace e_t43 := s268 _ _ e_t43
    replace e_tg := s268 _ _ e_tg
    replace e_t54 := s268 _ _ e_t54
    replace hA_t54 := prs_same s268 hA_t54
    replace hB := hB.same s268
    replace kH := kH.trans (Keep.of_same s268)
    refine ⟨_, rfl, _, rfl, b, t19, ps20, n, N, rfl, hB.mono (by omega), e_t19, hp21, hn1, hn2, fun HF kF hBF => ?_⟩
    obtain ⟨y_hy269, hy269⟩ := hB.lst
    replace e_t19 := kF.tup hy269 e_t19
    replace e_t35 := kF.tup hy269 e_t35
    replace e_tg := kF _ _ ne_tg e_tg
    replace e_t54 := kF _ _ ne_t54 e_t54
    replace hA_t54 := prs_keep kF hy269 hA_t54
    clear hB
    have hB := hBF
    replace kH := kH.trans kF
    refine ⟨_, rfl, iteY rfl ?_⟩
    refine ⟨_, rfl, _, rfl, _, rfl, _, rfl, (by show 4 ≤ sizeLine; decide), fun l270 nl270 => ?_⟩
    have ne_l270 : l270 ≠ b := (hB.ne_new nl270).symm
    have s271 : Same HF (upd HF l270 (.lst [.ref t19, .ref t35, .ref tg, .ref t54])) := same_new nl270
    have e_l270 : upd HF l270 (.lst [.ref t19, .ref t35, .ref tg, .ref t54]) l270 = some (.lst [.ref t19, .ref t35, .ref tg, .ref t54]) := upd_same
    revert s271 e_l270; generalize upd HF l270 (.lst [.ref t19, .ref t35, .ref tg, .ref t54]) = H272; intro s271 e_l270
    replace e_t19 := s271 _ _ e_t19
    replace e_t35 := s271 _ _ e_t35
    replace e_tg := s271 _ _ e_tg
    replace e_t54 := s271 _ _ e_t54
    replace hA_t54 := prs_same s271 hA_t54
    replace hB := hB.same s271
    replace kH := kH.trans (Keep.of_same s271)
    have fk273 : Fi 3 (.list [td (ps20), td (ps36), .list (nd (fr)), .list ((qs56).map pd)]) := fi_list (j := 2) (n := 4) (fa_cons ((fi_tup hp21 (by omega)).up) (fa_cons ((fi_tup hp37 (by omega)).up) (fa_cons ((fi_lst (pm_fw pfr (by omega))).up) (fa_cons (fi_prs (wcb hc57 (by omega) (by omega))) fa_nil)))) rfl (by decide)
    refine ⟨l270, _, rfl, .lst (.inl (.inl e_l270)) (.cons (.tup (.inl (.inl e_t19)) (dp_nats _)) (.cons (.tup (.inl (.inl e_t35)) (dp_nats _)) (.cons (.lst (.inl (.inl e_tg)) (dp_nats _)) (.cons (.lst (.inl (.inl e_t54)) (prs_dp hA_t54)) .nil)))), fk273.lay, fk273.show_, Nat.le_trans fk273.depth (by decide), Nat.le_trans fk273.len (by decide), _, rfl, rfl, ?_⟩
    exact q_bl (Q := Q) (decide_eq_true (by rw [hkst]; rfl)) (q _ kH (hB.mono (by omega)))
end
end Pc
namespace Pc
open PySem PySem.Spec PyProof.Rows L2 RZ
section
variable {P : Program} {w : World} {K : PySem.W.Frag} {mg : Str → Option Value} {base : Heap}
/-! ### the law -/
def spLaw (K : PySem.W.Frag) : Sp := fun vs H Q _ => ∃ (a : Addr) (ns : List Int), vs = [.ref a] ∧ SqL K H a (ns.map V.int) ∧ ns.length ≤ 63 ∧ ∀ H', Q (.bl true) H'
theorem ok_law (T : Env K mg) {f : Addr} {fd : FuncData} (F : Fun K "law" "law" s_law f fd) : FnG P w K mg base CX0 10 f fd ["_law_script"] (spLaw K) := by
  have GC : FnOk P w K mg base CX0 1 T.f_folded T.d_folded ["_law_script", "_law_most"] (spCells K) := ok_cells T
  have GB : FnOk P w K mg base CX0 1 T.f_stream T.d_stream ["_law_script", "_law_k"] (spBox K) := ok_box T
  have GR : FnG P w K mg base CX0 9 T.f_right T.d_right ["_law_source"] spRight := ok_right T
  refine fun_g F sc_law (fun vs H Q E h => ?_) (fun cdv A outer s H vs Q E hr hgd h => ?_)
  · obtain ⟨a, ns, rfl, _⟩ := h
    rfl
  · obtain ⟨a, ns, rfl, hS, hn, q⟩ := h
    have h1 := hr.mono (show 1 ≤ 9 by decide)
    refine ⟨_, pss_cons (ps_set (i := 1) sc_law.nd rfl (.inl rfl) (pe_call GC h1 (by rfl) T.g_folded T.F_folded.kp T.b_folded .nil pass0 (pa_cons (pv 0) (pa_cons pe_int pa_nil)))) <|
      pss_cons (ps_for PassesOwn.never rfl (pi_range1 (by rfl) T.n_range (pa_cons (pe_callB call_len_seq (by rfl) T.n_len PySem.boot_len (pa_cons (pv 1) pa_nil)) pa_nil)) (pg_name (i := 2) sc_law.nd rfl (.inl rfl))
        (pss_cons (ps_set (i := 3) sc_law.nd rfl (.inr rfl) (pe_call GB h1 (by rfl) T.g_stream T.F_stream.kp T.b_stream .nil pass0 (pa_cons (pv 1) (pa_cons (pv 2) pa_nil))))
        (pss_one (ps_if (pt_not (pt_val (pe_callB (cr_all rfl) (by rfl) T.n_all (by decide +kernel) (pa_cons
          (pe_lc (own := [("_law_turn", 4)]) (g := gName 4) (tt := tYes) rfl sc_law.nd (pi_range1 (by rfl) T.n_range (pa_cons pe_int pa_nil)) (blkOk_by (N := N_law) (sc := defScope s_law) (by decide +kernel))
            (fun _ _ _ _ _ => pg_name (i := 4) sc_law.nd rfl (.inl rfl)) (fun _ _ _ _ _ => pts_nil)
            (fun _ _ _ _ _ => pe_callG GR hr hgd (by rfl) T.g_right T.F_right.kp T.b_right .nil pass0 (pa_cons (pv 3) pa_nil))) pa_nil)))) (pss_one (ps_ret pe_bl)) pss_nil)))) <|
      pss_one (ps_ret pe_bl), ?_⟩
    refine ⟨.ref a, rfl, a, ns, 3, rfl, hS, hn, by decide, by decide, fun Hc p cs sc np ep hc1 hc2 => ?_⟩
    have hlen : (cs.map V.int).length = cs.length := List.length_map _
    refine ⟨.ref p, rfl, p, _, rfl, .inl (.inl (.inl ep)), _, rfl, by omega, by omega, ?_⟩
    have hj : ((cs.map V.int).length : Int).toNat = cs.length := by rw [hlen]; rfl
    rw [hj]
    refine for_range (fun i σ H' => H' p = some (.lst (cs.map V.int)) ∧ ∃ (y2 y3 y4 : Option V), σ = [some (.ref a), some (.ref p), y2, y3, y4]) ⟨ep, none, none, none, rfl⟩ (fun i σ H1 hi hPv => ?_) (fun σ H' hPv => q _)
    obtain ⟨ep1, y2, y3, y4, rfl⟩ := hPv
    refine ⟨.ref p, rfl, _, rfl, p, cs, i, ?_, .inl (.inl ep1), by omega, fun Hb b sb nb hBb => ?_⟩
    · show [V.ref p, V.int ((0 : Int) + (i : Nat))] = _
      rw [Int.zero_add]
    have epb := sb _ _ ep1
    have pb : p ≠ b := ne_of_none ep1 nb
    refine ⟨2, rfl, by decide, by decide, fun D nD => ?_⟩
    have bD : b ≠ D := hBb.ne_new nD
    have pD : p ≠ D := ne_of_none epb nD
    refine lc_range (n := 2) (fun j H' => H' p = some (.lst (cs.map V.int)) ∧ Box (1000 * (2 - j)) H' b ∧ H' D = some (.lst (List.replicate j (.bl true))))
      ⟨same_new nD _ _ epb, (hBb.same (same_new nD)).mono (by decide), upd_same⟩ (fun j H' hj hPv => ?_) (fun H' hPv => ?_)
    · obtain ⟨ep', hB', eD⟩ := hPv
      refine ⟨rfl, yes_if ⟨_, rfl, b, 1000 * (2 - (j + 1)), rfl, hB'.mono (by omega), fun H2 k2 hB2 => ⟨_, k2 _ _ bD.symm eD, ?_, ?_, ?_, ?_⟩⟩⟩
      · rw [List.length_replicate]; exact small1000 (by omega)
      · rw [upd_ne pD]; exact k2 _ _ pb ep'
      · exact hB2.keep (c := D) keep_upd bD
      · rw [upd_same, List.replicate_succ']
    · obtain ⟨ep', hB', eD⟩ := hPv
      refine ⟨D, List.replicate 2 true, rfl, by rw [List.map_replicate]; exact .inl (.inl eD), _, rfl, ?_⟩
      rw [all_rep]
      exact iteN ⟨ep', _, _, _, rfl⟩
end
end Pc
namespace Pc
open PySem PySem.Spec PyProof.Rows L2 RZ
theorem all_mk {l : PySem.W.OpenLaw} {w : World} {K : PySem.W.Frag} {h : Heap} {mg : Str → Option Value} {fa f_p_check_person f_p_check_call f_p_check_word f_p_people_of f_p_moved f_p_renumbered f_p_word_renumbered f_p_sheet_renumbered f_p_joined f_p_sheets_joined f_p_without f_stream f_draw f_folded f_pick f_same f_shuffled f_random_pairing f_random_call f_random_word f_ends_joined f_refused f_people_right f_right f_law C_NoPerson C_Last C_NoWord f_i_NoPerson f_i_Last : Addr} (X : K.In h) (G : h.Ns mainGlobals mg) (hfa : mg "law" = some (.ref fa))
    {od_p_check_person an_p_check_person : Option Addr} {sl_p_check_person : Array (Option Value)} {oc_p_check_person kV_p_check_person dc_p_check_person pm_p_check_person cd_p_check_person ct_p_check_person : Value}
    {od_p_check_call an_p_check_call : Option Addr} {sl_p_check_call : Array (Option Value)} {oc_p_check_call kV_p_check_call dc_p_check_call pm_p_check_call cd_p_check_call ct_p_check_call : Value}
    {od_p_check_word an_p_check_word : Option Addr} {sl_p_check_word : Array (Option Value)} {oc_p_check_word kV_p_check_word dc_p_check_word pm_p_check_word cd_p_check_word ct_p_check_word : Value}
    {od_p_people_of an_p_people_of : Option Addr} {sl_p_people_of : Array (Option Value)} {oc_p_people_of kV_p_people_of dc_p_people_of pm_p_people_of cd_p_people_of ct_p_people_of : Value}
    {od_p_moved an_p_moved : Option Addr} {sl_p_moved : Array (Option Value)} {oc_p_moved kV_p_moved dc_p_moved pm_p_moved cd_p_moved ct_p_moved : Value}
    {od_p_renumbered an_p_renumbered : Option Addr} {sl_p_renumbered : Array (Option Value)} {oc_p_renumbered kV_p_renumbered dc_p_renumbered pm_p_renumbered cd_p_renumbered ct_p_renumbered : Value}
    {od_p_word_renumbered an_p_word_renumbered : Option Addr} {sl_p_word_renumbered : Array (Option Value)} {oc_p_word_renumbered kV_p_word_renumbered dc_p_word_renumbered pm_p_word_renumbered cd_p_word_renumbered ct_p_word_renumbered : Value}
    {od_p_sheet_renumbered an_p_sheet_renumbered : Option Addr} {sl_p_sheet_renumbered : Array (Option Value)} {oc_p_sheet_renumbered kV_p_sheet_renumbered dc_p_sheet_renumbered pm_p_sheet_renumbered cd_p_sheet_renumbered ct_p_sheet_renumbered : Value}
    {od_p_joined an_p_joined : Option Addr} {sl_p_joined : Array (Option Value)} {oc_p_joined kV_p_joined dc_p_joined pm_p_joined cd_p_joined ct_p_joined : Value}
    {od_p_sheets_joined an_p_sheets_joined : Option Addr} {sl_p_sheets_joined : Array (Option Value)} {oc_p_sheets_joined kV_p_sheets_joined dc_p_sheets_joined pm_p_sheets_joined cd_p_sheets_joined ct_p_sheets_joined : Value}
    {od_p_without an_p_without : Option Addr} {sl_p_without : Array (Option Value)} {oc_p_without kV_p_without dc_p_without pm_p_without cd_p_without ct_p_without : Value}
    {od_stream an_stream : Option Addr} {sl_stream : Array (Option Value)} {oc_stream kV_stream dc_stream pm_stream cd_stream ct_stream : Value}
    {od_draw an_draw : Option Addr} {sl_draw : Array (Option Value)} {oc_draw kV_draw dc_draw pm_draw cd_draw ct_draw : Value}
    {od_folded an_folded : Option Addr} {sl_folded : Array (Option Value)} {oc_folded kV_folded dc_folded pm_folded cd_folded ct_folded : Value}
    {od_pick an_pick : Option Addr} {sl_pick : Array (Option Value)} {oc_pick kV_pick dc_pick pm_pick cd_pick ct_pick : Value}
    {od_same an_same : Option Addr} {sl_same : Array (Option Value)} {oc_same kV_same dc_same pm_same cd_same ct_same : Value}
    {od_shuffled an_shuffled : Option Addr} {sl_shuffled : Array (Option Value)} {oc_shuffled kV_shuffled dc_shuffled pm_shuffled cd_shuffled ct_shuffled : Value}
    {od_random_pairing an_random_pairing : Option Addr} {sl_random_pairing : Array (Option Value)} {oc_random_pairing kV_random_pairing dc_random_pairing pm_random_pairing cd_random_pairing ct_random_pairing : Value}
    {od_random_call an_random_call : Option Addr} {sl_random_call : Array (Option Value)} {oc_random_call kV_random_call dc_random_call pm_random_call cd_random_call ct_random_call : Value}
    {od_random_word an_random_word : Option Addr} {sl_random_word : Array (Option Value)} {oc_random_word kV_random_word dc_random_word pm_random_word cd_random_word ct_random_word : Value}
    {od_ends_joined an_ends_joined : Option Addr} {sl_ends_joined : Array (Option Value)} {oc_ends_joined kV_ends_joined dc_ends_joined pm_ends_joined cd_ends_joined ct_ends_joined : Value}
    {od_refused an_refused : Option Addr} {sl_refused : Array (Option Value)} {oc_refused kV_refused dc_refused pm_refused cd_refused ct_refused : Value}
    {od_people_right an_people_right : Option Addr} {sl_people_right : Array (Option Value)} {oc_people_right kV_people_right dc_people_right pm_people_right cd_people_right ct_people_right : Value}
    {od_right an_right : Option Addr} {sl_right : Array (Option Value)} {oc_right kV_right dc_right pm_right cd_right ct_right : Value}
    {od_law an_law : Option Addr} {sl_law : Array (Option Value)} {oc_law kV_law dc_law pm_law cd_law ct_law : Value}
    {nm_NoPerson qn_NoPerson : Str} {Nn_NoPerson : Addr} {bs_NoPerson : List Value} {sn_NoPerson : List Str} {sub_NoPerson : List Value} {ab_NoPerson : Bool} {col_NoPerson : Option Bool} {dd_NoPerson : Option Addr} {m0_NoPerson m1_NoPerson m2_NoPerson m3_NoPerson m5_NoPerson : Option Value} {od_i_NoPerson an_i_NoPerson : Option Addr} {sl_i_NoPerson : Array (Option Value)} {oc_i_NoPerson kV_i_NoPerson dc_i_NoPerson pm_i_NoPerson cd_i_NoPerson ct_i_NoPerson : Value}
    {nm_Last qn_Last : Str} {Nn_Last : Addr} {bs_Last : List Value} {sn_Last : List Str} {sub_Last : List Value} {ab_Last : Bool} {col_Last : Option Bool} {dd_Last : Option Addr} {m0_Last m1_Last m2_Last m3_Last m5_Last : Option Value} {od_i_Last an_i_Last : Option Addr} {sl_i_Last : Array (Option Value)} {oc_i_Last kV_i_Last dc_i_Last pm_i_Last cd_i_Last ct_i_Last : Value}
    (a_p_check_person : PySem.W.nsIn K mainGlobals "check_person" = some (some (.ref f_p_check_person))) (l_p_check_person : K.lookup f_p_check_person = some ⟨oc_p_check_person, od_p_check_person, .func (PySem.W.fnOf "check_person" "check_person" (defArgs s_p_check_person) (defBody s_p_check_person) (defScope s_p_check_person) .none kV_p_check_person dc_p_check_person pm_p_check_person an_p_check_person cd_p_check_person ct_p_check_person), sl_p_check_person⟩) (c_p_check_person : PySem.W.codeIn K cd_p_check_person "check_person" = true) (k_p_check_person : PySem.W.keepIn K (.ref f_p_check_person) = true)
    (a_p_check_call : PySem.W.nsIn K mainGlobals "check_call" = some (some (.ref f_p_check_call))) (l_p_check_call : K.lookup f_p_check_call = some ⟨oc_p_check_call, od_p_check_call, .func (PySem.W.fnOf "check_call" "check_call" (defArgs s_p_check_call) (defBody s_p_check_call) (defScope s_p_check_call) .none kV_p_check_call dc_p_check_call pm_p_check_call an_p_check_call cd_p_check_call ct_p_check_call), sl_p_check_call⟩) (c_p_check_call : PySem.W.codeIn K cd_p_check_call "check_call" = true) (k_p_check_call : PySem.W.keepIn K (.ref f_p_check_call) = true)
    (a_p_check_word : PySem.W.nsIn K mainGlobals "check_word" = some (some (.ref f_p_check_word))) (l_p_check_word : K.lookup f_p_check_word = some ⟨oc_p_check_word, od_p_check_word, .func (PySem.W.fnOf "check_word" "check_word" (defArgs s_p_check_word) (defBody s_p_check_word) (defScope s_p_check_word) .none kV_p_check_word dc_p_check_word pm_p_check_word an_p_check_word cd_p_check_word ct_p_check_word), sl_p_check_word⟩) (c_p_check_word : PySem.W.codeIn K cd_p_check_word "check_word" = true) (k_p_check_word : PySem.W.keepIn K (.ref f_p_check_word) = true)
    (a_p_people_of : PySem.W.nsIn K mainGlobals "people_of" = some (some (.ref f_p_people_of))) (l_p_people_of : K.lookup f_p_people_of = some ⟨oc_p_people_of, od_p_people_of, .func (PySem.W.fnOf "people_of" "people_of" (defArgs s_p_people_of) (defBody s_p_people_of) (defScope s_p_people_of) .none kV_p_people_of dc_p_people_of pm_p_people_of an_p_people_of cd_p_people_of ct_p_people_of), sl_p_people_of⟩) (c_p_people_of : PySem.W.codeIn K cd_p_people_of "people_of" = true) (k_p_people_of : PySem.W.keepIn K (.ref f_p_people_of) = true)
    (a_p_moved : PySem.W.nsIn K mainGlobals "moved" = some (some (.ref f_p_moved))) (l_p_moved : K.lookup f_p_moved = some ⟨oc_p_moved, od_p_moved, .func (PySem.W.fnOf "moved" "moved" (defArgs s_p_moved) (defBody s_p_moved) (defScope s_p_moved) .none kV_p_moved dc_p_moved pm_p_moved an_p_moved cd_p_moved ct_p_moved), sl_p_moved⟩) (c_p_moved : PySem.W.codeIn K cd_p_moved "moved" = true) (k_p_moved : PySem.W.keepIn K (.ref f_p_moved) = true)
    (a_p_renumbered : PySem.W.nsIn K mainGlobals "renumbered" = some (some (.ref f_p_renumbered))) (l_p_renumbered : K.lookup f_p_renumbered = some ⟨oc_p_renumbered, od_p_renumbered, .func (PySem.W.fnOf "renumbered" "renumbered" (defArgs s_p_renumbered) (defBody s_p_renumbered) (defScope s_p_renumbered) .none kV_p_renumbered dc_p_renumbered pm_p_renumbered an_p_renumbered cd_p_renumbered ct_p_renumbered), sl_p_renumbered⟩) (c_p_renumbered : PySem.W.codeIn K cd_p_renumbered "renumbered" = true) (k_p_renumbered : PySem.W.keepIn K (.ref f_p_renumbered) = true)
    (a_p_word_renumbered : PySem.W.nsIn K mainGlobals "word_renumbered" = some (some (.ref f_p_word_renumbered))) (l_p_word_renumbered : K.lookup f_p_word_renumbered = some ⟨oc_p_word_renumbered, od_p_word_renumbered, .func (PySem.W.fnOf "word_renumbered" "word_renumbered" (defArgs s_p_word_renumbered) (defBody s_p_word_renumbered) (defScope s_p_word_renumbered) .none kV_p_word_renumbered dc_p_word_renumbered pm_p_word_renumbered an_p_word_renumbered cd_p_word_renumbered ct_p_word_renumbered), sl_p_word_renumbered⟩) (c_p_word_renumbered : PySem.W.codeIn K cd_p_word_renumbered "word_renumbered" = true) (k_p_word_renumbered : PySem.W.keepIn K (.ref f_p_word_renumbered) = true)
    (a_p_sheet_renumbered : PySem.W.nsIn K mainGlobals "sheet_renumbered" = some (some (.ref f_p_sheet_renumbered))) (l_p_sheet_renumbered : K.lookup f_p_sheet_renumbered = some ⟨oc_p_sheet_renumbered, od_p_sheet_renumbered, .func (PySem.W.fnOf "sheet_renumbered" "sheet_renumbered" (defArgs s_p_sheet_renumbered) (defBody s_p_sheet_renumbered) (defScope s_p_sheet_renumbered) .none kV_p_sheet_renumbered dc_p_sheet_renumbered pm_p_sheet_renumbered an_p_sheet_renumbered cd_p_sheet_renumbered ct_p_sheet_renumbered), sl_p_sheet_renumbered⟩) (c_p_sheet_renumbered : PySem.W.codeIn K cd_p_sheet_renumbered "sheet_renumbered" = true) (k_p_sheet_renumbered : PySem.W.keepIn K (.ref f_p_sheet_renumbered) = true)
    (a_p_joined : PySem.W.nsIn K mainGlobals "joined" = some (some (.ref f_p_joined))) (l_p_joined : K.lookup f_p_joined = some ⟨oc_p_joined, od_p_joined, .func (PySem.W.fnOf "joined" "joined" (defArgs s_p_joined) (defBody s_p_joined) (defScope s_p_joined) .none kV_p_joined dc_p_joined pm_p_joined an_p_joined cd_p_joined ct_p_joined), sl_p_joined⟩) (c_p_joined : PySem.W.codeIn K cd_p_joined "joined" = true) (k_p_joined : PySem.W.keepIn K (.ref f_p_joined) = true)
    (a_p_sheets_joined : PySem.W.nsIn K mainGlobals "sheets_joined" = some (some (.ref f_p_sheets_joined))) (l_p_sheets_joined : K.lookup f_p_sheets_joined = some ⟨oc_p_sheets_joined, od_p_sheets_joined, .func (PySem.W.fnOf "sheets_joined" "sheets_joined" (defArgs s_p_sheets_joined) (defBody s_p_sheets_joined) (defScope s_p_sheets_joined) .none kV_p_sheets_joined dc_p_sheets_joined pm_p_sheets_joined an_p_sheets_joined cd_p_sheets_joined ct_p_sheets_joined), sl_p_sheets_joined⟩) (c_p_sheets_joined : PySem.W.codeIn K cd_p_sheets_joined "sheets_joined" = true) (k_p_sheets_joined : PySem.W.keepIn K (.ref f_p_sheets_joined) = true)
    (a_p_without : PySem.W.nsIn K mainGlobals "without" = some (some (.ref f_p_without))) (l_p_without : K.lookup f_p_without = some ⟨oc_p_without, od_p_without, .func (PySem.W.fnOf "without" "without" (defArgs s_p_without) (defBody s_p_without) (defScope s_p_without) .none kV_p_without dc_p_without pm_p_without an_p_without cd_p_without ct_p_without), sl_p_without⟩) (c_p_without : PySem.W.codeIn K cd_p_without "without" = true) (k_p_without : PySem.W.keepIn K (.ref f_p_without) = true)
    (a_stream : PySem.W.nsIn K mainGlobals "_law_stream" = some (some (.ref f_stream))) (l_stream : K.lookup f_stream = some ⟨oc_stream, od_stream, .func (PySem.W.fnOf "_law_stream" "_law_stream" (defArgs s_stream) (defBody s_stream) (defScope s_stream) .none kV_stream dc_stream pm_stream an_stream cd_stream ct_stream), sl_stream⟩) (c_stream : PySem.W.codeIn K cd_stream "_law_stream" = true) (k_stream : PySem.W.keepIn K (.ref f_stream) = true)
    (a_draw : PySem.W.nsIn K mainGlobals "_law_draw" = some (some (.ref f_draw))) (l_draw : K.lookup f_draw = some ⟨oc_draw, od_draw, .func (PySem.W.fnOf "_law_draw" "_law_draw" (defArgs s_draw) (defBody s_draw) (defScope s_draw) .none kV_draw dc_draw pm_draw an_draw cd_draw ct_draw), sl_draw⟩) (c_draw : PySem.W.codeIn K cd_draw "_law_draw" = true) (k_draw : PySem.W.keepIn K (.ref f_draw) = true)
    (a_folded : PySem.W.nsIn K mainGlobals "_law_folded" = some (some (.ref f_folded))) (l_folded : K.lookup f_folded = some ⟨oc_folded, od_folded, .func (PySem.W.fnOf "_law_folded" "_law_folded" (defArgs s_folded) (defBody s_folded) (defScope s_folded) .none kV_folded dc_folded pm_folded an_folded cd_folded ct_folded), sl_folded⟩) (c_folded : PySem.W.codeIn K cd_folded "_law_folded" = true) (k_folded : PySem.W.keepIn K (.ref f_folded) = true)
    (a_pick : PySem.W.nsIn K mainGlobals "_law_pick" = some (some (.ref f_pick))) (l_pick : K.lookup f_pick = some ⟨oc_pick, od_pick, .func (PySem.W.fnOf "_law_pick" "_law_pick" (defArgs s_pick) (defBody s_pick) (defScope s_pick) .none kV_pick dc_pick pm_pick an_pick cd_pick ct_pick), sl_pick⟩) (c_pick : PySem.W.codeIn K cd_pick "_law_pick" = true) (k_pick : PySem.W.keepIn K (.ref f_pick) = true)
    (a_same : PySem.W.nsIn K mainGlobals "_law_same" = some (some (.ref f_same))) (l_same : K.lookup f_same = some ⟨oc_same, od_same, .func (PySem.W.fnOf "_law_same" "_law_same" (defArgs s_same) (defBody s_same) (defScope s_same) .none kV_same dc_same pm_same an_same cd_same ct_same), sl_same⟩) (c_same : PySem.W.codeIn K cd_same "_law_same" = true) (k_same : PySem.W.keepIn K (.ref f_same) = true)
    (a_shuffled : PySem.W.nsIn K mainGlobals "_law_shuffled" = some (some (.ref f_shuffled))) (l_shuffled : K.lookup f_shuffled = some ⟨oc_shuffled, od_shuffled, .func (PySem.W.fnOf "_law_shuffled" "_law_shuffled" (defArgs s_shuffled) (defBody s_shuffled) (defScope s_shuffled) .none kV_shuffled dc_shuffled pm_shuffled an_shuffled cd_shuffled ct_shuffled), sl_shuffled⟩) (c_shuffled : PySem.W.codeIn K cd_shuffled "_law_shuffled" = true) (k_shuffled : PySem.W.keepIn K (.ref f_shuffled) = true)
    (a_random_pairing : PySem.W.nsIn K mainGlobals "_law_random_pairing" = some (some (.ref f_random_pairing))) (l_random_pairing : K.lookup f_random_pairing = some ⟨oc_random_pairing, od_random_pairing, .func (PySem.W.fnOf "_law_random_pairing" "_law_random_pairing" (defArgs s_random_pairing) (defBody s_random_pairing) (defScope s_random_pairing) .none kV_random_pairing dc_random_pairing pm_random_pairing an_random_pairing cd_random_pairing ct_random_pairing), sl_random_pairing⟩) (c_random_pairing : PySem.W.codeIn K cd_random_pairing "_law_random_pairing" = true) (k_random_pairing : PySem.W.keepIn K (.ref f_random_pairing) = true)
    (a_random_call : PySem.W.nsIn K mainGlobals "_law_random_call" = some (some (.ref f_random_call))) (l_random_call : K.lookup f_random_call = some ⟨oc_random_call, od_random_call, .func (PySem.W.fnOf "_law_random_call" "_law_random_call" (defArgs s_random_call) (defBody s_random_call) (defScope s_random_call) .none kV_random_call dc_random_call pm_random_call an_random_call cd_random_call ct_random_call), sl_random_call⟩) (c_random_call : PySem.W.codeIn K cd_random_call "_law_random_call" = true) (k_random_call : PySem.W.keepIn K (.ref f_random_call) = true)
    (a_random_word : PySem.W.nsIn K mainGlobals "_law_random_word" = some (some (.ref f_random_word))) (l_random_word : K.lookup f_random_word = some ⟨oc_random_word, od_random_word, .func (PySem.W.fnOf "_law_random_word" "_law_random_word" (defArgs s_random_word) (defBody s_random_word) (defScope s_random_word) .none kV_random_word dc_random_word pm_random_word an_random_word cd_random_word ct_random_word), sl_random_word⟩) (c_random_word : PySem.W.codeIn K cd_random_word "_law_random_word" = true) (k_random_word : PySem.W.keepIn K (.ref f_random_word) = true)
    (a_ends_joined : PySem.W.nsIn K mainGlobals "_law_ends_joined" = some (some (.ref f_ends_joined))) (l_ends_joined : K.lookup f_ends_joined = some ⟨oc_ends_joined, od_ends_joined, .func (PySem.W.fnOf "_law_ends_joined" "_law_ends_joined" (defArgs s_ends_joined) (defBody s_ends_joined) (defScope s_ends_joined) .none kV_ends_joined dc_ends_joined pm_ends_joined an_ends_joined cd_ends_joined ct_ends_joined), sl_ends_joined⟩) (c_ends_joined : PySem.W.codeIn K cd_ends_joined "_law_ends_joined" = true) (k_ends_joined : PySem.W.keepIn K (.ref f_ends_joined) = true)
    (a_refused : PySem.W.nsIn K mainGlobals "_law_refused" = some (some (.ref f_refused))) (l_refused : K.lookup f_refused = some ⟨oc_refused, od_refused, .func (PySem.W.fnOf "_law_refused" "_law_refused" (defArgs s_refused) (defBody s_refused) (defScope s_refused) .none kV_refused dc_refused pm_refused an_refused cd_refused ct_refused), sl_refused⟩) (c_refused : PySem.W.codeIn K cd_refused "_law_refused" = true) (k_refused : PySem.W.keepIn K (.ref f_refused) = true)
    (a_people_right : PySem.W.nsIn K mainGlobals "_law_people_right" = some (some (.ref f_people_right))) (l_people_right : K.lookup f_people_right = some ⟨oc_people_right, od_people_right, .func (PySem.W.fnOf "_law_people_right" "_law_people_right" (defArgs s_people_right) (defBody s_people_right) (defScope s_people_right) .none kV_people_right dc_people_right pm_people_right an_people_right cd_people_right ct_people_right), sl_people_right⟩) (c_people_right : PySem.W.codeIn K cd_people_right "_law_people_right" = true) (k_people_right : PySem.W.keepIn K (.ref f_people_right) = true)
    (a_right : PySem.W.nsIn K mainGlobals "_law_right" = some (some (.ref f_right))) (l_right : K.lookup f_right = some ⟨oc_right, od_right, .func (PySem.W.fnOf "_law_right" "_law_right" (defArgs s_right) (defBody s_right) (defScope s_right) .none kV_right dc_right pm_right an_right cd_right ct_right), sl_right⟩) (c_right : PySem.W.codeIn K cd_right "_law_right" = true) (k_right : PySem.W.keepIn K (.ref f_right) = true)
    (a_law : PySem.W.nsIn K mainGlobals "law" = some (some (.ref f_law))) (l_law : K.lookup f_law = some ⟨oc_law, od_law, .func (PySem.W.fnOf "law" "law" (defArgs s_law) (defBody s_law) (defScope s_law) .none kV_law dc_law pm_law an_law cd_law ct_law), sl_law⟩) (c_law : PySem.W.codeIn K cd_law "law" = true) (k_law : PySem.W.keepIn K (.ref f_law) = true)
    (aC_NoPerson : PySem.W.nsIn K mainGlobals "NoPerson" = some (some (.ref C_NoPerson)))
    (eC_NoPerson : PySem.W.subIn K (.ref C_NoPerson) (.type "BaseException") = some true)
    (tC_NoPerson : PySem.W.typeIn K (.ref C_NoPerson) = some (.type "type"))
    (is_NoPerson : PySem.W.isClsIn K C_NoPerson = true)
    (aC_Last : PySem.W.nsIn K mainGlobals "Last" = some (some (.ref C_Last)))
    (eC_Last : PySem.W.subIn K (.ref C_Last) (.type "BaseException") = some true)
    (tC_Last : PySem.W.typeIn K (.ref C_Last) = some (.type "type"))
    (is_Last : PySem.W.isClsIn K C_Last = true)
    (aC_NoWord : PySem.W.nsIn K mainGlobals "NoWord" = some (some (.ref C_NoWord)))
    (eC_NoWord : PySem.W.subIn K (.ref C_NoWord) (.type "BaseException") = some true)
    (tC_NoWord : PySem.W.typeIn K (.ref C_NoWord) = some (.type "type"))
    (is_NoWord : PySem.W.isClsIn K C_NoWord = true)
    (xC_NoPerson : K.lookup C_NoPerson = some (excClassObj nm_NoPerson qn_NoPerson C_NoPerson Nn_NoPerson bs_NoPerson [.type "LookupError", .type "Exception", .type "BaseException", .type "object"] true sn_NoPerson sub_NoPerson ab_NoPerson col_NoPerson dd_NoPerson m0_NoPerson m1_NoPerson m2_NoPerson m3_NoPerson m5_NoPerson "LookupError.__new__"))
    (sa_NoPerson : PySem.W.findIn K (.ref C_NoPerson) "__setattr__" = some (some (.builtin "object.__setattr__")))
    (ga_NoPerson : PySem.W.findIn K (.ref C_NoPerson) "__getattribute__" = some (some (.builtin "BaseException.__getattribute__")))
    (gg_NoPerson : PySem.W.findIn K (.ref C_NoPerson) "__getattr__" = some none)
    (kC_NoPerson : PySem.W.keepIn K (.ref C_NoPerson) = true)
    (hC_NoPerson : PySem.W.hasDictIn K C_NoPerson = true)
    (cl_NoPerson : PySem.W.findIn K (.ref C_NoPerson) "__class__" = some (some (.builtin "object.__class__")))
    (mr_NoPerson : PySem.W.mroIn K C_NoPerson (.type "object") = some true)
    (iC_NoPerson : PySem.W.findIn K (.ref C_NoPerson) "__init__" = some (some (.ref f_i_NoPerson)))
    (tI_NoPerson : PySem.W.typeIn K (.ref f_i_NoPerson) = some (.type "function"))
    (lI_NoPerson : K.lookup f_i_NoPerson = some ⟨oc_i_NoPerson, od_i_NoPerson, .func (PySem.W.fnOf "__init__" "NoPerson.__init__" (defArgs s_i_NoPerson) (defBody s_i_NoPerson) (defScope s_i_NoPerson) .none kV_i_NoPerson dc_i_NoPerson pm_i_NoPerson an_i_NoPerson cd_i_NoPerson ct_i_NoPerson), sl_i_NoPerson⟩)
    (cI_NoPerson : PySem.W.codeIn K cd_i_NoPerson "NoPerson.__init__" = true)
    (kI_NoPerson : PySem.W.keepIn K (.ref f_i_NoPerson) = true)
    (su_NoPerson : PySem.W.subIn K (.ref C_NoPerson) (.ref C_NoPerson) = some true)
    (no_NoPerson : PySem.W.findIn K (.ref C_NoPerson) "person" = some none)
    (su_NoPerson_Last : PySem.W.subIn K (.ref C_NoPerson) (.ref C_Last) = some false)
    (su_NoPerson_NoWord : PySem.W.subIn K (.ref C_NoPerson) (.ref C_NoWord) = some false)
    (sb_NoPerson_LookupError : PySem.W.subIn K (.ref C_NoPerson) (.type "LookupError") = some true)
    (sb_NoPerson_RuntimeError : PySem.W.subIn K (.ref C_NoPerson) (.type "RuntimeError") = some false)
    (xC_Last : K.lookup C_Last = some (excClassObj nm_Last qn_Last C_Last Nn_Last bs_Last [.type "RuntimeError", .type "Exception", .type "BaseException", .type "object"] true sn_Last sub_Last ab_Last col_Last dd_Last m0_Last m1_Last m2_Last m3_Last m5_Last "RuntimeError.__new__"))
    (sa_Last : PySem.W.findIn K (.ref C_Last) "__setattr__" = some (some (.builtin "object.__setattr__")))
    (ga_Last : PySem.W.findIn K (.ref C_Last) "__getattribute__" = some (some (.builtin "BaseException.__getattribute__")))
    (gg_Last : PySem.W.findIn K (.ref C_Last) "__getattr__" = some none)
    (kC_Last : PySem.W.keepIn K (.ref C_Last) = true)
    (hC_Last : PySem.W.hasDictIn K C_Last = true)
    (cl_Last : PySem.W.findIn K (.ref C_Last) "__class__" = some (some (.builtin "object.__class__")))
    (mr_Last : PySem.W.mroIn K C_Last (.type "object") = some true)
    (iC_Last : PySem.W.findIn K (.ref C_Last) "__init__" = some (some (.ref f_i_Last)))
    (tI_Last : PySem.W.typeIn K (.ref f_i_Last) = some (.type "function"))
    (lI_Last : K.lookup f_i_Last = some ⟨oc_i_Last, od_i_Last, .func (PySem.W.fnOf "__init__" "Last.__init__" (defArgs s_i_Last) (defBody s_i_Last) (defScope s_i_Last) .none kV_i_Last dc_i_Last pm_i_Last an_i_Last cd_i_Last ct_i_Last), sl_i_Last⟩)
    (cI_Last : PySem.W.codeIn K cd_i_Last "Last.__init__" = true)
    (kI_Last : PySem.W.keepIn K (.ref f_i_Last) = true)
    (su_Last : PySem.W.subIn K (.ref C_Last) (.ref C_Last) = some true)
    (su_Last_NoPerson : PySem.W.subIn K (.ref C_Last) (.ref C_NoPerson) = some false)
    (su_Last_NoWord : PySem.W.subIn K (.ref C_Last) (.ref C_NoWord) = some false)
    (sb_Last_LookupError : PySem.W.subIn K (.ref C_Last) (.type "LookupError") = some false)
    (sb_Last_RuntimeError : PySem.W.subIn K (.ref C_Last) (.type "RuntimeError") = some true)
    (vV_LookupError : PySem.W.findCls K (.type "LookupError") (.type "type") "__init__" = some (.val (.builtin "LookupError.__init__")))
    (vV_RuntimeError : PySem.W.findCls K (.type "RuntimeError") (.type "type") "__init__" = some (.val (.builtin "RuntimeError.__init__")))
    (spG : PySem.W.specialIn K (.builtin "object.__class__") "__get__" = some (some (.builtin "getset_descriptor.__get__")))
    (tkG : PySem.W.takesIn K (.builtin "object.__class__") = some true)
    (z_len : PySem.W.nsIn K mainGlobals "len" = some none) (z_enumerate : PySem.W.nsIn K mainGlobals "enumerate" = some none) (z_tuple : PySem.W.nsIn K mainGlobals "tuple" = some none) (z_min : PySem.W.nsIn K mainGlobals "min" = some none) (z_max : PySem.W.nsIn K mainGlobals "max" = some none) (z_list : PySem.W.nsIn K mainGlobals "list" = some none) (z_range : PySem.W.nsIn K mainGlobals "range" = some none) (z_abs : PySem.W.nsIn K mainGlobals "abs" = some none) (z_int : PySem.W.nsIn K mainGlobals "int" = some none) (z_isinstance : PySem.W.nsIn K mainGlobals "isinstance" = some none) (z_all : PySem.W.nsIn K mainGlobals "all" = some none) (z_zip : PySem.W.nsIn K mainGlobals "zip" = some none) (z_bool : PySem.W.nsIn K mainGlobals "bool" = some none) (z_str : PySem.W.nsIn K mainGlobals "str" = some none) (z_RuntimeError : PySem.W.nsIn K mainGlobals "RuntimeError" = some none) (z_LookupError : PySem.W.nsIn K mainGlobals "LookupError" = some none) (z_repr : PySem.W.nsIn K mainGlobals "repr" = some none) :
    ∃ fd : FuncData, (∀ (s : Shared) (v : Value), BindsTo s fd ⟨[v], []⟩ [("_law_script", v)]) ∧ ∀ base : Heap, K.In base → base.Ns mainGlobals mg → FnG l.prog w K mg base CX0 10 fa fd ["_law_script"] (spLaw K) := by
  have e := hfa.symm.trans (PySem.W.mg_of X G a_law)
  cases e
  let T : Env K mg := {
    n_len := PySem.W.mg_none_of X G z_len,
    n_enumerate := PySem.W.mg_none_of X G z_enumerate,
    n_tuple := PySem.W.mg_none_of X G z_tuple,
    n_min := PySem.W.mg_none_of X G z_min,
    n_max := PySem.W.mg_none_of X G z_max,
    n_list := PySem.W.mg_none_of X G z_list,
    n_range := PySem.W.mg_none_of X G z_range,
    n_abs := PySem.W.mg_none_of X G z_abs,
    n_int := PySem.W.mg_none_of X G z_int,
    n_isinstance := PySem.W.mg_none_of X G z_isinstance,
    n_all := PySem.W.mg_none_of X G z_all,
    n_zip := PySem.W.mg_none_of X G z_zip,
    n_bool := PySem.W.mg_none_of X G z_bool,
    n_str := PySem.W.mg_none_of X G z_str,
    n_RuntimeError := PySem.W.mg_none_of X G z_RuntimeError,
    n_LookupError := PySem.W.mg_none_of X G z_LookupError,
    n_repr := PySem.W.mg_none_of X G z_repr,
    f_p_check_person := f_p_check_person, d_p_check_person := _, F_p_check_person := fun_mk (st := s_p_check_person) l_p_check_person c_p_check_person k_p_check_person, g_p_check_person := PySem.W.mg_of X G a_p_check_person,
    f_p_check_call := f_p_check_call, d_p_check_call := _, F_p_check_call := fun_mk (st := s_p_check_call) l_p_check_call c_p_check_call k_p_check_call, g_p_check_call := PySem.W.mg_of X G a_p_check_call,
    f_p_check_word := f_p_check_word, d_p_check_word := _, F_p_check_word := fun_mk (st := s_p_check_word) l_p_check_word c_p_check_word k_p_check_word, g_p_check_word := PySem.W.mg_of X G a_p_check_word,
    f_p_people_of := f_p_people_of, d_p_people_of := _, F_p_people_of := fun_mk (st := s_p_people_of) l_p_people_of c_p_people_of k_p_people_of, g_p_people_of := PySem.W.mg_of X G a_p_people_of,
    f_p_moved := f_p_moved, d_p_moved := _, F_p_moved := fun_mk (st := s_p_moved) l_p_moved c_p_moved k_p_moved, g_p_moved := PySem.W.mg_of X G a_p_moved,
    f_p_renumbered := f_p_renumbered, d_p_renumbered := _, F_p_renumbered := fun_mk (st := s_p_renumbered) l_p_renumbered c_p_renumbered k_p_renumbered, g_p_renumbered := PySem.W.mg_of X G a_p_renumbered,
    f_p_word_renumbered := f_p_word_renumbered, d_p_word_renumbered := _, F_p_word_renumbered := fun_mk (st := s_p_word_renumbered) l_p_word_renumbered c_p_word_renumbered k_p_word_renumbered, g_p_word_renumbered := PySem.W.mg_of X G a_p_word_renumbered,
    f_p_sheet_renumbered := f_p_sheet_renumbered, d_p_sheet_renumbered := _, F_p_sheet_renumbered := fun_mk (st := s_p_sheet_renumbered) l_p_sheet_renumbered c_p_sheet_renumbered k_p_sheet_renumbered, g_p_sheet_renumbered := PySem.W.mg_of X G a_p_sheet_renumbered,
    f_p_joined := f_p_joined, d_p_joined := _, F_p_joined := fun_mk (st := s_p_joined) l_p_joined c_p_joined k_p_joined, g_p_joined := PySem.W.mg_of X G a_p_joined,
    f_p_sheets_joined := f_p_sheets_joined, d_p_sheets_joined := _, F_p_sheets_joined := fun_mk (st := s_p_sheets_joined) l_p_sheets_joined c_p_sheets_joined k_p_sheets_joined, g_p_sheets_joined := PySem.W.mg_of X G a_p_sheets_joined,
    f_p_without := f_p_without, d_p_without := _, F_p_without := fun_mk (st := s_p_without) l_p_without c_p_without k_p_without, g_p_without := PySem.W.mg_of X G a_p_without,
    f_stream := f_stream, d_stream := _, F_stream := fun_mk (st := s_stream) l_stream c_stream k_stream, g_stream := PySem.W.mg_of X G a_stream,
    f_draw := f_draw, d_draw := _, F_draw := fun_mk (st := s_draw) l_draw c_draw k_draw, g_draw := PySem.W.mg_of X G a_draw,
    f_folded := f_folded, d_folded := _, F_folded := fun_mk (st := s_folded) l_folded c_folded k_folded, g_folded := PySem.W.mg_of X G a_folded,
    f_pick := f_pick, d_pick := _, F_pick := fun_mk (st := s_pick) l_pick c_pick k_pick, g_pick := PySem.W.mg_of X G a_pick,
    f_same := f_same, d_same := _, F_same := fun_mk (st := s_same) l_same c_same k_same, g_same := PySem.W.mg_of X G a_same,
    f_shuffled := f_shuffled, d_shuffled := _, F_shuffled := fun_mk (st := s_shuffled) l_shuffled c_shuffled k_shuffled, g_shuffled := PySem.W.mg_of X G a_shuffled,
    f_random_pairing := f_random_pairing, d_random_pairing := _, F_random_pairing := fun_mk (st := s_random_pairing) l_random_pairing c_random_pairing k_random_pairing, g_random_pairing := PySem.W.mg_of X G a_random_pairing,
    f_random_call := f_random_call, d_random_call := _, F_random_call := fun_mk (st := s_random_call) l_random_call c_random_call k_random_call, g_random_call := PySem.W.mg_of X G a_random_call,
    f_random_word := f_random_word, d_random_word := _, F_random_word := fun_mk (st := s_random_word) l_random_word c_random_word k_random_word, g_random_word := PySem.W.mg_of X G a_random_word,
    f_ends_joined := f_ends_joined, d_ends_joined := _, F_ends_joined := fun_mk (st := s_ends_joined) l_ends_joined c_ends_joined k_ends_joined, g_ends_joined := PySem.W.mg_of X G a_ends_joined,
    f_refused := f_refused, d_refused := _, F_refused := fun_mk (st := s_refused) l_refused c_refused k_refused, g_refused := PySem.W.mg_of X G a_refused,
    f_people_right := f_people_right, d_people_right := _, F_people_right := fun_mk (st := s_people_right) l_people_right c_people_right k_people_right, g_people_right := PySem.W.mg_of X G a_people_right,
    f_right := f_right, d_right := _, F_right := fun_mk (st := s_right) l_right c_right k_right, g_right := PySem.W.mg_of X G a_right,
    C_NoPerson := C_NoPerson, gC_NoPerson := PySem.W.mg_of X G aC_NoPerson,
    C_Last := C_Last, gC_Last := PySem.W.mg_of X G aC_Last,
    C_NoWord := C_NoWord, gC_NoWord := PySem.W.mg_of X G aC_NoWord,
    own_NoPerson := ⟨⟨nm_NoPerson, qn_NoPerson, Nn_NoPerson, bs_NoPerson, sn_NoPerson, sub_NoPerson, ab_NoPerson, col_NoPerson, dd_NoPerson, m0_NoPerson, m1_NoPerson, m2_NoPerson, m3_NoPerson, m5_NoPerson, xC_NoPerson⟩, over_of xC_NoPerson (by decide +kernel), sa_NoPerson, ga_NoPerson, gg_NoPerson, eC_NoPerson, tC_NoPerson, kC_NoPerson, hC_NoPerson, cl_NoPerson, mr_NoPerson⟩,
    kpt_NoPerson := ⟨ga_NoPerson, gg_NoPerson, eC_NoPerson, hC_NoPerson, cl_NoPerson, mr_NoPerson, spG, tkG⟩,
    f_i_NoPerson := f_i_NoPerson, d_i_NoPerson := _, F_i_NoPerson := fun_mk (st := s_i_NoPerson) lI_NoPerson cI_NoPerson kI_NoPerson, iC_NoPerson := iC_NoPerson, tI_NoPerson := tI_NoPerson, ee_NoPerson := exm_of' eC_NoPerson is_NoPerson tC_NoPerson su_NoPerson, kk_NoPerson := kit_own su_NoPerson is_NoPerson tC_NoPerson su_NoPerson,
    no_NoPerson := no_NoPerson,
    ex_NoPerson_Last := exm_of' eC_Last is_Last tC_Last su_NoPerson_Last, ki_NoPerson_Last := kit_own su_NoPerson is_Last tC_Last su_NoPerson_Last,
    ex_NoPerson_NoWord := exm_of' eC_NoWord is_NoWord tC_NoWord su_NoPerson_NoWord, ki_NoPerson_NoWord := kit_own su_NoPerson is_NoWord tC_NoWord su_NoPerson_NoWord,
    kb_NoPerson_LookupError := kit_blt (by decide +kernel) sb_NoPerson_LookupError,
    kb_NoPerson_RuntimeError := kit_blt (by decide +kernel) sb_NoPerson_RuntimeError,
    own_Last := ⟨⟨nm_Last, qn_Last, Nn_Last, bs_Last, sn_Last, sub_Last, ab_Last, col_Last, dd_Last, m0_Last, m1_Last, m2_Last, m3_Last, m5_Last, xC_Last⟩, over_of xC_Last (by decide +kernel), sa_Last, ga_Last, gg_Last, eC_Last, tC_Last, kC_Last, hC_Last, cl_Last, mr_Last⟩,
    kpt_Last := ⟨ga_Last, gg_Last, eC_Last, hC_Last, cl_Last, mr_Last, spG, tkG⟩,
    f_i_Last := f_i_Last, d_i_Last := _, F_i_Last := fun_mk (st := s_i_Last) lI_Last cI_Last kI_Last, iC_Last := iC_Last, tI_Last := tI_Last, ee_Last := exm_of' eC_Last is_Last tC_Last su_Last, kk_Last := kit_own su_Last is_Last tC_Last su_Last,
    ex_Last_NoPerson := exm_of' eC_NoPerson is_NoPerson tC_NoPerson su_Last_NoPerson, ki_Last_NoPerson := kit_own su_Last is_NoPerson tC_NoPerson su_Last_NoPerson,
    ex_Last_NoWord := exm_of' eC_NoWord is_NoWord tC_NoWord su_Last_NoWord, ki_Last_NoWord := kit_own su_Last is_NoWord tC_NoWord su_Last_NoWord,
    kb_Last_LookupError := kit_blt (by decide +kernel) sb_Last_LookupError,
    kb_Last_RuntimeError := kit_blt (by decide +kernel) sb_Last_RuntimeError,
    vV_LookupError := vV_LookupError,
    vV_RuntimeError := vV_RuntimeError }
  exact ⟨PySem.W.fnOf "law" "law" (defArgs s_law) (defBody s_law) (defScope s_law) .none kV_law dc_law pm_law an_law cd_law ct_law, fun s v => .of_eq rfl, fun base _ _ => ok_law T (fun_mk (st := s_law) l_law c_law k_law)⟩
end Pc
open PySem PySem.W PyProof.Rows
set_option maxHeartbeats 0 in
theorem PySem.Challenge.cw_partnercall_k67_other_numbers_and_people_holds : PySem.Challenge.rw_partnercall_k67_other_numbers_and_people.Holds := by
  w_on; o_law; k_head; (case hw => w_witness2)
  k_fill
  refine Pc.walk_g (l := PySem.Challenge.rw_partnercall_k67_other_numbers_and_people) (n := 63) (k := 10) (x := "_law_script") (sp := fun w => Pc.spLaw _) rfl (by decide) rfl ⟨rfl, by decide, by decide⟩ (fun w h Y => PySem.W.kIn_of Y) ?F (fun _ _ a ns hl hS => ⟨a, ns, rfl, hS, hl, fun _ => rfl⟩)
  case F =>
    intro w mg fa h KX G hmg
    refine' Pc.all_mk KX G hmg ?a_p_check_person ?l_p_check_person ?c_p_check_person ?k_p_check_person ?a_p_check_call ?l_p_check_call ?c_p_check_call ?k_p_check_call ?a_p_check_word ?l_p_check_word ?c_p_check_word ?k_p_check_word ?a_p_people_of ?l_p_people_of ?c_p_people_of ?k_p_people_of ?a_p_moved ?l_p_moved ?c_p_moved ?k_p_moved ?a_p_renumbered ?l_p_renumbered ?c_p_renumbered ?k_p_renumbered ?a_p_word_renumbered ?l_p_word_renumbered ?c_p_word_renumbered ?k_p_word_renumbered ?a_p_sheet_renumbered ?l_p_sheet_renumbered ?c_p_sheet_renumbered ?k_p_sheet_renumbered ?a_p_joined ?l_p_joined ?c_p_joined ?k_p_joined ?a_p_sheets_joined ?l_p_sheets_joined ?c_p_sheets_joined ?k_p_sheets_joined ?a_p_without ?l_p_without ?c_p_without ?k_p_without ?a_stream ?l_stream ?c_stream ?k_stream ?a_draw ?l_draw ?c_draw ?k_draw ?a_folded ?l_folded ?c_folded ?k_folded ?a_pick ?l_pick ?c_pick ?k_pick ?a_same ?l_same ?c_same ?k_same ?a_shuffled ?l_shuffled ?c_shuffled ?k_shuffled ?a_random_pairing ?l_random_pairing ?c_random_pairing ?k_random_pairing ?a_random_call ?l_random_call ?c_random_call ?k_random_call ?a_random_word ?l_random_word ?c_random_word ?k_random_word ?a_ends_joined ?l_ends_joined ?c_ends_joined ?k_ends_joined ?a_refused ?l_refused ?c_refused ?k_refused ?a_people_right ?l_people_right ?c_people_right ?k_people_right ?a_right ?l_right ?c_right ?k_right ?a_law ?l_law ?c_law ?k_law ?aC_NoPerson ?eC_NoPerson ?tC_NoPerson ?is_NoPerson ?aC_Last ?eC_Last ?tC_Last ?is_Last ?aC_NoWord ?eC_NoWord ?tC_NoWord ?is_NoWord ?xC_NoPerson ?sa_NoPerson ?ga_NoPerson ?gg_NoPerson ?kC_NoPerson ?hC_NoPerson ?cl_NoPerson ?mr_NoPerson ?iC_NoPerson ?tI_NoPerson ?lI_NoPerson ?cI_NoPerson ?kI_NoPerson ?su_NoPerson ?no_NoPerson ?su_NoPerson_Last ?su_NoPerson_NoWord ?sb_NoPerson_LookupError ?sb_NoPerson_RuntimeError ?xC_Last ?sa_Last ?ga_Last ?gg_Last ?kC_Last ?hC_Last ?cl_Last ?mr_Last ?iC_Last ?tI_Last ?lI_Last ?cI_Last ?kI_Last ?su_Last ?su_Last_NoPerson ?su_Last_NoWord ?sb_Last_LookupError ?sb_Last_RuntimeError ?vV_LookupError ?vV_RuntimeError ?spG ?tkG ?z_len ?z_enumerate ?z_tuple ?z_min ?z_max ?z_list ?z_range ?z_abs ?z_int ?z_isinstance ?z_all ?z_zip ?z_bool ?z_str ?z_RuntimeError ?z_LookupError ?z_repr
    (case a_p_check_person => k_is); (case l_p_check_person => k_is); (case c_p_check_person => k_is); (case k_p_check_person => k_is); (case a_p_check_call => k_is); (case l_p_check_call => k_is); (case c_p_check_call => k_is); (case k_p_check_call => k_is); (case a_p_check_word => k_is); (case l_p_check_word => k_is); (case c_p_check_word => k_is); (case k_p_check_word => k_is); (case a_p_people_of => k_is); (case l_p_people_of => k_is); (case c_p_people_of => k_is); (case k_p_people_of => k_is); (case a_p_moved => k_is); (case l_p_moved => k_is); (case c_p_moved => k_is); (case k_p_moved => k_is); (case a_p_renumbered => k_is); (case l_p_renumbered => k_is); (case c_p_renumbered => k_is); (case k_p_renumbered => k_is); (case a_p_word_renumbered => k_is); (case l_p_word_renumbered => k_is); (case c_p_word_renumbered => k_is); (case k_p_word_renumbered => k_is); (case a_p_sheet_renumbered => k_is); (case l_p_sheet_renumbered => k_is); (case c_p_sheet_renumbered => k_is); (case k_p_sheet_renumbered => k_is); (case a_p_joined => k_is); (case l_p_joined => k_is); (case c_p_joined => k_is); (case k_p_joined => k_is); (case a_p_sheets_joined => k_is); (case l_p_sheets_joined => k_is); (case c_p_sheets_joined => k_is); (case k_p_sheets_joined => k_is); (case a_p_without => k_is); (case l_p_without => k_is); (case c_p_without => k_is); (case k_p_without => k_is); (case a_stream => k_is); (case l_stream => k_is); (case c_stream => k_is); (case k_stream => k_is); (case a_draw => k_is); (case l_draw => k_is); (case c_draw => k_is); (case k_draw => k_is); (case a_folded => k_is); (case l_folded => k_is); (case c_folded => k_is); (case k_folded => k_is); (case a_pick => k_is); (case l_pick => k_is); (case c_pick => k_is); (case k_pick => k_is); (case a_same => k_is); (case l_same => k_is); (case c_same => k_is); (case k_same => k_is); (case a_shuffled => k_is); (case l_shuffled => k_is); (case c_shuffled => k_is); (case k_shuffled => k_is); (case a_random_pairing => k_is); (case l_random_pairing => k_is); (case c_random_pairing => k_is); (case k_random_pairing => k_is); (case a_random_call => k_is); (case l_random_call => k_is); (case c_random_call => k_is); (case k_random_call => k_is); (case a_random_word => k_is); (case l_random_word => k_is); (case c_random_word => k_is); (case k_random_word => k_is); (case a_ends_joined => k_is); (case l_ends_joined => k_is); (case c_ends_joined => k_is); (case k_ends_joined => k_is); (case a_refused => k_is); (case l_refused => k_is); (case c_refused => k_is); (case k_refused => k_is); (case a_people_right => k_is); (case l_people_right => k_is); (case c_people_right => k_is); (case k_people_right => k_is); (case a_right => k_is); (case l_right => k_is); (case c_right => k_is); (case k_right => k_is); (case a_law => k_is); (case l_law => k_is); (case c_law => k_is); (case k_law => k_is); (case aC_NoPerson => k_is); (case eC_NoPerson => k_is); (case tC_NoPerson => k_is); (case is_NoPerson => k_is); (case aC_Last => k_is); (case eC_Last => k_is); (case tC_Last => k_is); (case is_Last => k_is); (case aC_NoWord => k_is); (case eC_NoWord => k_is); (case tC_NoWord => k_is); (case is_NoWord => k_is); (case xC_NoPerson => k_is); (case sa_NoPerson => k_is); (case ga_NoPerson => k_is); (case gg_NoPerson => k_is); (case kC_NoPerson => k_is); (case hC_NoPerson => k_is); (case cl_NoPerson => k_is); (case mr_NoPerson => k_is); (case iC_NoPerson => k_is); (case tI_NoPerson => k_is); (case lI_NoPerson => k_is); (case cI_NoPerson => k_is); (case kI_NoPerson => k_is); (case su_NoPerson => k_is); (case no_NoPerson => k_is); (case su_NoPerson_Last => k_is); (case su_NoPerson_NoWord => k_is); (case sb_NoPerson_LookupError => k_is); (case sb_NoPerson_RuntimeError => k_is); (case xC_Last => k_is); (case sa_Last => k_is); (case ga_Last => k_is); (case gg_Last => k_is); (case kC_Last => k_is); (case hC_Last => k_is); (case cl_Last => k_is); (case mr_Last => k_is); (case iC_Last => k_is); (case tI_Last => k_is); (case lI_Last => k_is); (case cI_Last => k_is); (case kI_Last => k_is); (case su_Last => k_is); (case su_Last_NoPerson => k_is); (case su_Last_NoWord => k_is); (case sb_Last_LookupError => k_is); (case sb_Last_RuntimeError => k_is); (case vV_LookupError => k_is); (case vV_RuntimeError => k_is); (case spG => k_is); (case tkG => k_is); (case z_len => k_is); (case z_enumerate => k_is); (case z_tuple => k_is); (case z_min => k_is); (case z_max => k_is); (case z_list => k_is); (case z_range => k_is); (case z_abs => k_is); (case z_int => k_is); (case z_isinstance => k_is); (case z_all => k_is); (case z_zip => k_is); (case z_bool => k_is); (case z_str => k_is); (case z_RuntimeError => k_is); (case z_LookupError => k_is); (case z_repr => k_is)
