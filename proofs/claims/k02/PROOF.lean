import PyProof.Rows.All
import Wide.All
import OpenK.AllK
import Wide.FinOn
import HandS.ForMost
import HandS.IsInst
import HandS.Zip
import HandS.Style
import HandS.Walk
import HandS.Flow
import HandS.Conv
import HandS.RaiseMore
import HandS.NoneIn
import HandS.WordsList
import HandS.Deep
import HandS.Exc
import HandS.ExcOwn
import HandS.WordsExc
import HandS.ExcInit
import HandS.ExcIs
import KE.KExcIs
import KE.KExcInit
import KE.KTryMore
import HandS.SortRule
import HandS.SortInts
import HandS.Strs
import HandS.Wide
import HandS.DictComp
import HandS.SetFor
import HandS.TupSets
import HandS.SortOrd
import KE.SortData
import KE.DataCmp
import PySem.Challenge.RW_partnercall_k02_pairings_by_number
set_option Elab.async false
set_option linter.all false
set_option maxRecDepth 100000
set_option maxHeartbeats 4000000
namespace RZ
end RZ
namespace Pc
open PySem PySem.Spec PyProof.Rows L2 RZ
/-! ### heaps -/
/-- all that was tracked, but for b, is as it was -/
def Keep (b : Addr) (H H' : Hp) : Prop := ∀ a o, a ≠ b → H a = some o → H' a = some o
theorem Keep.refl (b : Addr) (H : Hp) : Keep b H H := fun _ _ _ h => h
theorem Keep.trans {b : Addr} {H H1 H2 : Hp} (p : Keep b H H1) (q : Keep b H1 H2) : Keep b H H2 := fun a o n h => q a o n (p a o n h)
theorem Keep.of_same {b : Addr} {H H' : Hp} (s : Same H H') : Keep b H H' := fun a o _ h => s a o h
theorem same_new {H : Hp} {p : Addr} {o : HO} (h : H p = none) : Same H (upd H p o) := fun b x e => by
  rw [upd_ne (ne_of_none e h)]; exact e
theorem keep_upd {H : Hp} {b : Addr} {o : HO} : Keep b H (upd H b o) := fun a x n e => by
  rw [upd_ne n]; exact e
/-- a list, a tuple under Keep -/
theorem Keep.tup {b : Addr} {H H' : Hp} (k : Keep b H H') {a : Addr} {xs ys : List V} (hb : H b = some (.lst ys)) (h : H a = some (.tup xs)) : H' a = some (.tup xs) :=
  k a _ (fun e => by rw [e, hb] at h; cases h) h
/-! ### small numbers -/
theorem one0 (c : Prop) [Decidable c] : (0 : Int) ≤ (if c then 1 else 0) ∧ (if c then (1 : Int) else 0) ≤ 1 := by
  split <;> decide
theorem in64 {i : Int} (h : 0 ≤ i ∧ i ≤ 1) : -(2 ^ 64) < i ∧ i < 2 ^ 64 := ⟨by omega, by omega⟩
/-! ### the source of draws -/
/-- at b a source that serves n more draws -/
def Box (n : Nat) (H : Hp) (b : Addr) : Prop := ∃ x y z : Int, H b = some (.lst [.int x, .int y, .int z]) ∧ 0 ≤ x ∧ 0 ≤ y ∧ y < 2 ^ 62 ∧ 0 ≤ z ∧ z + n ≤ 1000000000
theorem Box.lst {n : Nat} {H : Hp} {b : Addr} (h : Box n H b) : ∃ ys, H b = some (.lst ys) := let ⟨_, _, _, e, _⟩ := h; ⟨_, e⟩
theorem Box.mono {n m : Nat} {H : Hp} {b : Addr} (h : Box n H b) (l : m ≤ n) : Box m H b := by
  obtain ⟨x, y, z, e, h1, h2, h3, h4, h5⟩ := h
  exact ⟨x, y, z, e, h1, h2, h3, h4, by omega⟩
theorem Box.same {n : Nat} {H H' : Hp} {b : Addr} (h : Box n H b) (s : Same H H') : Box n H' b := by
  obtain ⟨x, y, z, e, r⟩ := h
  exact ⟨x, y, z, s _ _ e, r⟩
theorem Box.keep {n : Nat} {H H' : Hp} {b c : Addr} (h : Box n H b) (k : Keep c H H') (d : b ≠ c) : Box n H' b := by
  obtain ⟨x, y, z, e, r⟩ := h
  exact ⟨x, y, z, k _ _ d e, r⟩
theorem Box.ne_new {n : Nat} {H : Hp} {b p : Addr} (h : Box n H b) (np : H p = none) : b ≠ p := by
  obtain ⟨x, y, z, e, r⟩ := h
  exact ne_of_none e np
theorem Box.ne_tup {n : Nat} {H : Hp} {b p : Addr} {xs : List V} (h : Box n H b) (e2 : H p = some (.tup xs)) : p ≠ b := by
  obtain ⟨x, y, z, e, r⟩ := h
  intro q; rw [q, e] at e2; cases e2
end Pc
namespace Pc
open PySem PySem.Spec PyProof.Rows L2 RZ
/-! ### errors of the program: made -/
section
open PySem.W Builtin Builtin.ObjectAttr
variable {prog : Program} {w : World} {A : Around} {R : Result → Shared → Prop} {hp : Heap} {g : Array GenState} {d : Drawn} {t : Nat} {os : OsState} {B : String} {bmB : List Value}
/-- the first field of an error that has no dict yet -/
theorem osa_first {K : Frag} {f : Str} {tk : Tok} {v : Value} {x C : Addr} {fv : Array Value} {cd : ClassData} (SF : StoreFacts B bmB "object.__setattr__" "object") (X : K.In hp)
    (hx : hp.get? x = some { cls := .ref C, data := .fields fv }) (hcd : clsIn K C = some cd) (ho : excOver K C bmB = true) (hh : cd.hasDict = true) (hf : takerIn K C f = some none)
    (hq : ∀ h' tk' dx, (∀ b o, b ≠ x → hp.get? b = some o → h'.get? b = some o) → hp.objs.size ≤ dx → dx ≠ x →
      h'.get? x = some { cls := .ref C, dict := some dx, data := .fields fv } → h'.Ns1 dx (fun y => if y = f then some v else none) → R (.ok (.ret .none)) ⟨h', g, d, tk', os⟩) :
    codeAny (model prog w) A (.call (.builtin "object.__setattr__") ⟨[.ref x, .str f tk, v], []⟩) R ⟨hp, g, d, t, os⟩ := by
  have hne : x ≠ hp.objs.size := fun e => absurd (Heap.lt_size hx) (by rw [← e]; exact Nat.lt_irrefl x)
  have LC : Looks (model prog w) hp (classData C) cd := looks_clsIn X hcd
  refine osa_openX (s := ⟨hp, g, d, t, os⟩) (od := none) SF X ⟨hx, rfl, rfl, trivial⟩ ho hf fun b => ?_
  obtain ⟨c1, c2, c3, c4, c5, c6, c7, c8, c9, c10, c11⟩ := cd
  dsimp only at hh; subst hh
  dsimp only
  unfold storeInOwnDict ownDictForStores
  repeat (first | with_reducible refine HandSPX.store_in_new ?_ ?_ | with_reducible refine wpAny_loadPart_at hx ?_ | with_reducible refine LC.at ?_ | wp_step)
  · exact ⟨_, #[], _, (Heap.get?_update_ne _ _ _ _ hne.symm).trans (Heap.get?_push_at rfl rfl), rfl, fun e he => absurd he (by simp), fun _ => rfl⟩
  · intro h' tk' n1 n2
    refine hq h' tk' hp.objs.size (fun b o q r => ?_) (Nat.le_refl _) hne.symm ?_ n1
    · exact (n2.2 b (Nat.ne_of_lt (Heap.lt_size r))).trans ((Heap.get?_update_ne _ _ _ _ q).trans (Heap.get?_push_of_some _ r))
    · exact (n2.2 x hne).trans (Heap.get?_update_self _ (Heap.get?_push_of_some _ hx) rfl)
end
/-- what is known of a built-in error class -/
structure Bs (B newId initId : String) (bmB : List Value) : Prop where
  fb : ExcBaseFacts B newId initId bmB
  sf : StoreFacts B bmB "object.__setattr__" "object"
theorem bsV : Bs "ValueError" "ValueError.__new__" "ValueError.__init__" [.type "ValueError", .type "Exception", .type "BaseException", .type "object"] := ⟨F.excBase_ValueError, F.store_ValueError⟩
theorem bsL : Bs "LookupError" "LookupError.__new__" "LookupError.__init__" [.type "LookupError", .type "Exception", .type "BaseException", .type "object"] := ⟨F.excBase_LookupError, F.store_LookupError⟩
theorem bsR : Bs "RuntimeError" "RuntimeError.__new__" "RuntimeError.__init__" [.type "RuntimeError", .type "Exception", .type "BaseException", .type "object"] := ⟨F.excBase_RuntimeError, F.store_RuntimeError⟩
theorem bsO : Bs "OverflowError" "OverflowError.__new__" "OverflowError.__init__" [.type "OverflowError", .type "ArithmeticError", .type "Exception", .type "BaseException", .type "object"] := ⟨F.excBase_OverflowError, F.store_OverflowError⟩
/-- an error class of the program, straight over a built-in one -/
structure Own (K : PySem.W.Frag) (newId : String) (bmB : List Value) (C : Addr) : Prop where
  cls : ∃ nm q N bs sn sub ab col dd k0 k1 k2 k3 k5, K.lookup C = some (excClassObj nm q C N bs bmB true sn sub ab col dd k0 k1 k2 k3 k5 newId)
  over : PySem.W.excOver K C bmB = true
  sa : PySem.W.findIn K (.ref C) "__setattr__" = some (some (.builtin "object.__setattr__"))
  ga : PySem.W.findIn K (.ref C) "__getattribute__" = some (some (.builtin "BaseException.__getattribute__"))
  gg : PySem.W.findIn K (.ref C) "__getattr__" = some none
  exC : PySem.W.subIn K (.ref C) (.type "BaseException") = some true
  tyC : PySem.W.typeIn K (.ref C) = some (.type "type")
  kC : PySem.W.keepIn K (.ref C) = true
  hdC : PySem.W.hasDictIn K C = true
  clC : PySem.W.findIn K (.ref C) "__class__" = some (some (.builtin "object.__class__"))
  mrO : PySem.W.mroIn K C (.type "object") = some true
theorem Own.data {K : PySem.W.Frag} {newId : String} {bmB : List Value} {C : Addr} (T : Own K newId bmB C) : ∃ cd, PySem.W.clsIn K C = some cd ∧ cd.hasDict = true := by
  obtain ⟨nm, q, N, bs, sn, sub, ab, col, dd, k0, k1, k2, k3, k5, e⟩ := T.cls
  refine ⟨{ name := nm, bases := bs, mro := .ref C :: bmB, ns := N, qualname := q, hasDict := true, slotNames := sn, subclasses := sub, abstract := ab, collection := col, hasDel := false }, ?_, rfl⟩
  unfold PySem.W.clsIn
  rw [e] <;> rfl
theorem taker_of {K : PySem.W.Frag} {C : Addr} {f : Str} (h : PySem.W.findIn K (.ref C) f = some none) : PySem.W.takerIn K C f = some none := by
  unfold PySem.W.takerIn
  rw [h]; rfl
section
variable {X : Cx} {pins : List (Addr × Obj)} {σ : L2.St} {H H1 H2 : Hp} {s : Shared} {a C dx : Addr} {f : Str} {newId initId B : String} {bmB : List Value}
/-- an object that stands in the heap, untracked and not of the entry, is tracked from now on -/
theorem adopt {o : HO} (I : Inv X pins σ H s) (hn : H a = none) (n0 : X.s_0.heap.get? a = none) (nL : a ≠ X.env.locals) (nC : ∀ x c, X.env.cells.lookup x = some c → c ≠ a) (nP : ∀ p ∈ X.pn ++ pins, p.1 ≠ a)
    (new : ObjOk X.prog X.w (upd H a o) s.heap a o) : Inv X pins σ (upd H a o) s := by
  have up : ∀ {b : Addr} {u : HO}, H b = some u → upd H a o b = some u := fun {b u} e => by rw [upd_ne (ne_of_none e hn)]; exact e
  refine ⟨I.ok, I.os, I.bare, ⟨I.base.keep, I.base.slot, fun b q e n x => ?_, I.base.there, fun b xs e => up (I.base.tups b xs e), fun b q u e => up (I.base.frzs b q u e), fun b ps e => ?_⟩, I.loc, I.cell, ?_, fun x c e => ?_, fun p hp => ?_, fun b u e => ?_, I.len⟩
  · rw [upd_ne (fun z => by rw [z, n0] at e; cases e)]
    exact I.base.free b q e n x
  · obtain ⟨m, z⟩ := I.base.tbls b ps e
    exact ⟨m, up z⟩
  · rw [upd_ne (Ne.symm nL)]; exact I.free
  · rw [upd_ne (nC x c e)]; exact I.freeC x c e
  · obtain ⟨e, n, r⟩ := I.pin p hp
    exact ⟨e, by rw [upd_ne (nP p hp)]; exact n, r⟩
  · by_cases hb : b = a
    · subst hb
      rw [upd_same] at e; cases e
      exact new
    · rw [upd_ne hb] at e
      exact (I.hok b u e).stay (fun _ _ _ z => z) (fun c z => up z) (fun c xs z => up z)
theorem low_ne {n : Nat} {b a : Addr} (h : b < n) (h' : n ≤ a) : b ≠ a := Nat.ne_of_lt (Nat.lt_of_lt_of_le h h')
theorem get_lt_size {h : Heap} {b : Addr} {o : Obj} (e : h.get? b = some o) : b < h.objs.size := Heap.lt_size e
/-- self.f = y -/
theorem ost_one {y : V} {u : Value} {Q : Unit → Shared → Prop} {E : Value → Shared → Prop} {A : Around} (T : Own X.K newId bmB C) (SF : StoreFacts B bmB "object.__setattr__" "object") (I : Inv X pins σ H s) (e : H a = some (exo a C none)) (hno : PySem.W.findIn X.K (.ref C) f = some none) (ry : RelV y u)
    (h : ∀ dx s', H dx = none → dx ≠ a → Inv X pins σ (upd (upd H a (exo a C (some dx))) dx (exd dx [(f, y)])) s' → Q () s') : wpAny (model X.prog X.w) A (setAttr (.ref a) f u) Q E s := by
  obtain ⟨cd, hcd, hh⟩ := T.data
  obtain ⟨t1, ho⟩ := exo_at I.hok e
  obtain ⟨hp, g, d, t, os⟩ := s
  refine PySem.W.set_plain I.kIn (ox := { cls := .ref C, dict := none, data := .fields #[.ref t1, .none, .none, .none, .bool false, .none] }) (od := none) ⟨ho, rfl, rfl, trivial⟩ T.sa ?_
  refine osa_first SF I.kIn ho hcd T.over hh (taker_of hno) fun h' tk' dx k dn dne hx hns => ?_
  have hnd : H dx = none := I.hok.fresh dn
  have J := I.write (t' := tk') (x := a) (e := a) (o := exo a C (some dx)) (by rw [e]; exact True.intro) (.inl rfl) k ⟨_, hx⟩ (exo_ok hx)
  refine h dx _ hnd dne (adopt J (by rw [upd_ne dne]; exact hnd) ?_ ?_ ?_ ?_ (exd_ok hns (relO_put (fs := []) ry fun _ => True.intro)))
  · cases z : X.s_0.heap.get? dx with
    | none => rfl
    | some o => exact absurd rfl (low_ne (Nat.lt_of_lt_of_le (Heap.lt_size z) I.sz) dn)
  · exact Ne.symm (low_ne I.lt dn)
  · intro x c ec
    obtain ⟨v, ob, eo, _⟩ := I.cell x c ec
    exact low_ne (Heap.lt_size eo) dn
  · intro p hp'
    exact low_ne (Heap.lt_size (I.pin p hp').1) dn
/-- B.__init__(self, ..) -/
theorem oinit_any {us : List Value} {Q : Value → Shared → Prop} {E : Value → Shared → Prop} {A : Around} (T : Own X.K newId bmB C) (F : ExcBaseFacts B newId initId bmB) (I : Inv X pins σ H s) (e : H a = some (exo a C none)) (hl : us.length ≤ sizeLine) (h : ∀ s', Inv X pins σ H s' → Q .none s') :
    wpAny (model X.prog X.w) A (call (.builtin initId) (.ref a :: us)) Q E s := by
  obtain ⟨nm, q, N, bs, sn, sub, ab, col, dd, k0, k1, k2, k3, k5, hC⟩ := T.cls
  obtain ⟨t1, ho⟩ := exo_at I.hok e
  obtain ⟨hp, g, d, t, os⟩ := s
  refine wpAny_call (HandSPX.init_base F (fun _ => rfl) (I.kIn _ _ hC) ho hl fun h' t2 k hx => ?_)
  have J := I.write (t' := t) (x := a) (e := a) (o := exo a C none) (by rw [e]; exact True.intro) (.inl rfl) k ⟨_, hx⟩ (exo_ok hx)
  have eu : upd H a (exo a C none) = H := by
    funext b
    unfold upd
    split
    · rename_i z; rw [z, e]
    · rfl
  rw [eu] at J
  exact h _ J
def tBi (K : PySem.W.Frag) (newId : String) (bmB : List Value) (ta : TA) : TE := fun σ H Q => ta σ H fun vs H1 => ∃ (a C : Addr) (ws : List V), vs = .ref a :: ws ∧ ws.length ≤ 1000 ∧ Own K newId bmB C ∧ H1 a = some (exo a C none) ∧ Q .non H1
def tOs (K : PySem.W.Frag) (newId : String) (bmB : List Value) (f : Str) (to te : TE) : TS := fun D σ H => te σ H fun y H1 => to σ H1 fun x H2 => ∃ a C : Addr, x = .ref a ∧ Own K newId bmB C ∧ PySem.W.findIn K (.ref C) f = some none ∧ H2 a = some (exo a C none) ∧
  ∀ dx, H2 dx = none → dx ≠ a → D.nx σ (upd (upd H2 a (exo a C (some dx))) dx (exd dx [(f, y)]))
theorem pe_binit {n : Str} {o e : Expr} {es : List Expr} {ta : TA} {p1 p2 pos : Pos} {pl : Sem Bool} (F : ExcBaseFacts B newId initId bmB) (hg : Gl X n) (hm : X.mg n = none) (hv : bootBuiltins n = some (.type B)) (hn : n ≠ "__name__") (hdb : (n == ("__debug__" : Str)) = false)
    (hty : typeOf (.type B) = pure (.type "type")) (hst : Manifest.isStub B = false) (hha : PySem.W.handedIn (.builtin initId) = true) (vV : PySem.W.findCls X.K (.type B) (.type "type") "__init__" = some (.val (.builtin initId))) (ha : PA X (e :: es) ta)
    (hc : eval (.Call (.Attribute (.Name n p1) "__init__" p2) (e :: es) [] pos) X.env = (do
      let ov ← eval (.Name n p1) X.env
      standAt p2.atName
      let (f, first) ← holding [ov] (getMethod ov "__init__" pl)
      callWith pos f first (backTo pos (starEach (e :: es) X.env)) (backToKw pos (keywordEach [] X.env))) := by rfl)
    (he : starEach (e :: es) X.env = (false, eval e X.env) :: starEach es X.env := by rfl) (hpl : (backTo pos (starEach es X.env)).any (·.1) = false := by rfl) :
    PE X (.Call (.Attribute (.Name n p1) "__init__" p2) (e :: es) [] pos) (tBi X.K newId bmB ta) := by
  refine ⟨fun pins s σ H Q I h => PySem.W.methodCall_KW (ld_blt I hg hm hv ?_ hn hdb) hc⟩
  obtain ⟨m, fr⟩ := I.fr
  refine PySem.W.method_type fr I.ok.mod.kin hty hst vV hha ?_
  show wpAny _ _ (callWith pos (Value.builtin initId) [] (backTo pos (starEach (e :: es) X.env)) []) _ _ _
  refine PyProof.Rows.callWith_method1 (thn (ha.run pos pins _ σ H _ (I.tok _) h) fun us s1 ⟨vs, H1, I1, r1, a, C, ws, ev, hl, T, ea, q⟩ => ?_) he hpl
  subst ev
  cases r1 with
  | @cons _ u0 _ ur ra rr =>
    obtain rfl : u0 = Value.ref a := ra
    exact oinit_any T F I1 ea (by rw [← Paired.length rr, sizeLine_eq]; omega) fun s' J => ⟨.non, H1, J, rfl, q⟩
theorem ps_os {o e : Expr} {to te : TE} {p' pos : Pos} (SF : StoreFacts B bmB "object.__setattr__" "object") (ho : PE X o to) (he : PE X e te) (hs : swapsWith e (some (.Attribute o f p')) pos.line X.env = pure false := by rfl) : PS X (.Assign [.Attribute o f p'] e pos) (tOs X.K newId bmB f to te) := by
  refine ⟨fun pins s σ H D I h => plainObj_wpAny_Assign_Attribute (thn (he.run pins s σ H _ I h) fun v s1 ⟨y, H1, I1, r1, q1⟩ => thn (ho.run pins s1 σ H1 _ I1 q1) fun u s2 ⟨x, H2, I2, r2, a, C, ex, T, hno, ea, q⟩ => ?_) hs⟩
  subst ex
  obtain rfl : u = Value.ref a := r2
  exact ost_one T SF I2 ea hno r1 fun dx s' n ne J => ⟨σ, _, J, q dx n ne⟩
/-- the new error is let go: the heap without it -/
theorem mk_gone {hp hp2 h2 : Heap} {g1 g2 : Array GenState} {d1 d2 : Drawn} {t1 t2 : Nat} {os1 os2 : OsState} {dv : Option Addr} (I1 : Inv X pins σ H1 ⟨hp, g1, d1, t1, os1⟩)
    (ha : hp.objs.size ≤ a) (k : ∀ b o, hp.get? b = some o → hp2.get? b = some o) (un : Un (frs X.stack) [] (upd H1 a (exo a C none)) H2 hp2 h2) (hok : HOk X.prog X.w H2 h2) (ho : os2 = os1) (hb : AllBare g2) (ea : H2 a = some (exo a C dv)) :
    ∃ (t0 : Addr) (G : Heap), Inv X pins σ (del H2 a) ⟨G, g2, d2, t2, os2⟩ ∧ (∀ b o, G.get? b = some o → h2.get? b = some o) ∧ G.get? a = none ∧
      h2.get? a = some ({ cls := .ref C, dict := dv, data := .fields #[.ref t0, .none, .none, .none, .bool false, .none] } : Obj) := by
  obtain ⟨t0, hoe⟩ := exo_at hok ea
  have hn : H1 a = none := I1.hok.fresh ha
  obtain ⟨G, g1', g2'⟩ := restrict h2 fun b => decide (b ≠ a)
  have gk : ∀ b, b ≠ a → G.get? b = h2.get? b := fun b q => g1' b (decide_eq_true q)
  have ga : G.get? a = none := g2' a (decide_eq_false (fun z => z rfl))
  have na : ∀ {b : Addr} {o : Obj}, hp.get? b = some o → b ≠ a := fun q => low_ne (Heap.lt_size q) ha
  have up : ∀ {b : Addr}, b ≠ a → H1 b = none → upd H1 a (exo a C none) b = none := fun q n => by rw [upd_ne q]; exact n
  have tr : ∀ {b : Addr} {u : HO}, H1 b = some u → upd H1 a (exo a C none) b = some u ∧ b ≠ a := fun q => ⟨by rw [upd_ne (ne_of_none q hn)]; exact q, ne_of_none q hn⟩
  have U : Un (frs X.stack) [] H1 (del H2 a) hp G := {
    keep := fun b o z n hf hx => by rw [gk b (na z)]; exact un.keep b o (k b o z) (up (na z) n) hf hx
    slot := fun b o z n hf hx => by rw [gk b (na z)]; exact un.slot b o (k b o z) (up (na z) n) hf hx
    free := fun b o z n hx => by rw [del_ne (na z)]; exact un.free b o (k b o z) (up (na z) n) hx
    there := fun b o z hx => by rw [gk b (na z)]; exact un.there b o (k b o z) hx
    tups := fun b xs z => by rw [del_ne (tr z).2]; exact un.tups b xs (tr z).1
    frzs := fun b o v z => by rw [del_ne (tr z).2]; exact un.frzs b o v (tr z).1
    tbls := fun b ps z => by rw [del_ne (tr z).2]; exact un.tbls b ps (tr z).1 }
  have hok3 : HOk X.prog X.w (del H2 a) G := fun b o z => by
    have hba : b ≠ a := fun e => by rw [e, del_same] at z; cases z
    rw [del_ne hba] at z
    have noa : ∀ {c : Addr}, H2 c = some (.own b) → c ≠ a := fun hc => at_ne ea hc exo_own
    refine (hok b o z).stay (fun c v hc y => ?_) (fun c hc => by rw [del_ne (noa hc)]; exact hc) (fun c xs hc => by rw [del_ne (at_ne ea hc exo_tup)]; exact hc)
    have hca : c ≠ a := hc.elim (fun q => by rw [q]; exact hba) noa
    rw [gk c hca]; exact y
  have J : Inv X pins σ (del H2 a) ⟨G, g2, d2, t2, os2⟩ := I1.call' (ch := []) ho U hok3 hb (fun b z => absurd z (by simp))
  refine ⟨t0, G, J, fun b o z => ?_, ga, hoe⟩
  by_cases hba : b = a
  · rw [hba, ga] at z; cases z
  · exact (gk b hba).symm.trans z
/-- C(e, ..), C's own __init__ keeping sp -/
def tMkE (C : Addr) (sp : Sp) (ta : TA) : L2.St → Hp → XK → Prop := fun σ H Q => ta σ H fun vs H1 => vs.length ≤ 1000 ∧ ∀ a, H1 a = none → sp (.ref a :: vs) (upd H1 a (exo a C none))
  (fun v H2 => v = .non ∧ ((H2 a = some (exo a C none) ∧ Q (.ref C) none (del H2 a)) ∨ ∃ (d : Addr) (fs : List (Str × V)), H2 a = some (exo a C (some d)) ∧ H2 d = some (exd d fs) ∧ Q (.ref C) (some d) (upd (del H2 a) d (.xd fs)))) (fun _ _ _ => False)
/-- what such a call leaves -/
theorem made_run {vs : List V} {us : List Value} {fI : Addr} {k : Nat} {fd : FuncData} {ps : List Str} {sp : Sp} {Q : XK} {CX : CXT} (T : Own X.K newId bmB C) (F : ExcBaseFacts B newId initId bmB) (iC : PySem.W.findIn X.K (.ref C) "__init__" = some (some (.ref fI))) (tI : PySem.W.typeIn X.K (.ref fI) = some (.type "function"))
    (F1 : FnOk X.prog X.w X.K X.mg X.base CX k fI fd ps sp) (hr : Room (k + 1) X.A) (hb : Binds X.K fd ps []) (hx : Passes CX X (fun _ _ _ => False)) (I1 : Inv X pins σ H1 s) (r1 : Vals vs us) (hz : vs.length ≤ 1000)
    (q1 : ∀ a, H1 a = none → sp (.ref a :: vs) (upd H1 a (exo a C none)) (fun v H2 => v = .non ∧ ((H2 a = some (exo a C none) ∧ Q (.ref C) none (del H2 a)) ∨ ∃ (d : Addr) (fs : List (Str × V)), H2 a = some (exo a C (some d)) ∧ H2 d = some (exd d fs) ∧ Q (.ref C) (some d) (upd (del H2 a) d (.xd fs)))) (fun _ _ _ => False)) :
    wpAny (model X.prog X.w) X.A (call (.ref C) us) (MkP X pins σ Q) X.xe s := by
  obtain ⟨nm, q, N, bs, sn, sub, ab, col, dd, k0, k1, k2, k3, k5, hC⟩ := T.cls
  obtain ⟨hp, g, dr, tk, os⟩ := s
  have hsz : hp.objs.size ≤ hp.objs.size + 1 := Nat.le_succ _
  have hq := q1 (hp.objs.size + 1) (I1.hok.fresh hsz)
  obtain ⟨hp2, ehp⟩ : ∃ hp2, hp2 = (hp.push (PySem.W.kdv_tup us)).push (HandSPX.excO C hp.objs.size) := ⟨_, rfl⟩
  have kk : ∀ b o, hp.get? b = some o → hp2.get? b = some o := fun b o e => by rw [ehp]; exact Heap.get?_push_of_some _ (Heap.get?_push_of_some _ e)
  have hget : hp2.get? (hp.objs.size + 1) = some (HandSPX.excO C hp.objs.size) := by rw [ehp]; heap_get
  have I2 : Inv X pins σ (upd H1 (hp.objs.size + 1) (exo (hp.objs.size + 1) C none)) ⟨hp2, g, dr, tk, os⟩ := I1.laid (t' := tk) kk hsz (exo_ok hget)
  have r2 : Vals (V.ref (hp.objs.size + 1) :: vs) (Value.ref (hp.objs.size + 1) :: us) := .cons rfl r1
  have hl : (Value.ref (hp.objs.size + 1) :: us ++ []).length = ps.length := by
    rw [List.append_nil, ← r2.length]; exact F1.len _ _ _ _ hq
  have hus : us.length ≤ sizeLine := by rw [← Paired.length r1, sizeLine_eq]; omega
  refine wpAny_call (HandSPX.call_own F (fun _ => rfl) (I1.kIn _ _ hC) (PySem.W.looks_findIn I1.kIn iC) (fun self => PySem.W.bind_fn I1.kIn self tI) hus ?_)
  rw [← ehp]
  refine codeAny_mono (F1.run _ X.stack _ _ ⟨Value.ref (hp.objs.size + 1) :: us, []⟩ (Value.ref (hp.objs.size + 1) :: us) _ _ (fun _ _ _ => False) (hr.make C us []) (I2.env0.make C us []) ?_ r2 hq) fun r s' hq' => ?_
  · have z := hb ⟨hp2, g, dr, tk, os⟩ (Value.ref (hp.objs.size + 1) :: us) I2.kIn hl
    rw [List.append_nil] at z; exact z
  cases r with
  | error er => exact hx pins σ _ _ er s' I2 hq'
  | ok fl =>
    cases fl with
    | ret u =>
      obtain ⟨v, H2, os2, bare2, un2, hok2, rv, ev, alt⟩ := hq'
      subst ev
      obtain ⟨h2, g2, d2, t2, os'⟩ := s'
      refine ⟨rv, ?_⟩
      rcases alt with ⟨ea, q2⟩ | ⟨d, fs, ea, ed, q2⟩
      · obtain ⟨t0, G, J, kG, ge, hoe⟩ := mk_gone (d2 := d2) (t2 := t2) I1 hsz kk un2 hok2 os2 bare2 ea
        exact ⟨_, _, _, ⟨G, g2, d2, t2, os'⟩, _, .ref C, none, rfl, J, kG, ge, hoe, ⟨rfl, rfl⟩, rfl, rfl, del_same, rfl, bare2, raises_own T.exC T.tyC, q2⟩
      · obtain ⟨t0, G, J, kG, ge, hoe⟩ := mk_gone (d2 := d2) (t2 := t2) I1 hsz kk un2 hok2 os2 bare2 ea
        have hda : d ≠ hp.objs.size + 1 := fun z => by
          rw [z] at ed
          obtain ⟨mA, ⟨ob, es, ep, e1, e2, _⟩, _⟩ := exd_at hok2 ed
          rw [hoe] at e1
          have z2 := Option.some.inj e1
          subst z2
          cases e2
        have ed' : del H2 (hp.objs.size + 1) d = some (exd d fs) := by rw [del_ne hda]; exact ed
        obtain ⟨mA, ns, rel⟩ := exd_at J.hok ed'
        have J2 := J.write (t' := t2) (h' := G) (x := d) (e := d) (o := .xd fs) (by rw [ed']; exact True.intro) (.inl rfl) (fun _ _ _ z => z) (by obtain ⟨ob, _, _, e1, _⟩ := ns; exact ⟨ob, e1⟩) ⟨mA, ns, rel⟩
        exact ⟨_, _, _, ⟨G, g2, d2, t2, os'⟩, _, .ref C, some d, rfl, J2, kG, ge, hoe, ⟨rfl, rfl⟩, rfl, rfl, by rw [upd_ne (Ne.symm hda)]; exact del_same, rfl, bare2, raises_own T.exC T.tyC, q2⟩
    | next => exact False.elim hq'
    | brk => exact False.elim hq'
    | cont => exact False.elim hq'
theorem pmk_e {x : Str} {fI : Addr} {k : Nat} {fd : FuncData} {ps : List Str} {sp : Sp} {CX : CXT} {e : Expr} {es : List Expr} {ta : TA} {p pos : Pos} (T : Own X.K newId bmB C) (F : ExcBaseFacts B newId initId bmB) (iC : PySem.W.findIn X.K (.ref C) "__init__" = some (some (.ref fI))) (tI : PySem.W.typeIn X.K (.ref fI) = some (.type "function"))
    (F1 : FnOk X.prog X.w X.K X.mg X.base CX k fI fd ps sp) (hr : Room (k + 1) X.A) (hb : Binds X.K fd ps []) (hx : Passes CX X (fun _ _ _ => False)) (hg : Gl X x) (hm : X.mg x = some (.ref C)) (ha : PA X (e :: es) ta)
    (hdb : (x == ("__debug__" : Str)) = false := by decide) (he : starEach (e :: es) X.env = (false, eval e X.env) :: starEach es X.env := by rfl) (hpl : (backTo pos (starEach es X.env)).any (·.1) = false := by rfl) :
    PMk X (.Call (.Name x p) (e :: es) [] pos) (tMkE C sp ta) := by
  intro pins s σ H Q I h
  refine wpAny_Call_Name_kw (ld_glob I hg hm ?_ hdb)
  exact PySem.W.callWith_K (h₀ := X.base) I.ok.mod.kin T.kC (thn (ha.run pos pins s σ H _ I h) fun us s1 ⟨vs, H1, I1, r1, hz, q1⟩ => ⟨I1.kIn, made_run T F iC tI F1 hr hb hx I1 r1 hz q1⟩) he hpl
end
end Pc
namespace Pc
open PySem PySem.Spec PyProof.Rows L2 RZ
/-! ### errors of the program: caught, kept, looked at -/
section
open PySem.W
variable {M : Model} {K : Frag} {h : Heap}
theorem Looks.bind' {α β : Type} {x : Sem α} {f : α → Sem β} {a : α} {b : β} (hx : Looks M h x a) (hf : Looks M h (f a) b) : Looks M h (x >>= f) b := fun A Q E s k q =>
  wpAny_bind (hx A _ E s k (hf A Q E s k q))
theorem loop_all {α β : Type} {f : α → β → Sem (ForInStep β)} {b : β} : ∀ cs : List α, (∀ c ∈ cs, Looks M h (f c b) (.yield b)) → Looks M h (forIn cs b f) b
  | [], _ => by rw [List.forIn_nil]; exact .now
  | c :: cs, hc => by
    rw [List.forIn_cons]
    exact Looks.bind' (hc c List.mem_cons_self) (loop_all cs fun c' h' => hc c' (List.mem_cons_of_mem _ h'))
theorem loop_any {α β : Type} {f : α → β → Sem (ForInStep β)} {b b1 : β} : ∀ (bs : List Bool) (cs : List α), bs.length = cs.length → bs.any id = true → (∀ (i : Nat) (c : α) (y : Bool), cs[i]? = some c → bs[i]? = some y → Looks M h (f c b) (if y = true then .done b1 else .yield b)) → Looks M h (forIn cs b f) b1
  | [], [], _, e, _ => absurd e (by decide)
  | y :: bs, c :: cs, hl, e, hc => by
    rw [List.forIn_cons]
    have h0 := hc 0 c y rfl rfl
    cases y with
    | true => exact Looks.bind' h0 .now
    | false => exact Looks.bind' h0 (loop_any bs cs (Nat.succ.inj hl) e fun i c' y' h1 h2 => hc (i + 1) c' y' h1 h2)
/-- an except clause with several classes, of which one is the error's -/
theorem exm_some {cls : Value} {cs : List Value} {tp e : Addr} {o : Obj} {n : Nat} (X : K.In h) (LT : Looks M h (typeOf (.ref e)) cls) (hp : h.get? tp = some o) (hc : o.cls = .type "tuple") (hd : o.data = .seq cs.toArray n) (bs : List Bool) (hl : bs.length = cs.length) (hb : bs.any id = true)
    (hx : ∀ (i : Nat) (c : Value) (y : Bool), cs[i]? = some c → bs[i]? = some y → exmOne K cls c = some y) : Looks M h (excMatches (.ref e) (.ref tp)) true := by
  have at_ : ∀ c ∈ cs, ∃ y, exmOne K cls c = some y := fun c hm => by
    obtain ⟨i, hi, rfl⟩ := List.getElem_of_mem hm
    exact ⟨bs[i]'(by omega), hx i _ _ (List.getElem?_eq_getElem hi) (List.getElem?_eq_getElem _)⟩
  have L0 : Looks M h (isInstance (.ref tp) (.type "tuple")) true := fun A Q E s k q => by
    refine wpAny_bind (wpAny_typeOf_ref (k _ _ hp) ?_)
    rw [hc]
    exact (Looks.of_pure isSubtype_tuple_tuple) A Q E s k q
  unfold excMatches
  refine Looks.bind' L0 ?_
  dsimp only
  rw [if_pos rfl]
  refine Looks.bind' (a := some cs.toArray) (fun A Q E s k q => wpAny_seqItems (k _ _ hp) hd q) ?_
  refine Looks.bind' (a := cs) .now ?_
  refine Looks.bind' (a := PUnit.unit) (loop_all cs fun c hm => ?_) ?_
  · obtain ⟨y, hy⟩ := at_ c hm
    refine Looks.bind' (exm_cls X hy).1 ?_
    exact .now
  refine Looks.bind' LT ?_
  refine Looks.bind' (loop_any (b1 := (some true, ())) bs cs hl hb fun i c y h1 h2 => Looks.bind' (exm_cls X (hx i c y h1 h2)).2 ?_) ?_
  · cases y <;> exact .now
  · exact .now
end
end Pc
namespace Pc
open PySem PySem.Spec PyProof.Rows L2 RZ
/-- an error that was caught and is kept: its class, its dict -/
def exk (a : Addr) (cls : Value) (d : Option Addr) : HO := .ext fun h => ∃ (oe : Obj) (vs : Array Value), h.get? a = some oe ∧ Zc cls d oe ∧ oe.data = .fields vs
theorem exk_ok {P : Program} {w : World} {H : Hp} {h : Heap} {a : Addr} {cls : Value} {d : Option Addr} {oe : Obj} {vs : Array Value} (e : h.get? a = some oe) (z : Zc cls d oe) (q : oe.data = .fields vs) : ObjOk P w H h a (exk a cls d) :=
  ⟨⟨oe, vs, e, z, q⟩, ⟨oe, e⟩, fun _ _ ⟨o, v, r, r'⟩ k => ⟨o, v, k o r, r'⟩⟩
theorem exk_at {P : Program} {w : World} {H : Hp} {h : Heap} {a : Addr} {cls : Value} {d : Option Addr} (hok : HOk P w H h) (e : H a = some (exk a cls d)) : ∃ (oe : Obj) (vs : Array Value), h.get? a = some oe ∧ Zc cls d oe ∧ oe.data = .fields vs := by
  have x : ObjOk P w H h a (.ext fun h => ∃ (oe : Obj) (vs : Array Value), h.get? a = some oe ∧ Zc cls d oe ∧ oe.data = .fields vs) := hok a _ e
  exact x.1
theorem fly_keeps {B h h' : Heap} {l : List PySem.Env} {e : Addr} {Z : Obj → Prop} (R : HandSPX.FlyingZ B l e Z h) (k : ∀ b o, h.get? b = some o → h'.get? b = some o) : HandSPX.FlyingZ B l e Z h' := by
  obtain ⟨f1, f2, f3, oe, ws, T, oT, ts, r1, r2, r3, r4, r5, r6, r7, r8⟩ := R
  exact ⟨fun b o q => k b o (f1 b o q), f2, f3.of_keeps fun b o q _ => ⟨o, k b o q, rfl⟩, oe, ws, T, oT, ts, k _ _ r1, r2, r3, r4, r5, r6, k _ _ r7, r8⟩
/-- names of classes, one by one -/
def NamesAll (X : Cx) (es : List Expr) (cs : List Value) : Prop := Paired (fun (e : Expr) c => ∃ (x : Str) (p : Pos), e = .Name x p ∧ Names X x c) es cs
theorem names_run {X : Cx} {pins : List (Addr × Obj)} {σ : L2.St} {H : Hp} {s : Shared} {E : Value → Shared → Prop} {pos : Pos} (I : Inv X pins σ H s) :
    ∀ {es : List Expr} {cs : List Value} {Q : List Value → Shared → Prop}, NamesAll X es cs → Q cs s → wpAny (model X.prog X.w) X.A (spliced (backTo pos (starEach es X.env))) Q E s := by
  intro es cs Q h
  revert Q
  induction h with
  | nil => intro Q q; exact wpAny_items_nil q
  | cons h1 _ ih =>
    intro Q q
    obtain ⟨x, p, rfl, hg, hdb, hm⟩ := h1
    refine wpAny_items_cons ?_
    rcases hm with hm | ⟨hm, hv, hn⟩
    · exact ld_glob I hg hm (ih q) hdb
    · exact ld_blt I hg hm hv (ih q) hn hdb
/-- of which classes the error is -/
def Hits (K : PySem.W.Frag) (cls : Value) (cs : List Value) : Prop := ∃ bs : List Bool, bs.length = cs.length ∧ bs.any id = true ∧ ∀ (i : Nat) (c : Value) (y : Bool), cs[i]? = some c → bs[i]? = some y → PySem.W.exmOne K cls c = some y
/-- what 'except (..) as n: suite' wishes of an error of the body (slot i is n's): the error is kept -/
def wKept (K : PySem.W.Frag) (cs : List Value) (i : Nat) (ts : Addr → TS) (D : Ends) : WX := fun cls d σ H => Hits K cls cs ∧ ∀ a, H a = none →
  ts a { nx := fun σ' H' => D.nx (σ'.set i none) (upd H' a (exk a cls d)), rt := fun _ _ => False } (σ.set i (some (.ref a))) H
section
variable {X : Cx} {n : Str} {i : Nat} {body suite : List Stmt} {b₀ : Stmt} {es : List Expr} {cs : List Value} {kk : Nat} {tpos pos pos' : Pos} {tb : WX → TS} {ts : Addr → TS}
theorem ps_try_kept (hex : X.ex = []) (hs : X.stack = X.env :: X.outer) (hf : X.env.frame = some X.env.locals) (hN : X.N.Nodup) (hi : X.N[i]? = some n) (hln : X.env.kindOf n = some .local) (hc : NamesAll X es cs) (hcl : cs.length ≤ 1000)
    (hb : ∀ (W : WX) (pn : List (Addr × Obj)) (xe : Value → Shared → Prop), Takes (X.tr pn xe) W → PassesOwn (model X.prog X.w) X.A X.env xe → PSs (X.tr pn xe) body (tb W))
    (hsu : ∀ (a : Addr) (oe : Obj) (pn : List (Addr × Obj)), PSs (X.suite a ((a, oe) :: pn)) (b₀ :: suite) (ts a)) :
    PS X (.Try body [.ExceptHandler (some (.Tuple es kk tpos)) (some n) (b₀ :: suite) pos'] [] [] pos) (fun D σ H => tb (wKept X.K cs i ts D) D σ H) := by
  refine ⟨fun pins s σ H D I h => ?_⟩
  have ok := I.ok
  have hfr : X.A.frames = some (X.env :: X.outer) := by rw [ok.frames, hs]
  refine wpAny_Try_except (wpAny_mono ((hb (wKept X.K cs i ts D) (X.pn ++ pins) (fun e s₁ => wpAny (model X.prog X.w) X.A (noteFrame e X.env) (fun _ s₂ => wpAny (model X.prog X.w) X.A (setFlight e none) (fun _ s₃ =>
    wpAny (model X.prog X.w) X.A (handleBy e X.env [.ExceptHandler (some (.Tuple es kk tpos)) (some n) (b₀ :: suite) pos']) (SP X pins D) X.xe s₃) X.xe s₂) X.xe s₁) (fun u s' xx => ?_) PassesOwn.looking).run [] s σ H D (I.toTry _) h) (fun f s1 hsp => ?_) (fun e s1 he => he))
  · obtain ⟨a, B, sI, pins', σ', H', cls, d, rfl, J', nb, up, sky, na, os, ag, ⟨bs, hbl, hba, hbx⟩, hyes⟩ := xx
    have J : Inv X pins σ' H' sI := J'.ofTry ok
    rw [hs] at sky
    show wpAny (model X.prog X.w) X.A (noteFrame (.ref a) X.env) _ _ _
    refine Sky.land Zc.steady hfr hf sky fun h3 fl3 up3 => ?_
    obtain ⟨oe3, vs3, he3, hz3, hd3⟩ := fl3.there
    have nfr : a ∉ frs (X.env :: X.outer) := fun hm => by
      obtain ⟨_, o', e', hnf⟩ := fl3.2.2.1.mem hm
      rw [he3] at e'; cases e'
      exact hnf _ hd3
    have nL : a ≠ X.env.locals := fun z => nfr (List.mem_filterMap.mpr ⟨X.env, List.mem_cons_self, by rw [hf, z]⟩)
    have nF : a ∉ X.fs := fun hm => by
      obtain ⟨e, he, q⟩ := List.mem_filterMap.mp hm
      exact nfr (List.mem_filterMap.mpr ⟨e, List.mem_cons_of_mem _ he, q⟩)
    have nI : sI.heap.get? a = none := by
      cases z : sI.heap.get? a with
      | none => rfl
      | some o =>
        have y := nb a o z (by rw [hs]; exact nfr)
        rw [fl3.2.1] at y; cases y
    have J3 : Inv X pins σ' H' { s' with heap := h3 } := J.landed nb fl3.1 (up.trans up3) os ag
    have S3 := J3.suite he3 hd3 na nL nF
    refine wpAny_handleBy_cons (codeAny_handlers_test (wpAny_Tuple_spliced (names_run (X := X.suite a ((a, oe3) :: (X.pn ++ pins))) (cs := cs) S3 (L2.Paired.mapP hc fun _ _ z => z) ⟨by rw [sizeLine_eq]; omega, ?_⟩))) (by intro q; cases q)
    dsimp only
    have kp : ∀ b o, h3.get? b = some o → (h3.push { cls := .type "tuple", data := .seq cs.toArray }).get? b = some o := fun _ _ z => Heap.get?_push_of_some _ z
    have LT : PySem.W.Looks (model X.prog X.w) (h3.push { cls := .type "tuple", data := .seq cs.toArray }) (typeOf (.ref a)) cls := fun A Q E s k q => wpAny_typeOf_ref (k _ _ (kp _ _ he3)) (by rw [hz3.1]; exact q)
    refine (exm_some (J3.kIn.keeps kp) LT (Heap.get?_push_size h3 rfl) rfl rfl bs hbl hba hbx).here ?_
    refine codeAny_handlers_suite_as (HandSPX.lands_againZ (fly_keeps fl3 kp) fun h4 fl4 up4 => ?_)
    have J4 : Inv X pins σ' H' { s' with heap := h4 } := J.landed nb fl4.1 (((up.trans up3).trans (Heap.UpToSlots.of_keeps kp)).trans up4) os ag
    obtain ⟨oe4, vs4, he4, hz4, hd4⟩ := fl4.there
    have S4 := J4.suite he4 hd4 na nL nF
    refine store_ok (X := X.suite a ((a, oe4) :: (X.pn ++ pins))) (v := .ref a) S4 hN hi (.inl hln) rfl (fun s5 S5 => ?_) (.inr hln)
    refine wpAny_mono ((hsu a oe4 (X.pn ++ pins)).run [] s5 _ H' _ S5 (hyes a na)) (fun f s6 hsp => ?_) (fun _ _ z => False.elim z)
    cases f with
    | next =>
      obtain ⟨σ6, H6, S6, q6⟩ := hsp
      refine gone_ok (X := X.suite a ((a, oe4) :: (X.pn ++ pins))) S6 hN hi hln fun s7 S7 => ⟨_, _, adopt (S7.unsuite ok) ?_ ?_ nL ?_ ?_ ?_, q6⟩
      · exact (S7.pin (a, oe4) (List.mem_append_left _ List.mem_cons_self)).2.1
      · cases z : X.s_0.heap.get? a with
        | none => rfl
        | some o =>
          obtain ⟨o', y⟩ := J.base.there a o z (by rw [hex]; exact fun q => nomatch q)
          rw [nI] at y; cases y
      · intro x c ec z
        obtain ⟨v, ob, eo, _⟩ := J.cell x c ec
        rw [z, nI] at eo; cases eo
      · intro p hp z
        have y := (J.pin p hp).1
        rw [z, nI] at y; cases y
      · exact exk_ok (S7.pin (a, oe4) (List.mem_append_left _ List.mem_cons_self)).1 hz4 hd4
    | brk => obtain ⟨σ6, H6, S6, q6⟩ := hsp; exact q6.elim
    | cont => obtain ⟨σ6, H6, S6, q6⟩ := hsp; exact q6.elim
    | ret u => obtain ⟨v6, σ6, H6, S6, r6, q6⟩ := hsp; exact q6.elim
  · cases f with
    | next => obtain ⟨σ', H', J', q⟩ := hsp; exact wpAny_execs_nil ⟨σ', H', J'.ofTry ok, q⟩
    | brk => obtain ⟨σ', H', J', q⟩ := hsp; exact ⟨σ', H', J'.ofTry ok, q⟩
    | cont => obtain ⟨σ', H', J', q⟩ := hsp; exact ⟨σ', H', J'.ofTry ok, q⟩
    | ret u => obtain ⟨v, σ', H', J', r, q⟩ := hsp; exact ⟨v, σ', H', J'.ofTry ok, r, q⟩
end
end Pc
namespace Pc
open PySem PySem.Spec PyProof.Rows L2 RZ
/-- what isinstance asks of the class of a kept error -/
structure KeptC (K : PySem.W.Frag) (C : Addr) : Prop where
  ga : PySem.W.findIn K (.ref C) "__getattribute__" = some (some (.builtin "BaseException.__getattribute__"))
  gg : PySem.W.findIn K (.ref C) "__getattr__" = some none
  exC : PySem.W.subIn K (.ref C) (.type "BaseException") = some true
  hdC : PySem.W.hasDictIn K C = true
  clC : PySem.W.findIn K (.ref C) "__class__" = some (some (.builtin "object.__class__"))
  mrO : PySem.W.mroIn K C (.type "object") = some true
  sp : PySem.W.specialIn K (.builtin "object.__class__") "__get__" = some (some (.builtin "getset_descriptor.__get__"))
  tk : PySem.W.takesIn K (.builtin "object.__class__") = some true
/-- a kept error with its dict -/
def Kept (H : Hp) (a C : Addr) (d : Option Addr) : Prop := H a = some (exk a (.ref C) d) ∧ (d = none ∨ ∃ dd fs, d = some dd ∧ H dd = some (.xd fs))
section
variable {X : Cx} {pins : List (Addr × Obj)} {σ : L2.St} {H : Hp} {s : Shared} {a C : Addr} {d : Option Addr}
theorem kept_inst (I : Inv X pins σ H s) (h : Kept H a C d) : ∃ (oe : Obj) (od : Option Obj), PySem.W.InstAt s.heap a oe C od := by
  obtain ⟨e, hd⟩ := h
  obtain ⟨oe, vs, ho, hz, hv⟩ := exk_at I.hok e
  have nc : PySem.W.notCls oe = true := by unfold PySem.W.notCls; rw [hv] <;> rfl
  rcases hd with rfl | ⟨dd, fs, rfl, ed⟩
  · exact ⟨oe, none, ho, hz.1, nc, by rw [hz.2]; trivial⟩
  · obtain ⟨mA, ⟨od, es, ep, q, _⟩, _⟩ := (show ObjOk X.prog X.w H s.heap dd (.xd fs) from I.hok dd _ ed)
    exact ⟨oe, some od, ho, hz.1, nc, by rw [hz.2]; exact q⟩
theorem kept_kit (T : KeptC X.K C) {oe : Obj} {od : Option Obj} : PySem.W.KitX X.K (.ref a) (.ref C) (fun h => PySem.W.InstAt h a oe C od) :=
  PySem.W.kitx_exc (by obtain ⟨cd, hc, _⟩ := PySem.W.any_some T.hdC; rw [hc]; rfl) T.ga T.gg T.exC T.clC T.sp T.tk T.mrO
/-- isinstance(e, c), e a kept error -/
def rIsk (K : PySem.W.Frag) : List V → Hp → VK → Prop := fun xs H Q => ∃ (a C : Addr) (d : Option Addr) (c : V) (u : Value) (b : Bool), xs = [.ref a, c] ∧ Kept H a C d ∧ KeptC K C ∧ ClsV c u ∧ PySem.W.kitOne K (.ref C) u = some b ∧ Q (.bl b) H
theorem call_isk : CallR X (.builtin "isinstance") (rIsk X.K) := by
  intro pins s σ H xs us Q I r h
  obtain ⟨a, C, d, c, u, b, rfl, hk, T, k, e, q⟩ := h
  obtain ⟨u1, u2, rfl, r1, r2⟩ := vals2 r
  cases (show u1 = Value.ref a from r1)
  have e2 := k.eq r2
  subst e2
  obtain ⟨oe, od, J⟩ := kept_inst I hk
  exact PySem.W.kia_one (kept_kit T) I.kIn J e (fun z => nomatch z) fun tk => ⟨.bl b, H, I.tok tk, rfl, q⟩
/-- isinstance(e, (c, ..)) -/
def rIskT (K : PySem.W.Frag) : List V → Hp → VK → Prop := fun xs H Q => ∃ (a C : Addr) (d : Option Addr) (tp : Addr) (cs : List V) (us : List Value) (b : Bool), xs = [.ref a, .ref tp] ∧ Kept H a C d ∧ KeptC K C ∧ H tp = some (.tup cs) ∧ Paired ClsV cs us ∧ PySem.W.kitAny K (.ref C) us = some b ∧ Q (.bl b) H
theorem call_iskT : CallR X (.builtin "isinstance") (rIskT X.K) := by
  intro pins s σ H xs us Q I r h
  obtain ⟨a, C, d, tp, cs, ws, b, rfl, hk, T, hT, k, e, q⟩ := h
  obtain ⟨u1, u2, rfl, r1, r2⟩ := vals2 r
  cases (show u1 = Value.ref a from r1)
  cases (show u2 = Value.ref tp from r2)
  obtain ⟨oe, od, J⟩ := kept_inst I hk
  obtain ⟨_, its, rv, o, h1, h2, n, h3⟩ := (show ObjOk X.prog X.w H s.heap tp (.tup cs) from I.hok tp _ hT)
  have e3 := ClsV.all k rv
  subst e3
  obtain ⟨oc, od', dt, sl⟩ := o
  simp only at h2 h3
  subst h2 h3
  exact PySem.W.kia_tup (kept_kit T) I.kIn J h1 e (fun z => nomatch z) fun tk => ⟨.bl b, H, I.tok tk, rfl, q⟩
/-- e.f, e a kept error -/
def tKf (K : PySem.W.Frag) (f : Str) (te : TE) : TE := fun σ H Q => te σ H fun x H1 => ∃ (a C dd : Addr) (fs : List (Str × V)) (v : V), x = .ref a ∧ H1 a = some (exk a (.ref C) (some dd)) ∧ KeptC K C ∧ PySem.W.findIn K (.ref C) f = some none ∧ H1 dd = some (.xd fs) ∧ fs.lookup f = some v ∧ Q v H1
theorem pe_kf {e : Expr} {te : TE} {f : Str} {pos : Pos} (he : PE X e te) (hb : attributeBase e f X.env (eval e X.env) = eval e X.env := by rfl) : PE X (.Attribute e f pos) (tKf X.K f te) := by
  refine ⟨fun pins s σ H Q I h => attr_of hb (thn (he.run pins s σ H _ I h) fun u s1 hh => ?_)⟩
  obtain ⟨x, H1, I1, rx, a, C, dd, fs, v, ex, ea, T, hno, ed, l, q⟩ := hh
  subst ex
  obtain rfl : u = Value.ref a := rx
  obtain ⟨oe, vs, ho, hz, hv⟩ := exk_at I1.hok ea
  obtain ⟨mA, hns, hr⟩ := (show ObjOk X.prog X.w H1 s1.heap dd (.xd fs) from I1.hok dd _ ed)
  obtain ⟨od, hod, hl⟩ := lookIn_ns hns
  obtain ⟨w', hw, rw'⟩ := RelO.some_of (v := v) (o := mA f) (by rw [← l]; exact hr f)
  have J : PySem.W.InstAt s1.heap a oe C (some od) := ⟨ho, hz.1, by unfold PySem.W.notCls; rw [hv] <;> rfl, by rw [hz.2]; exact hod⟩
  exact HandSPX.exc_get I1.kIn J T.ga T.gg T.exC (PySem.W.findObj_own T.hdC hno rfl (by rw [hl, hw])) (handed_of rw') ⟨v, H1, I1.tok _, rw', q⟩
end
end Pc
namespace Pc
open PySem PySem.Spec PyProof.Rows L2 RZ
/-! ### errors with one field: made, flying -/
/-- an error of the class at C with the field f flies, from the heap H on -/
def Flies (C : Addr) (f : Str) (v : V) (H : Hp) (E : XK) : Prop := ∀ d H', Same H H' → H d = none → H' d = some (.xd [(f, v)]) → E (.ref C) (some d) H'
theorem Flies.same {C : Addr} {f : Str} {v : V} {H H1 : Hp} {E : XK} (h : Flies C f v H E) (s : Same H H1) : Flies C f v H1 E := fun d H' s' n e => h d H' (s.trans s') (s.free n) e
def spInit1 (C : Addr) (f : Str) : Sp := fun vs H Q _ => ∃ (a : Addr) (v : V), vs = [.ref a, v] ∧ H a = some (exo a C none) ∧ ∀ dx, H dx = none → dx ≠ a → Q .non (upd (upd H a (exo a C (some dx))) dx (exd dx [(f, v)]))
theorem raised1 {C : Addr} {f : Str} {v : V} {H1 : Hp} {Q : XK} (h : Flies C f v H1 Q) : [v].length ≤ 1000 ∧ ∀ a, H1 a = none → spInit1 C f (.ref a :: [v]) (upd H1 a (exo a C none))
    (fun v' H2 => v' = .non ∧ ((H2 a = some (exo a C none) ∧ Q (.ref C) none (del H2 a)) ∨ ∃ (d : Addr) (fs : List (Str × V)), H2 a = some (exo a C (some d)) ∧ H2 d = some (exd d fs) ∧ Q (.ref C) (some d) (upd (del H2 a) d (.xd fs)))) (fun _ _ _ => False) := by
  refine ⟨(by show 1 ≤ 1000; decide), fun a na => ⟨a, v, rfl, upd_same, fun dx nd ne => ⟨rfl, .inr ⟨dx, [(f, v)], ?_, upd_same, h dx _ ?_ ?_ upd_same⟩⟩⟩⟩
  · rw [upd_ne (Ne.symm ne), upd_same]
  · intro b o hb
    have nd' : H1 dx = none := by rw [upd_ne ne] at nd; exact nd
    have hbd := ne_of_none hb nd'
    have hba := ne_of_none hb na
    rw [upd_ne hbd, del_ne hba, upd_ne hbd, upd_ne hba, upd_ne hba]
    exact hb
  · rw [upd_ne ne] at nd; exact nd
/-- the try's wish of such an error -/
theorem kept1 {K : PySem.W.Frag} {C : Addr} {f : Str} {v : V} {cs : List Value} {i : Nat} {ts : Addr → TS} {D : Ends} {σ : L2.St} {H : Hp} (hh : Hits K (.ref C) cs)
    (h : ∀ d H' a, Same H H' → H d = none → H' d = some (.xd [(f, v)]) → H' a = none → a ≠ d → ts a { nx := fun σ' H'' => D.nx (σ'.set i none) (upd H'' a (exk a (.ref C) (some d))), rt := fun _ _ => False } (σ.set i (some (.ref a))) H') :
    Flies C f v H (fun cls d H' => wKept K cs i ts D cls d σ H') := fun d H' s n e => ⟨hh, fun a na => h d H' a s n e na (fun z => by rw [z, e] at na; cases na)⟩
theorem Kept.mk1 {H' : Hp} {a d C : Addr} {fs : List (Str × V)} (e : H' d = some (.xd fs)) (n : H' a = none) : Kept (upd H' a (exk a (.ref C) (some d))) a C (some d) :=
  ⟨upd_same, .inr ⟨d, fs, rfl, by rw [upd_ne (ne_of_none e n)]; exact e⟩⟩
theorem Kept.same {H H' : Hp} {a C : Addr} {d : Option Addr} (h : Kept H a C d) (s : Same H H') : Kept H' a C d :=
  ⟨s _ _ h.1, h.2.imp id fun ⟨dd, fs, e, z⟩ => ⟨dd, fs, e, s _ _ z⟩⟩
theorem over_of {K : PySem.W.Frag} {C : Addr} {bmB : List Value} {newId : String} {nm q : Str} {N : Addr} {bs : List Value} {sn : List Str} {sub : List Value} {ab : Bool} {col : Option Bool} {dd : Option Addr} {k0 k1 k2 k3 k5 : Option Value}
    (h : K.lookup C = some (excClassObj nm q C N bs bmB true sn sub ab col dd k0 k1 k2 k3 k5 newId)) (ht : PySem.W.excTail bmB bmB = true) : PySem.W.excOver K C bmB = true := by
  have e : PySem.W.clsIn K C = some { name := nm, bases := bs, mro := .ref C :: bmB, ns := N, qualname := q, hasDict := true, slotNames := sn, subclasses := sub, abstract := ab, collection := col, hasDel := false } := by
    unfold PySem.W.clsIn
    rw [h] <;> rfl
  unfold PySem.W.excOver
  rw [e]
  show ((C == C) && PySem.W.excTail bmB bmB) = true
  rw [ht, beq_self_eq_true]; rfl
theorem kcls_of {K : PySem.W.Frag} {t : Value} {D : Addr} {b : Bool} (h2 : PySem.W.isClsIn K D = true) (h3 : PySem.W.typeIn K (.ref D) = some (.type "type")) (h4 : PySem.W.subIn K t (.ref D) = some b) : PySem.W.kitCls K t (.ref D) = some b := by
  have e2 : ((PySem.W.clsIn K D).isSome && PySem.W.typeIn K (.ref D) == some (.type "type")) = true := by
    have h2' : (PySem.W.clsIn K D).isSome = true := h2
    rw [h2', h3] <;> rfl
  show (if ((PySem.W.clsIn K D).isSome && PySem.W.typeIn K (.ref D) == some (.type "type")) = true then PySem.W.subIn K t (.ref D) else none) = some b
  rw [if_pos e2]
  exact h4
theorem exm_of' {K : PySem.W.Frag} {t : Value} {D : Addr} {b : Bool} (h1 : PySem.W.subIn K (.ref D) (.type "BaseException") = some true) (h2 : PySem.W.isClsIn K D = true) (h3 : PySem.W.typeIn K (.ref D) = some (.type "type")) (h4 : PySem.W.subIn K t (.ref D) = some b) : PySem.W.exmOne K t (.ref D) = some b := by
  have e1 : (PySem.W.subIn K (.ref D) (.type "BaseException") == some true) = true := by rw [h1] <;> rfl
  show (if (PySem.W.subIn K (.ref D) (.type "BaseException") == some true) = true then PySem.W.kitCls K t (.ref D) else none) = some b
  rw [if_pos e1]
  exact kcls_of h2 h3 h4
theorem kit_own {K : PySem.W.Frag} {C D : Addr} {b : Bool} (h0 : PySem.W.subIn K (.ref C) (.ref C) = some true) (h2 : PySem.W.isClsIn K D = true) (h3 : PySem.W.typeIn K (.ref D) = some (.type "type")) (h4 : PySem.W.subIn K (.ref C) (.ref D) = some b) : PySem.W.kitOne K (.ref C) (.ref D) = some b := by
  by_cases e : C = D
  · subst e
    rw [h0] at h4
    rw [← h4]
    show (if ((Value.ref C) == (Value.ref C)) = true then some true else _) = some true
    rw [if_pos (beq_self_eq_true _)]
  · have n : ((Value.ref C) == (Value.ref D)) = false := beq_false_of_ne (fun z => e (Value.ref.inj z))
    show (if ((Value.ref C) == (Value.ref D)) = true then some true else PySem.W.kitCls K (.ref C) (.ref D)) = some b
    rw [if_neg (by rw [n]; exact Bool.false_ne_true)]
    exact kcls_of h2 h3 h4
theorem kit_blt {K : PySem.W.Frag} {C : Addr} {T : String} {b : Bool} (hm : PySem.W.kitMeta T = true) (h4 : PySem.W.subIn K (.ref C) (.type T) = some b) : PySem.W.kitOne K (.ref C) (.type T) = some b := by
  have n : ((Value.ref C) == (Value.type T)) = false := beq_false_of_ne (fun z => nomatch z)
  show (if ((Value.ref C) == (Value.type T)) = true then some true else (if PySem.W.kitMeta T = true then PySem.W.subIn K (.ref C) (.type T) else none)) = some b
  rw [if_neg (by rw [n]; exact Bool.false_ne_true), if_pos hm]
  exact h4
theorem kit_all {K : PySem.W.Frag} {t : Value} : ∀ {us : List Value}, (∀ u ∈ us, PySem.W.kitOne K t u = some false) → PySem.W.kitAny K t us = some false
  | [], _ => rfl
  | u :: us, h => by
    show (match PySem.W.kitOne K t u with | some true => some true | some false => PySem.W.kitAny K t us | none => none) = some false
    rw [h u List.mem_cons_self]
    exact kit_all fun x hx => h x (List.mem_cons_of_mem _ hx)
end Pc
namespace Pc
open PySem PySem.Spec PyProof.Rows L2 RZ
theorem kit_nil {K : PySem.W.Frag} {t : Value} : PySem.W.kitAny K t [] = some false := rfl
theorem kit_cons {K : PySem.W.Frag} {t u : Value} {us : List Value} (h : PySem.W.kitOne K t u = some false) (r : PySem.W.kitAny K t us = some false) : PySem.W.kitAny K t (u :: us) = some false := by
  show (match PySem.W.kitOne K t u with | some true => some true | some false => PySem.W.kitAny K t us | none => none) = some false
  rw [h]
  exact r
theorem hits_of {K : PySem.W.Frag} {cls : Value} {cs : List Value} (bs : List Bool) (hb : bs.any id = true) (h : Paired (fun c b => PySem.W.exmOne K cls c = some b) cs bs) : Hits K cls cs :=
  ⟨bs, h.length.symm, hb, fun i c y hc hy => by
    obtain ⟨y', e, z⟩ := paired_get h hc
    rw [hy] at e; cases e
    exact z⟩
end Pc
namespace Pc
open PySem PySem.Spec PyProof.Rows L2 RZ
/-- two promises of one def -/
theorem FnOk.or {P : Program} {w : World} {K : PySem.W.Frag} {mg : Str → Option Value} {base : Heap} {CX : CXT} {k : Nat} {f : Addr} {fd : FuncData} {ps : List Str} {sp sp' : Sp} (F : FnOk P w K mg base CX k f fd ps sp) (G : FnOk P w K mg base CX k f fd ps sp') :
    FnOk P w K mg base CX k f fd ps (fun vs H Q E => sp vs H Q E ∨ sp' vs H Q E) where
  len vs H Q E h := h.elim (F.len vs H Q E) (G.len vs H Q E)
  run A outer s H args us vs Q E hr e0 hb r h := h.elim (F.run A outer s H args us vs Q E hr e0 hb r) (G.run A outer s H args us vs Q E hr e0 hb r)
end Pc
namespace Pc
open PySem PySem.Spec PyProof.Rows L2 RZ
def topS (i : Nat) : Stmt := PySem.Challenge.pw_partnercall_k02_pairings_by_number.main.body.getD i (.Pass ⟨0, 0, 0, 0⟩)
abbrev s_p_is_integer_below : Stmt := topS 5
abbrev N_p_is_integer_below : List Str := ["value", "limit"]
theorem sc_p_is_integer_below : FnScope ["value", "limit"] ["value", "limit"] (defScope s_p_is_integer_below) := ⟨rfl, rfl, rfl, by decide +kernel, rfl, by decide +kernel, by decide +kernel⟩
abbrev s_p_joins_in_pairs : Stmt := topS 6
abbrev N_p_joins_in_pairs : List Str := ["value", "at", "other", "item"]
theorem sc_p_joins_in_pairs : FnScope ["value", "at", "other", "item"] ["value"] (defScope s_p_joins_in_pairs) := ⟨rfl, rfl, rfl, by decide +kernel, rfl, by decide +kernel, by decide +kernel⟩
abbrev s_p_is_pairing : Stmt := topS 7
abbrev N_p_is_pairing : List Str := ["value"]
theorem sc_p_is_pairing : FnScope ["value"] ["value"] (defScope s_p_is_pairing) := ⟨rfl, rfl, rfl, by decide +kernel, rfl, by decide +kernel, by decide +kernel⟩
abbrev s_p_pairing_of : Stmt := topS 8
abbrev N_p_pairing_of : List Str := ["couples", "partners", "x", "y"]
theorem sc_p_pairing_of : FnScope ["couples", "partners", "x", "y"] ["couples"] (defScope s_p_pairing_of) := ⟨rfl, rfl, rfl, by decide +kernel, rfl, by decide +kernel, by decide +kernel⟩
abbrev s_p_pairings_many : Stmt := topS 9
abbrev N_p_pairings_many : List Str := ["size", "many", "factor"]
theorem sc_p_pairings_many : FnScope ["size", "many", "factor"] ["size"] (defScope s_p_pairings_many) := ⟨rfl, rfl, rfl, by decide +kernel, rfl, by decide +kernel, by decide +kernel⟩
abbrev s_p_pairing_at : Stmt := topS 10
abbrev N_p_pairing_at : List Str := ["size", "number", "many", "found", "free", "rest", "person", "choice"]
theorem sc_p_pairing_at : FnScope ["size", "number", "many", "found", "free", "rest", "person", "choice"] ["size", "number"] (defScope s_p_pairing_at) := ⟨rfl, rfl, rfl, by decide +kernel, rfl, by decide +kernel, by decide +kernel⟩
abbrev s_p_pairing_number : Stmt := topS 11
abbrev N_p_pairing_number : List Str := ["pairing", "number", "free", "person", "choice"]
theorem sc_p_pairing_number : FnScope ["pairing", "number", "free", "person", "choice"] ["pairing"] (defScope s_p_pairing_number) := ⟨rfl, rfl, rfl, by decide +kernel, rfl, by decide +kernel, by decide +kernel⟩
abbrev s_box : Stmt := topS 13
abbrev N_box : List Str := ["_law_script", "_law_k", "_law_cell"]
theorem sc_box : FnScope ["_law_script", "_law_k", "_law_cell"] ["_law_script", "_law_k"] (defScope s_box) := ⟨rfl, rfl, rfl, by decide +kernel, rfl, by decide +kernel, by decide +kernel⟩
abbrev s_take : Stmt := topS 14
abbrev N_take : List Str := ["_law_box_here", "_law_span", "_law_found", "_law_once"]
theorem sc_take : FnScope ["_law_box_here", "_law_span", "_law_found", "_law_once"] ["_law_box_here", "_law_span"] (defScope s_take) := ⟨rfl, rfl, rfl, by decide +kernel, rfl, by decide +kernel, by decide +kernel⟩
abbrev s_cells : Stmt := topS 15
abbrev N_cells : List Str := ["_law_script", "_law_most", "_law_cells_here", "_law_k", "_law_cell"]
theorem sc_cells : FnScope ["_law_script", "_law_most", "_law_cells_here", "_law_k", "_law_cell"] ["_law_script", "_law_most"] (defScope s_cells) := ⟨rfl, rfl, rfl, by decide +kernel, rfl, by decide +kernel, by decide +kernel⟩
abbrev s_strewn : Stmt := topS 16
abbrev N_strewn : List Str := ["_law_box_here", "_law_some", "_law_left", "_law_found"]
theorem sc_strewn : FnScope ["_law_box_here", "_law_some", "_law_left", "_law_found"] ["_law_box_here", "_law_some"] (defScope s_strewn) := ⟨rfl, rfl, rfl, by decide +kernel, rfl, by decide +kernel, by decide +kernel⟩
abbrev s_same : Stmt := topS 17
abbrev N_same : List Str := ["_law_found", "_law_due", "_law_mine", "_law_its"]
theorem sc_same : FnScope ["_law_found", "_law_due", "_law_mine", "_law_its"] ["_law_found", "_law_due"] (defScope s_same) := ⟨rfl, rfl, rfl, by decide +kernel, rfl, by decide +kernel, by decide +kernel⟩
abbrev s_paired : Stmt := topS 18
abbrev N_paired : List Str := ["_law_order", "_law_found", "_law_k"]
theorem sc_paired : FnScope ["_law_order", "_law_found", "_law_k"] ["_law_order"] (defScope s_paired) := ⟨rfl, rfl, rfl, by decide +kernel, rfl, by decide +kernel, by decide +kernel⟩
abbrev s_random : Stmt := topS 19
abbrev N_random : List Str := ["_law_box_here", "_law_count"]
theorem sc_random : FnScope ["_law_box_here", "_law_count"] ["_law_box_here", "_law_count"] (defScope s_random) := ⟨rfl, rfl, rfl, by decide +kernel, rfl, by decide +kernel, by decide +kernel⟩
abbrev s_every : Stmt := topS 20
abbrev N_every : List Str := ["_law_people", "_law_found", "_law_mate", "_law_rest", "_law_who", "_law_more"]
theorem sc_every : FnScope ["_law_people", "_law_found", "_law_mate", "_law_rest", "_law_who", "_law_more"] ["_law_people"] (defScope s_every) := ⟨rfl, rfl, rfl, by decide +kernel, rfl, by decide +kernel, by decide +kernel⟩
abbrev s_of_couples : Stmt := topS 21
abbrev N_of_couples : List Str := ["_law_couples_now", "_law_count", "_law_found", "_law_a", "_law_b"]
theorem sc_of_couples : FnScope ["_law_couples_now", "_law_count", "_law_found", "_law_a", "_law_b"] ["_law_couples_now", "_law_count"] (defScope s_of_couples) := ⟨rfl, rfl, rfl, by decide +kernel, rfl, by decide +kernel, by decide +kernel⟩
abbrev s_odd_product : Stmt := topS 22
abbrev N_odd_product : List Str := ["_law_most", "_law_found", "_law_factor"]
theorem sc_odd_product : FnScope ["_law_most", "_law_found", "_law_factor"] ["_law_most"] (defScope s_odd_product) := ⟨rfl, rfl, rfl, by decide +kernel, rfl, by decide +kernel, by decide +kernel⟩
abbrev s_refused : Stmt := topS 23
abbrev N_refused : List Str := ["_law_count", "_law_far", "_law_caught", "error", "_law_fine"]
theorem sc_refused : FnScope ["_law_count", "_law_far", "_law_caught", "error", "_law_fine"] ["_law_count", "_law_far"] (defScope s_refused) := ⟨rfl, rfl, rfl, by decide +kernel, rfl, by decide +kernel, by decide +kernel⟩
abbrev s_few_right : Stmt := topS 24
abbrev N_few_right : List Str := ["_law_box_here", "_law_count", "_law_due", "_law_at", "_law_told", "_law_some", "_law_turn"]
theorem sc_few_right : FnScope ["_law_box_here", "_law_count", "_law_due", "_law_at", "_law_told", "_law_some", "_law_turn"] ["_law_box_here"] (defScope s_few_right) := ⟨rfl, rfl, rfl, by decide +kernel, rfl, by decide +kernel, by decide +kernel⟩
abbrev s_right : Stmt := topS 25
abbrev N_right : List Str := ["_law_box_here", "_law_count", "_law_top", "_law_some", "_law_at", "_law_crowds", "_law_crowd", "_law_far", "_law_it", "_law_turn"]
theorem sc_right : FnScope ["_law_box_here", "_law_count", "_law_top", "_law_some", "_law_at", "_law_crowds", "_law_crowd", "_law_far", "_law_it", "_law_turn"] ["_law_box_here"] (defScope s_right) := ⟨rfl, rfl, rfl, by decide +kernel, rfl, by decide +kernel, by decide +kernel⟩
abbrev s_law : Stmt := topS 26
abbrev N_law : List Str := ["_law_script", "_law_cells_here", "_law_k", "_law_box_here", "_law_turn"]
theorem sc_law : FnScope ["_law_script", "_law_cells_here", "_law_k", "_law_box_here", "_law_turn"] ["_law_script"] (defScope s_law) := ⟨rfl, rfl, rfl, by decide +kernel, rfl, by decide +kernel, by decide +kernel⟩
abbrev s_i_NoNumber : Stmt := inClass (topS 2) 0
abbrev N_i_NoNumber : List Str := ["self", "number"]
theorem sc_i_NoNumber : FnScope ["self", "number"] ["self", "number"] (defScope s_i_NoNumber) := ⟨rfl, rfl, rfl, by decide +kernel, rfl, by decide +kernel, by decide +kernel⟩
set_option genInjectivity false in
set_option genSizeOf false in
structure Env (K : PySem.W.Frag) (mg : Str → Option Value) where
  n_isinstance : mg "isinstance" = none
  n_int : mg "int" = none
  n_bool : mg "bool" = none
  n_len : mg "len" = none
  n_tuple : mg "tuple" = none
  n_all : mg "all" = none
  n_enumerate : mg "enumerate" = none
  n_range : mg "range" = none
  n_list : mg "list" = none
  n_divmod : mg "divmod" = none
  n_abs : mg "abs" = none
  n_zip : mg "zip" = none
  n_str : mg "str" = none
  n_LookupError : mg "LookupError" = none
  n_IndexError : mg "IndexError" = none
  n_KeyError : mg "KeyError" = none
  n_sorted : mg "sorted" = none
  n_set : mg "set" = none
  f_p_is_integer_below : Addr
  d_p_is_integer_below : FuncData
  F_p_is_integer_below : Fun K "is_integer_below" "is_integer_below" s_p_is_integer_below f_p_is_integer_below d_p_is_integer_below
  g_p_is_integer_below : mg "is_integer_below" = some (.ref f_p_is_integer_below)
  f_p_joins_in_pairs : Addr
  d_p_joins_in_pairs : FuncData
  F_p_joins_in_pairs : Fun K "joins_in_pairs" "joins_in_pairs" s_p_joins_in_pairs f_p_joins_in_pairs d_p_joins_in_pairs
  g_p_joins_in_pairs : mg "joins_in_pairs" = some (.ref f_p_joins_in_pairs)
  f_p_is_pairing : Addr
  d_p_is_pairing : FuncData
  F_p_is_pairing : Fun K "is_pairing" "is_pairing" s_p_is_pairing f_p_is_pairing d_p_is_pairing
  g_p_is_pairing : mg "is_pairing" = some (.ref f_p_is_pairing)
  f_p_pairing_of : Addr
  d_p_pairing_of : FuncData
  F_p_pairing_of : Fun K "pairing_of" "pairing_of" s_p_pairing_of f_p_pairing_of d_p_pairing_of
  g_p_pairing_of : mg "pairing_of" = some (.ref f_p_pairing_of)
  f_p_pairings_many : Addr
  d_p_pairings_many : FuncData
  F_p_pairings_many : Fun K "pairings_many" "pairings_many" s_p_pairings_many f_p_pairings_many d_p_pairings_many
  g_p_pairings_many : mg "pairings_many" = some (.ref f_p_pairings_many)
  f_p_pairing_at : Addr
  d_p_pairing_at : FuncData
  F_p_pairing_at : Fun K "pairing_at" "pairing_at" s_p_pairing_at f_p_pairing_at d_p_pairing_at
  g_p_pairing_at : mg "pairing_at" = some (.ref f_p_pairing_at)
  f_p_pairing_number : Addr
  d_p_pairing_number : FuncData
  F_p_pairing_number : Fun K "pairing_number" "pairing_number" s_p_pairing_number f_p_pairing_number d_p_pairing_number
  g_p_pairing_number : mg "pairing_number" = some (.ref f_p_pairing_number)
  f_box : Addr
  d_box : FuncData
  F_box : Fun K "_law_box" "_law_box" s_box f_box d_box
  g_box : mg "_law_box" = some (.ref f_box)
  f_take : Addr
  d_take : FuncData
  F_take : Fun K "_law_take" "_law_take" s_take f_take d_take
  g_take : mg "_law_take" = some (.ref f_take)
  f_cells : Addr
  d_cells : FuncData
  F_cells : Fun K "_law_cells" "_law_cells" s_cells f_cells d_cells
  g_cells : mg "_law_cells" = some (.ref f_cells)
  f_strewn : Addr
  d_strewn : FuncData
  F_strewn : Fun K "_law_strewn" "_law_strewn" s_strewn f_strewn d_strewn
  g_strewn : mg "_law_strewn" = some (.ref f_strewn)
  f_same : Addr
  d_same : FuncData
  F_same : Fun K "_law_same" "_law_same" s_same f_same d_same
  g_same : mg "_law_same" = some (.ref f_same)
  f_paired : Addr
  d_paired : FuncData
  F_paired : Fun K "_law_paired" "_law_paired" s_paired f_paired d_paired
  g_paired : mg "_law_paired" = some (.ref f_paired)
  f_random : Addr
  d_random : FuncData
  F_random : Fun K "_law_random" "_law_random" s_random f_random d_random
  g_random : mg "_law_random" = some (.ref f_random)
  f_every : Addr
  d_every : FuncData
  F_every : Fun K "_law_every" "_law_every" s_every f_every d_every
  g_every : mg "_law_every" = some (.ref f_every)
  f_of_couples : Addr
  d_of_couples : FuncData
  F_of_couples : Fun K "_law_of_couples" "_law_of_couples" s_of_couples f_of_couples d_of_couples
  g_of_couples : mg "_law_of_couples" = some (.ref f_of_couples)
  f_odd_product : Addr
  d_odd_product : FuncData
  F_odd_product : Fun K "_law_odd_product" "_law_odd_product" s_odd_product f_odd_product d_odd_product
  g_odd_product : mg "_law_odd_product" = some (.ref f_odd_product)
  f_refused : Addr
  d_refused : FuncData
  F_refused : Fun K "_law_refused" "_law_refused" s_refused f_refused d_refused
  g_refused : mg "_law_refused" = some (.ref f_refused)
  f_few_right : Addr
  d_few_right : FuncData
  F_few_right : Fun K "_law_few_right" "_law_few_right" s_few_right f_few_right d_few_right
  g_few_right : mg "_law_few_right" = some (.ref f_few_right)
  f_right : Addr
  d_right : FuncData
  F_right : Fun K "_law_right" "_law_right" s_right f_right d_right
  g_right : mg "_law_right" = some (.ref f_right)
  C_NoNumber : Addr
  gC_NoNumber : mg "NoNumber" = some (.ref C_NoNumber)
  C_NoDeed : Addr
  gC_NoDeed : mg "NoDeed" = some (.ref C_NoDeed)
  C_NoPerson : Addr
  gC_NoPerson : mg "NoPerson" = some (.ref C_NoPerson)
  own_NoNumber : Own K "LookupError.__new__" [.type "LookupError", .type "Exception", .type "BaseException", .type "object"] C_NoNumber
  kpt_NoNumber : KeptC K C_NoNumber
  no_NoNumber : PySem.W.findIn K (.ref C_NoNumber) "number" = some none
  f_i_NoNumber : Addr
  d_i_NoNumber : FuncData
  F_i_NoNumber : Fun K "__init__" "NoNumber.__init__" s_i_NoNumber f_i_NoNumber d_i_NoNumber
  iC_NoNumber : PySem.W.findIn K (.ref C_NoNumber) "__init__" = some (some (.ref f_i_NoNumber))
  tI_NoNumber : PySem.W.typeIn K (.ref f_i_NoNumber) = some (.type "function")
  ee_NoNumber : PySem.W.exmOne K (.ref C_NoNumber) (.ref C_NoNumber) = some true
  kk_NoNumber : PySem.W.kitOne K (.ref C_NoNumber) (.ref C_NoNumber) = some true
  ex_NoNumber_NoDeed : PySem.W.exmOne K (.ref C_NoNumber) (.ref C_NoDeed) = some false
  ki_NoNumber_NoDeed : PySem.W.kitOne K (.ref C_NoNumber) (.ref C_NoDeed) = some false
  ex_NoNumber_NoPerson : PySem.W.exmOne K (.ref C_NoNumber) (.ref C_NoPerson) = some false
  ki_NoNumber_NoPerson : PySem.W.kitOne K (.ref C_NoNumber) (.ref C_NoPerson) = some false
  kb_NoNumber_LookupError : PySem.W.kitOne K (.ref C_NoNumber) (.type "LookupError") = some true
  kb_NoNumber_IndexError : PySem.W.kitOne K (.ref C_NoNumber) (.type "IndexError") = some false
  kb_NoNumber_KeyError : PySem.W.kitOne K (.ref C_NoNumber) (.type "KeyError") = some false
  vV_LookupError : PySem.W.findCls K (.type "LookupError") (.type "type") "__init__" = some (.val (.builtin "LookupError.__init__"))
theorem Env.b_i_NoNumber {K : PySem.W.Frag} {mg : Str → Option Value} (T : Env K mg) : Binds K T.d_i_NoNumber ["self", "number"] [] := T.F_i_NoNumber.binds fun _ _ _ _ _ _ us hl => match us, hl with | [_, _], _ => rfl
theorem Env.b_p_is_integer_below {K : PySem.W.Frag} {mg : Str → Option Value} (T : Env K mg) : Binds K T.d_p_is_integer_below ["value", "limit"] [] := T.F_p_is_integer_below.binds fun _ _ _ _ _ _ us hl => match us, hl with | [_, _], _ => rfl
theorem Env.b_p_joins_in_pairs {K : PySem.W.Frag} {mg : Str → Option Value} (T : Env K mg) : Binds K T.d_p_joins_in_pairs ["value"] [] := T.F_p_joins_in_pairs.binds fun _ _ _ _ _ _ us hl => match us, hl with | [_], _ => rfl
theorem Env.b_p_is_pairing {K : PySem.W.Frag} {mg : Str → Option Value} (T : Env K mg) : Binds K T.d_p_is_pairing ["value"] [] := T.F_p_is_pairing.binds fun _ _ _ _ _ _ us hl => match us, hl with | [_], _ => rfl
theorem Env.b_p_pairing_of {K : PySem.W.Frag} {mg : Str → Option Value} (T : Env K mg) : Binds K T.d_p_pairing_of ["couples"] [] := T.F_p_pairing_of.binds fun _ _ _ _ _ _ us hl => match us, hl with | [_], _ => rfl
theorem Env.b_p_pairings_many {K : PySem.W.Frag} {mg : Str → Option Value} (T : Env K mg) : Binds K T.d_p_pairings_many ["size"] [] := T.F_p_pairings_many.binds fun _ _ _ _ _ _ us hl => match us, hl with | [_], _ => rfl
theorem Env.b_p_pairing_at {K : PySem.W.Frag} {mg : Str → Option Value} (T : Env K mg) : Binds K T.d_p_pairing_at ["size", "number"] [] := T.F_p_pairing_at.binds fun _ _ _ _ _ _ us hl => match us, hl with | [_, _], _ => rfl
theorem Env.b_p_pairing_number {K : PySem.W.Frag} {mg : Str → Option Value} (T : Env K mg) : Binds K T.d_p_pairing_number ["pairing"] [] := T.F_p_pairing_number.binds fun _ _ _ _ _ _ us hl => match us, hl with | [_], _ => rfl
theorem Env.b_box {K : PySem.W.Frag} {mg : Str → Option Value} (T : Env K mg) : Binds K T.d_box ["_law_script", "_law_k"] [] := T.F_box.binds fun _ _ _ _ _ _ us hl => match us, hl with | [_, _], _ => rfl
theorem Env.b_take {K : PySem.W.Frag} {mg : Str → Option Value} (T : Env K mg) : Binds K T.d_take ["_law_box_here", "_law_span"] [] := T.F_take.binds fun _ _ _ _ _ _ us hl => match us, hl with | [_, _], _ => rfl
theorem Env.b_cells {K : PySem.W.Frag} {mg : Str → Option Value} (T : Env K mg) : Binds K T.d_cells ["_law_script", "_law_most"] [] := T.F_cells.binds fun _ _ _ _ _ _ us hl => match us, hl with | [_, _], _ => rfl
theorem Env.b_strewn {K : PySem.W.Frag} {mg : Str → Option Value} (T : Env K mg) : Binds K T.d_strewn ["_law_box_here", "_law_some"] [] := T.F_strewn.binds fun _ _ _ _ _ _ us hl => match us, hl with | [_, _], _ => rfl
theorem Env.b_same {K : PySem.W.Frag} {mg : Str → Option Value} (T : Env K mg) : Binds K T.d_same ["_law_found", "_law_due"] [] := T.F_same.binds fun _ _ _ _ _ _ us hl => match us, hl with | [_, _], _ => rfl
theorem Env.b_paired {K : PySem.W.Frag} {mg : Str → Option Value} (T : Env K mg) : Binds K T.d_paired ["_law_order"] [] := T.F_paired.binds fun _ _ _ _ _ _ us hl => match us, hl with | [_], _ => rfl
theorem Env.b_random {K : PySem.W.Frag} {mg : Str → Option Value} (T : Env K mg) : Binds K T.d_random ["_law_box_here", "_law_count"] [] := T.F_random.binds fun _ _ _ _ _ _ us hl => match us, hl with | [_, _], _ => rfl
theorem Env.b_every {K : PySem.W.Frag} {mg : Str → Option Value} (T : Env K mg) : Binds K T.d_every ["_law_people"] [] := T.F_every.binds fun _ _ _ _ _ _ us hl => match us, hl with | [_], _ => rfl
theorem Env.b_of_couples {K : PySem.W.Frag} {mg : Str → Option Value} (T : Env K mg) : Binds K T.d_of_couples ["_law_couples_now", "_law_count"] [] := T.F_of_couples.binds fun _ _ _ _ _ _ us hl => match us, hl with | [_, _], _ => rfl
theorem Env.b_odd_product {K : PySem.W.Frag} {mg : Str → Option Value} (T : Env K mg) : Binds K T.d_odd_product ["_law_most"] [] := T.F_odd_product.binds fun _ _ _ _ _ _ us hl => match us, hl with | [_], _ => rfl
theorem Env.b_refused {K : PySem.W.Frag} {mg : Str → Option Value} (T : Env K mg) : Binds K T.d_refused ["_law_count", "_law_far"] [] := T.F_refused.binds fun _ _ _ _ _ _ us hl => match us, hl with | [_, _], _ => rfl
theorem Env.b_few_right {K : PySem.W.Frag} {mg : Str → Option Value} (T : Env K mg) : Binds K T.d_few_right ["_law_box_here"] [] := T.F_few_right.binds fun _ _ _ _ _ _ us hl => match us, hl with | [_], _ => rfl
theorem Env.b_right {K : PySem.W.Frag} {mg : Str → Option Value} (T : Env K mg) : Binds K T.d_right ["_law_box_here"] [] := T.F_right.binds fun _ _ _ _ _ _ us hl => match us, hl with | [_], _ => rfl
end Pc
namespace Pc
open PySem PySem.Spec PyProof.Rows L2 RZ
section
variable {P : Program} {w : World} {K : PySem.W.Frag} {mg : Str → Option Value} {base : Heap}
theorem ok_i_NoNumber (T : Env K mg) : FnOk P w K mg base CX0 1 T.f_i_NoNumber T.d_i_NoNumber ["self", "number"] (spInit1 T.C_NoNumber "number") := by
  refine T.F_i_NoNumber.ok sc_i_NoNumber (fun vs H Q E h => ?_) (fun cdv A outer s H vs Q E hr h => ?_)
  · obtain ⟨a, v, rfl, _⟩ := h
    rfl
  · obtain ⟨a, v, rfl, ha, q⟩ := h
    refine ⟨_, pss_cons (ps_expr (pe_binit (o := .Constant .none 0 ⟨0, 0, 0, 0⟩) bsL.fb (by rfl) T.n_LookupError (by decide +kernel) (by decide) (by decide) (by kernel_rfl) (by decide +kernel) (by decide +kernel) T.vV_LookupError (pa_cons (pv 0) (pa_cons pe_str pa_nil)))) (pss_one (ps_os (newId := "LookupError.__new__") bsL.sf (pv 0) (pv 1))), ?_⟩
    exact ⟨.ref a, rfl, a, _, [.str _], rfl, (by show 1 ≤ 1000; decide), T.own_NoNumber, ha, v, rfl, .ref a, rfl, a, _, rfl, T.own_NoNumber, T.no_NoNumber, ha, fun dx n ne => q dx n ne⟩
end
end Pc
namespace Pc
open PySem PySem.Spec PyProof.Rows L2 RZ
section
variable {P : Program} {w : World} {K : PySem.W.Frag} {mg : Str → Option Value} {base : Heap}
/-! ### a source -/
def spBox (K : PySem.W.Frag) : Sp := fun vs H Q _ => ∃ (a : Addr) (ns : List Int) (k : Nat), vs = [.ref a, .int k] ∧ SqL K H a (ns.map V.int) ∧ k ≤ 100 ∧
  ∀ H' b, Same H H' → H b = none → Box 1000000000 H' b → Q (.ref b) H'
theorem ok_box (T : Env K mg) : FnOk P w K mg base CX0 1 T.f_box T.d_box ["_law_script", "_law_k"] (spBox K) := by
  refine T.F_box.ok sc_box (fun vs H Q E h => ?_) (fun cdv A outer s H vs Q E hr h => ?_)
  · obtain ⟨a, ns, k, rfl, _⟩ := h
    rfl
  · obtain ⟨a, ns, k, rfl, hS, hk, q⟩ := h
    refine ⟨_, pss_cons (ps_set (i := 2) sc_box.nd rfl (.inl rfl)
        (pe_ifExp (pt_cmpR op_lt (pv 1) (pe_callB call_len_seq (by rfl) T.n_len PySem.boot_len (pa_cons (pv 0) pa_nil)) (nomark _)) (pe_ix ix_list (pv 0) (pv 1) (fun _ _ => rfl)) pe_int))
      (pss_one (ps_ret (pe_lst (pa_cons
          (pe_op op_mul (pe_callB call_abs (by rfl) T.n_abs (by decide +kernel) (pa_cons (pv 2) pa_nil))
            (pe_callTy call_int1 (by rfl) T.n_int (by decide +kernel) (pa_cons (pe_cmpR op_ge (pe_callB call_abs (by rfl) T.n_abs (by decide +kernel) (pa_cons (pv 2) pa_nil)) (pe_op op_pow pe_int pe_int) (nomark _)) pa_nil)))
        (pa_cons (pe_op op_add (pe_op op_add (pe_op op_mod (pv 2) pe_int) (pe_op op_mul pe_int (pv 1))) pe_int)
        (pa_cons pe_int pa_nil)))))), ?_⟩
    refine ⟨.int k, rfl, .ref a, rfl, a, ns.map V.int, rfl, .inl hS, _, _, rfl, rfl, _, rfl, ite2 (fun e => ?_) (fun e => ?_)⟩
    · have e1 : k < ns.length := by
        have := of_decide_eq_true e
        rw [List.length_map] at this
        omega
      refine ⟨.ref a, rfl, .int k, rfl, a, _, _, _, rfl, rfl, hS, atI_nat (v := .int ns[k]) (by rw [List.getElem?_map, List.getElem?_eq_getElem e1]; rfl), ?_⟩
      revert e; generalize ns[k] = c; intro _
      refine ⟨_, rfl, _, rfl, _, rfl, _, rfl, 10, 18, rfl, rfl, ⟨by decide, by decide, by decide⟩, _, _, rfl, rfl, .inr ⟨_, rfl, _, _, rfl, rfl, .inr (in64 (one0 _)), _, rfl, _, _, rfl, rfl, (show (0 : Int) < 2305843009213693951 by decide), _, rfl, _, _, rfl, rfl, .inl ⟨by decide, by decide⟩, _, _, rfl, rfl, _, _, rfl, rfl, ?_⟩⟩
      refine ⟨by show 3 ≤ sizeLine; decide, fun b nb => q _ b (same_new nb) nb ⟨_, _, 0, upd_same, Int.mul_nonneg ?_ (one0 _).1, ?_, ?_, by decide, by decide⟩⟩
      · split <;> omega
      · omega
      · omega
    · refine ⟨_, rfl, _, rfl, _, rfl, _, rfl, 10, 18, rfl, rfl, ⟨by decide, by decide, by decide⟩, _, _, rfl, rfl, .inr ⟨_, rfl, _, _, rfl, rfl, .inr (in64 (one0 _)), _, rfl, _, _, rfl, rfl, (show (0 : Int) < 2305843009213693951 by decide), _, rfl, _, _, rfl, rfl, .inl ⟨by decide, by decide⟩, _, _, rfl, rfl, _, _, rfl, rfl, ?_⟩⟩
      refine ⟨by show 3 ≤ sizeLine; decide, fun b nb => q _ b (same_new nb) nb ⟨_, _, 0, upd_same, Int.mul_nonneg ?_ (one0 _).1, ?_, ?_, by decide, by decide⟩⟩
      · split <;> omega
      · omega
      · omega
end
end Pc
namespace Pc
open PySem PySem.Spec PyProof.Rows L2 RZ
section
variable {P : Program} {w : World} {K : PySem.W.Frag} {mg : Str → Option Value} {base : Heap}
/-! ### a draw below a span of at most ten million -/
def spTake : Sp := fun vs H Q _ => ∃ (b : Addr) (n : Nat) (s : Int), vs = [.ref b, .int s] ∧ Box (n + 1) H b ∧ 0 < s ∧ s ≤ 10000000 ∧
  ∀ (r : Int) (H' : Hp), 0 ≤ r → r < s → Box n H' b → Keep b H H' → Q (.int r) H'
theorem ok_take (T : Env K mg) : FnOk P w K mg base CX0 1 T.f_take T.d_take ["_law_box_here", "_law_span"] spTake := by
  refine T.F_take.ok sc_take (fun vs H Q E h => ?_) (fun cdv A outer s H vs Q E hr h => ?_)
  · obtain ⟨b, n, s, rfl, _⟩ := h
    rfl
  · obtain ⟨b, n, s, rfl, ⟨x, y, z, hb, hx, hy, hy2, hz, hz2⟩, hs, hs2, q⟩ := h
    refine ⟨_, pss_cons (ps_if (pt_cmpR op_gt (pe_ix ix_list (pv 0) pe_int (fun _ _ => rfl)) pe_int (nomark _))
        (pss_cons (ps_set (i := 2) sc_take.nd rfl (.inl rfl) (pe_op op_mod (pe_ix ix_list (pv 0) pe_int (fun _ _ => rfl)) (pv 1)))
        (pss_cons (ps_asg (pe_op op_fdiv (pe_ix ix_list (pv 0) pe_int (fun _ _ => rfl)) (pv 1)) (pg_sub (pv 0) pe_int set_list))
        (pss_one (ps_ret (pv 2))))) pss_nil)
      (pss_cons (ps_if (pt_cmpR op_gt (pv 1) (pe_op op_pow pe_int pe_int) (nomark _)) pss_never pss_nil)
      (pss_cons (ps_asg (pe_op op_add (pe_ix ix_list (pv 0) pe_int (fun _ _ => rfl)) pe_int) (pg_sub (pv 0) pe_int set_list))
      (pss_cons (ps_set (i := 3) sc_take.nd rfl (.inl rfl) (pe_op op_mod (pe_op op_pow (pe_op op_add (pe_ix ix_list (pv 0) pe_int (fun _ _ => rfl)) (pe_op op_mul pe_int (pe_ix ix_list (pv 0) pe_int (fun _ _ => rfl)))) pe_int) pe_int))
      (pss_one (ps_ret (pe_op op_mod (pe_op op_fdiv (pe_op op_mod (pe_op op_add (pe_op op_mul (pv 3) (pe_op op_add (pe_op op_mod (pv 3) pe_int) pe_int)) (pe_op op_mul (pe_ix ix_list (pv 0) pe_int (fun _ _ => rfl)) pe_int)) pe_int) pe_int) (pv 1))))))), ?_⟩
    have hS : SqL K H b [.int x, .int y, .int z] := .inl (.inl hb)
    refine ⟨.ref b, rfl, b, _, 0, .int x, rfl, rfl, hS, atI_nat (j := 0) rfl, x, 0, rfl, rfl, _, rfl, ite2 (fun e => ?_) (fun e => ?_)⟩
    · -- the number itself serves
      refine ⟨.ref b, rfl, b, _, 0, .int x, rfl, rfl, hS, atI_nat (j := 0) rfl, .int s, rfl, x, s, rfl, rfl, hs, ?_⟩
      refine ⟨.ref b, rfl, b, _, 0, .int x, rfl, rfl, hS, atI_nat (j := 0) rfl, .int s, rfl, x, s, rfl, rfl, ⟨hs, by omega⟩, .ref b, rfl, b, _, 0, 0, rfl, rfl, hb, rfl, ?_⟩
      refine ⟨_, rfl, q _ _ (Int.emod_nonneg _ (by omega)) (Int.emod_lt_of_pos _ hs) ⟨_, y, z, upd_same, ?_, hy, hy2, hz, by omega⟩ keep_upd⟩
      exact Int.ediv_nonneg hx (by omega)
    · refine ⟨.int s, rfl, 10, 7, rfl, rfl, ⟨by decide, by decide, by decide⟩, s, _, rfl, rfl, _, rfl, ite2 (fun e2 => ?_) (fun _ => ?_)⟩
      · have e3 := of_decide_eq_true e2
        have e4 : (10 : Int) ^ Int.toNat 7 = 10000000 := by decide
        rw [e4] at e3
        omega
      refine ⟨.ref b, rfl, b, _, 2, .int z, rfl, rfl, hS, atI_nat (j := 2) rfl, z, 1, rfl, rfl, .ref b, rfl, b, _, 2, 2, rfl, rfl, hb, rfl, ?_⟩
      have h2 : upd H b (.lst ([V.int x, V.int y, V.int z].set 2 (.int (z + 1)))) b = some (.lst [.int x, .int y, .int (z + 1)]) := upd_same
      have hS2 : SqL K (upd H b (.lst ([V.int x, V.int y, V.int z].set 2 (.int (z + 1))))) b [.int x, .int y, .int (z + 1)] := .inl (.inl h2)
      refine ⟨.ref b, rfl, b, _, 1, .int y, rfl, rfl, hS2, atI_nat (j := 1) rfl, .ref b, rfl, b, _, 2, .int (z + 1), rfl, rfl, hS2, atI_nat (j := 2) rfl, 39373, z + 1, rfl, rfl, .inl ⟨by decide, by decide⟩, y, _, rfl, rfl, _, 5, rfl, rfl, ⟨by decide, by decide, by omega⟩, _, 2147483647, rfl, rfl, (show (0 : Int) < 2147483647 by decide), ?_⟩
      have o1 : 0 ≤ (y + 39373 * (z + 1)) ^ Int.toNat 5 % 2147483647 := Int.emod_nonneg _ (by decide)
      have o2 : (y + 39373 * (z + 1)) ^ Int.toNat 5 % 2147483647 < 2147483647 := Int.emod_lt_of_pos _ (by decide)
      refine ⟨_, rfl, _, rfl, _, 40009, rfl, rfl, (show (0 : Int) < 40009 by decide), _, 7, rfl, rfl, _, _, rfl, rfl, .inl ⟨Int.lt_of_lt_of_le (by decide) o1, Int.lt_trans o2 (by decide)⟩, .ref b, rfl, b, _, 2, .int (z + 1), rfl, rfl, hS2, atI_nat (j := 2) rfl, z + 1, 7919, rfl, rfl, .inr ⟨by decide, by decide⟩, _, _, rfl, rfl, _, 2147483629, rfl, rfl, (show (0 : Int) < 2147483629 by decide), _, 64, rfl, rfl, ⟨by decide, by decide⟩, .int s, rfl, _, s, rfl, rfl, hs, ?_⟩
      exact q _ _ (Int.emod_nonneg _ (by omega)) (Int.emod_lt_of_pos _ hs) ⟨x, y, z + 1, h2, hx, hy, hy2, by omega, by omega⟩ keep_upd
end
end Pc
namespace Pc
open PySem PySem.Spec PyProof.Rows L2 RZ
/-! ### data -/
theorem dp_ints {K : PySem.W.Frag} {H : Hp} : ∀ ns : List Int, DpAll K H (ns.map V.int) (ns.map PyData.int)
  | [] => .nil
  | n :: r => .cons (.int n) (dp_ints r)
theorem lay_ints : ∀ ns : List Int, PyData.canLayAll0 (ns.map PyData.int) = true
  | [] => rfl
  | n :: r => by
    show (PyData.canLay0 (.int n) && PyData.canLayAll0 (r.map PyData.int)) = true
    rw [lay_ints r]; rfl
theorem depth_ints : ∀ ns : List Int, PyData.depthAll (ns.map PyData.int) = 0
  | [] => rfl
  | n :: r => by
    show max (PyData.depth (.int n)) (PyData.depthAll (r.map PyData.int)) = 0
    rw [depth_ints r]; rfl
theorem shaped_list {ds : List PyData} (h : PyData.canLayAll0 ds = true) (d : PyData.depthAll ds ≤ 63) : SeqAt.shaped (.list ds) = true := by
  unfold SeqAt.shaped
  rw [Bool.and_eq_true]
  exact ⟨h, decide_eq_true (show PyData.depthAll ds + 1 ≤ 64 by omega)⟩
theorem shaped_tuple {ds : List PyData} (h : PyData.canLayAll0 ds = true) (d : PyData.depthAll ds ≤ 63) : SeqAt.shaped (.tuple ds) = true := by
  unfold SeqAt.shaped
  rw [Bool.and_eq_true]
  exact ⟨h, decide_eq_true (show PyData.depthAll ds + 1 ≤ 64 by omega)⟩
theorem shaped_ints (ns : List Int) : SeqAt.shaped (.list (ns.map PyData.int)) = true := shaped_list (lay_ints ns) (by rw [depth_ints]; decide)
theorem shaped_intsT (ns : List Int) : SeqAt.shaped (.tuple (ns.map PyData.int)) = true := shaped_tuple (lay_ints ns) (by rw [depth_ints]; decide)
/-- what a slice of a list of ints is -/
theorem cut_ints (ns : List Int) (lo hi : Option Int) : ∃ ms : List Int, cutV (ns.map V.int) lo hi = ms.map V.int ∧ ms = (ns.drop (HT.sIx ns.length 0 lo)).take (HT.sIx ns.length ns.length hi - HT.sIx ns.length 0 lo) := by
  refine ⟨_, ?_, rfl⟩
  unfold cutV
  rw [List.length_map, List.map_take, List.map_drop]
theorem map_set_int (cs : List Int) (j : Nat) (v : Int) : (cs.map V.int).set j (.int v) = (cs.set j v).map V.int := by
  rw [List.map_set]
theorem small63 {n : Nat} (h : n ≤ 63) : n ≤ sizeLine := Nat.le_trans h (by decide)
end Pc
namespace Pc
open PySem PySem.Spec PyProof.Rows L2 RZ
section
variable {P : Program} {w : World} {K : PySem.W.Frag} {mg : Str → Option Value} {base : Heap}
/-! ### the numbers of the script, the later ones added to the first -/
def spCells (K : PySem.W.Frag) : Sp := fun vs H Q _ => ∃ (a : Addr) (ns : List Int) (m : Nat), vs = [.ref a, .int m] ∧ SqL K H a (ns.map V.int) ∧ ns.length ≤ 63 ∧ 0 < m ∧ m ≤ 60 ∧
  ∀ H' p (cs : List Int), Same H H' → H p = none → H' p = some (.lst (cs.map V.int)) → 1 ≤ cs.length → cs.length ≤ m → Q (.ref p) H'
theorem ok_cells (T : Env K mg) : FnOk P w K mg base CX0 1 T.f_cells T.d_cells ["_law_script", "_law_most"] (spCells K) := by
  refine T.F_cells.ok sc_cells (fun vs H Q E h => ?_) (fun cdv A outer s H vs Q E hr h => ?_)
  · obtain ⟨a, ns, m, rfl, _⟩ := h
    rfl
  · obtain ⟨a, ns, m, rfl, hS, hn, hm, hm2, q⟩ := h
    refine ⟨_, pss_cons (ps_set (i := 2) sc_cells.nd rfl (.inl rfl) (pe_callTy call_list_of (by rfl) T.n_list (by decide +kernel) (pa_cons (pe_slice sl_list (pv 0) po_none (po_some (pv 1))) pa_nil)))
      (pss_cons (ps_for PassesOwn.never rfl (pi_enum (by rfl) T.n_enumerate (pa_cons (pe_slice sl_list (pv 0) (po_some (pv 1)) (po_some pe_int)) pa_nil))
          (pg_tup rfl (pgs_cons (pg_name (i := 3) sc_cells.nd rfl (.inl rfl)) (pgs_cons (pg_name (i := 4) sc_cells.nd rfl (.inl rfl)) pgs_nil)))
        (pss_one (ps_asg (pe_op op_add (pe_ix ix_list (pv 2) (pe_op op_mod (pv 3) (pv 1)) (fun _ _ => rfl)) (pe_op op_mul (pv 4) (pe_op op_add (pv 3) pe_int)))
          (pg_sub (pv 2) (pe_op op_mod (pv 3) (pv 1)) set_list))))
      (pss_one (ps_ret (pe_ifExp (pt_cmpR (op_neD hr.units) (pv 2) (pe_lst pa_nil) (nomark _)) (pv 2) (pe_lst (pa_cons pe_int pa_nil)))))), ?_⟩
    obtain ⟨ms, e1, e2⟩ := cut_ints ns none (some (m : Int))
    obtain ⟨ls, e3, e4⟩ := cut_ints ns (some (m : Int)) (some 63)
    have f2 : ms.length = min m ns.length := by
      rw [e2, HT.sIx_none, HT.sIx_nat, List.length_take, List.drop_zero]
      omega
    have f4 : ls.length = ns.length - m := by
      rw [e4, HT.sIx_nat, show (63 : Int) = ((63 : Nat) : Int) from rfl, HT.sIx_nat, List.length_take, List.length_drop]
      omega
    -- the copy of the first ones
    refine ⟨.ref a, rfl, .int m, rfl, m, rfl, a, ns.map V.int, rfl, hS, fun c nc => ⟨c, _, rfl, .inl (.inl (.inl upd_same)), fun l nl => ?_⟩⟩
    rw [e1] at nl ⊢
    have s1 : Same H (upd (upd H c (.lst (ms.map V.int))) l (.lst (ms.map V.int))) := (same_new nc).trans (same_new nl)
    have nl0 : H l = none := (same_new nc).free nl
    -- the later ones
    refine ⟨.ref a, rfl, .int m, rfl, m, rfl, _, rfl, a, ns.map V.int, rfl, s1.seq hS, fun d nd => ?_⟩
    rw [e3]
    refine ⟨d, ls.map V.int, rfl, .inl (.inl upd_same), ?_⟩
    have s2 : Same H _ := s1.trans (same_new (o := .lst (ls.map V.int)) nd)
    have ldd : l ≠ d := ne_of_none upd_same nd
    refine for_it walk_enum (fun i σ H' => Same H H' ∧ H' d = some (.lst (ls.map V.int)) ∧ ∃ (y3 y4 : Option V) (cs : List Int), σ = [some (.ref a), some (.int m), some (.ref l), y3, y4] ∧ H' l = some (.lst (cs.map V.int)) ∧ cs.length = ms.length)
      ⟨s2, upd_same, none, none, ms, rfl, by rw [upd_ne ldd, upd_same], rfl⟩ (fun i σ H' _ h => .inl (.inl h.2.1)) (fun i x σ H1 H2 hi h y => ?_) (fun σ H' h => ?_)
    · obtain ⟨sm, ed, y3, y4, cs, rfl, el, ecl⟩ := h
      obtain ⟨t, v1, v2, rfl, nt, rfl, g1, g2⟩ := y
      rw [List.length_map] at hi
      have ev1 : v1 = .int (i : Nat) := (Option.some.inj g1).symm
      have ev2 : v2 = .int ls[i] := by
        have g3 : (ls.map V.int)[i]? = some v2 := g2
        rw [List.getElem?_map, List.getElem?_eq_getElem hi] at g3
        exact (Option.some.inj g3).symm
      subst ev1 ev2
      have hml : cs.length = m := by omega
      have hlt : l ≠ t := ne_of_none el nt
      have hdt : d ≠ t := ne_of_none ed nt
      have elt : (upd H1 t (.tup [.int (i : Nat), .int ls[i]])) l = some (.lst (cs.map V.int)) := by rw [upd_ne hlt]; exact el
      have him : ((i : Int) % (m : Int)) = ((i % m : Nat) : Int) := by omega
      have hjm : i % m < cs.length := by rw [hml]; exact Nat.mod_lt _ hm
      have hix : ixN (cs.map V.int).length ((i : Int) % (m : Int)) = some (i % m) := by
        rw [him]
        unfold ixN
        rw [List.length_map, if_pos (by omega), if_pos (by omega)]; rfl
      refine ⟨t, _, rfl, .inl (.inl upd_same), rfl, _, _, rfl, _, _, rfl, rfl, ?_⟩
      refine ⟨.ref l, rfl, .int (i : Nat), rfl, .int m, rfl, (i : Nat), m, rfl, rfl, (show (0 : Int) < m by omega), l, _, _, .int cs[i % m], rfl, rfl, .inl (.inl elt), ?_, ?_⟩
      · unfold atI
        show (ixN (cs.map V.int).length ((i : Int) % (m : Int))).bind _ = _
        rw [hix]
        show (cs.map V.int)[i % m]? = _
        rw [List.getElem?_map, List.getElem?_eq_getElem hjm]; rfl
      refine ⟨.int ls[i], rfl, .int (i : Nat), rfl, (i : Nat), 2, rfl, rfl, ls[i], _, rfl, rfl, .inr ⟨by omega, by omega⟩, cs[i % m], _, rfl, rfl, .ref l, rfl, .int (i : Nat), rfl, .int m, rfl, (i : Nat), m, rfl, rfl, (show (0 : Int) < m by omega), l, _, _, i % m, rfl, rfl, elt, hix, ?_⟩
      refine ⟨?_, ?_, _, _, cs.set (i % m) (cs[i % m] + ls[i] * ((i : Nat) + 2)), rfl, ?_, ?_⟩
      · intro b o hb
        have nb : b ≠ l := ne_of_none hb nl0
        rw [upd_ne nb]
        exact same_new nt _ _ (sm b o hb)
      · rw [upd_ne ldd.symm, upd_ne hdt]; exact ed
      · rw [upd_same, ← map_set_int]
      · rw [List.length_set]; exact ecl
    · obtain ⟨sm, ed, y3, y4, cs, rfl, el, ecl⟩ := h
      refine ⟨.ref l, rfl, Nat.zero_le _, fun e ne => ?_⟩
      have hle : l ≠ e := ne_of_none el ne
      have elx : (upd H' e (.lst [])) l = some (.lst (cs.map V.int)) := by rw [upd_ne hle]; exact el
      refine ⟨.list (cs.map PyData.int), .list [], .lst (.inl (.inl elx)) (dp_ints cs), .lst (.inl (.inl upd_same)) .nil, shaped_ints cs, by decide, _, rfl, ite2 (fun b => ?_) (fun b => ?_)⟩
      · have hne : cs ≠ [] := fun z => by
          subst z
          exact absurd b (by decide)
        have : 0 < cs.length := List.length_pos_iff.mpr hne
        exact ⟨.ref l, rfl, q _ l cs (sm.trans (same_new ne)) nl0 elx (by omega) (by omega)⟩
      · refine ⟨by show 1 ≤ sizeLine; decide, fun p np => ?_⟩
        have s3 := sm.trans (same_new (o := .lst []) ne)
        exact q _ p [0] (s3.trans (same_new np)) (s3.free np) upd_same (by decide) (by show 1 ≤ m; omega)
end
end Pc
namespace Pc
open PySem PySem.Spec PyProof.Rows L2 RZ
/-! ### xs != [] for any items -/
def rNeNil (K : PySem.W.Frag) : R2 := fun x y H Q => ∃ a b xs, x = .ref a ∧ y = .ref b ∧ SqL K H a xs ∧ SqL K H b [] ∧ Q (.bl (!xs.isEmpty)) H
theorem op_neNil {X : Cx} (hu : X.A.units + 64 < cLine) : OpR X (compareOp .NotEq) (rNeNil X.K) := by
  intro pins s σ H x y v u Q I rx ry h
  obtain ⟨a, b, xs, rfl, rfl, h1, h2, q⟩ := h
  cases rx; cases ry
  obtain ⟨its, rv, p1, _⟩ := I.list h1
  obtain ⟨its2, rv2, p2, _⟩ := I.list h2
  have l1 := rv.length
  have l2 := rv2.length
  have hu0 : X.A.units < cLine := by omega
  cases xs with
  | nil =>
    have z1 : its.length = 0 := l1.symm
    have z2 : its2.length = 0 := l2.symm
    refine SeqAt.RcNeAt.lists (e := fun _ => true) p1.isList p2.isList (by simp [z1, z2]) hu0 (fun j j1 _ => ?_) X.prog X.w X.xe _ ?_
    · rw [List.size_toArray] at j1; omega
    · rw [List.size_toArray, z1]
      exact ⟨.bl false, H, I, rfl, q⟩
  | cons z r =>
    have z1 : its.length ≠ 0 := by rw [← l1]; simp
    have z2 : its2.length = 0 := l2.symm
    refine SeqAt.RcNeAt.lists_lengths p1.isList p2.isList (by simp [z2, z1]) hu0 X.prog X.w X.xe _ ?_
    exact ⟨.bl true, H, I, rfl, q⟩
theorem perm_erase {α : Type} : ∀ {l : List α} {i : Nat} (h : i < l.length), (l[i] :: l.eraseIdx i).Perm l
  | a :: r, 0, _ => List.Perm.refl _
  | a :: r, i + 1, h => (List.Perm.swap a (r[i]'(Nat.lt_of_succ_lt_succ h)) (r.eraseIdx i)).trans ((perm_erase (l := r) (i := i) (Nat.lt_of_succ_lt_succ h)).cons a)
/-- the place of an index that is not negative -/
theorem seq_ix {i : Int} {n : Nat} (h0 : 0 ≤ i) (h : i < n) : seqIndex? i n = some i.toNat := seqIndex_of h0 h
end Pc
namespace Pc
open PySem PySem.Spec PyProof.Rows L2 RZ
section
variable {P : Program} {w : World} {K : PySem.W.Frag} {mg : Str → Option Value} {base : Heap}
/-! ### some things in drawn order -/
def spStrewn (K : PySem.W.Frag) : Sp := fun vs H Q _ => ∃ (b a : Addr) (n : Nat) (xs : List V), vs = [.ref b, .ref a] ∧ Box (n + xs.length) H b ∧ SqL K H a xs ∧ xs.length ≤ 1000 ∧
  ∀ (H' : Hp) (p : Addr) (ys : List V), ys.Perm xs → Keep b H H' → Box n H' b → H p = none → H' p = some (.lst ys) → Q (.ref p) H'
theorem ok_strewn (T : Env K mg) : FnOk P w K mg base CX0 2 T.f_strewn T.d_strewn ["_law_box_here", "_law_some"] (spStrewn K) := by
  have GT : FnOk P w K mg base CX0 1 T.f_take T.d_take ["_law_box_here", "_law_span"] spTake := ok_take T
  refine T.F_strewn.ok sc_strewn (fun vs H Q E h => ?_) (fun cdv A outer s H vs Q E hr h => ?_)
  · obtain ⟨b, a, n, xs, rfl, _⟩ := h
    rfl
  · obtain ⟨b, a, n, xs, rfl, hB, hS, hlen, q⟩ := h
    refine ⟨_, pss_cons (ps_par (by rfl) sc_strewn.nd (i := 2) (j := 3) rfl rfl (by decide) rfl rfl (pa_cons (pe_callTy call_list_of (by rfl) T.n_list (by decide +kernel) (pa_cons (pv 1) pa_nil)) (pa_cons (pe_lst pa_nil) pa_nil)) (by rfl))
      (pss_cons (ps_while PassesOwn.never (pt_cmpR (op_neNil hr.units) (pv 2) (pe_lst pa_nil) (nomark _))
        (pss_one (ps_expr (pe_bm PySem.F.plainAttrs_list PySem.F.slot_list_append PySem.F.type_list_append mt_append (pv 3) (pa_cons
          (pe_bm PySem.F.plainAttrs_list PySem.F.slot_list_pop PySem.F.type_list_pop mt_popAt (pv 2) (pa_cons
            (pe_call GT hr (by rfl) T.g_take T.F_take.kp T.b_take .nil pass0 (pa_cons (pv 0) (pa_cons (pe_callB call_len_seq (by rfl) T.n_len PySem.boot_len (pa_cons (pv 2) pa_nil)) pa_nil))) pa_nil)) pa_nil)))))
      (pss_one (ps_ret (pv 3)))), ?_⟩
    refine ⟨.ref a, rfl, a, xs, rfl, .inl hS, fun l nl => ⟨Nat.zero_le _, fun f nf => ⟨_, _, rfl, ?_⟩⟩⟩
    have s1 : Same H (upd (upd H l (.lst xs)) f (.lst [])) := (same_new nl).trans (same_new nf)
    have nf0 : H f = none := (same_new nl).free nf
    have hlf : l ≠ f := ne_of_none upd_same nf
    have hbl : b ≠ l := hB.ne_new nl
    have hbf : b ≠ f := hB.ne_new nf0
    refine ⟨fun m σ H' => ∃ left found : List V, σ = [some (.ref b), some (.ref a), some (.ref l), some (.ref f)] ∧ H' l = some (.lst left) ∧ H' f = some (.lst found) ∧ (left ++ found).Perm xs ∧ Box (n + left.length) H' b ∧ Keep b H H' ∧ left.length = m,
      ⟨xs.length, xs, [], rfl, by rw [upd_ne hlf, upd_same], upd_same, by rw [List.append_nil], hB.same s1, Keep.of_same s1, rfl⟩, fun m σ H' hW => ?_⟩
    obtain ⟨left, found, rfl, el, ef, hp, hb', hk, hm⟩ := hW
    refine ⟨.ref l, rfl, Nat.zero_le _, fun e ne => ⟨l, e, left, rfl, rfl, .inl (.inl ?_), .inl (.inl upd_same), _, rfl, ite2 (fun c => ?_) (fun c => ?_)⟩⟩
    · rw [upd_ne (ne_of_none el ne)]; exact el
    · -- one more is drawn
      have hl0 : 0 < left.length := by
        cases left with
        | nil => exact absurd c (by decide)
        | cons x r => exact Nat.succ_pos _
      have hll : left.length ≤ 1000 := by
        have := hp.length_eq
        rw [List.length_append] at this
        omega
      have el2 : (upd H' e (.lst [])) l = some (.lst left) := by rw [upd_ne (ne_of_none el ne)]; exact el
      have ef2 : (upd H' e (.lst [])) f = some (.lst found) := by rw [upd_ne (ne_of_none ef ne)]; exact ef
      refine ⟨fun σ' H2 => ∃ left' found' : List V, σ' = [some (.ref b), some (.ref a), some (.ref l), some (.ref f)] ∧ H2 l = some (.lst left') ∧ H2 f = some (.lst found') ∧ (left' ++ found').Perm xs ∧ Box (n + left'.length) H2 b ∧ Keep b H H2 ∧ left'.length + 1 = m,
        fun σ' H2 h2 => ?_, ?_⟩
      · obtain ⟨left', found', g1, g2, g3, g4, g5, g6, g7⟩ := h2
        exact ⟨left'.length, by omega, left', found', g1, g2, g3, g4, g5, g6, rfl⟩
      · refine ⟨.ref f, rfl, .inl ⟨rfl, _, .inl (.inl ef2)⟩, .ref l, rfl, .inl ⟨rfl, _, .inl (.inl el2)⟩, .ref b, rfl, .ref l, rfl, l, left, rfl, .inl (.inl (.inl el2)), ?_⟩
        refine ⟨b, n + (left.length - 1), left.length, rfl, (hb'.same (same_new ne)).mono (by omega), by omega, by omega, fun r H2 r0 r1 hb2 k2 => ?_⟩
        have el3 : H2 l = some (.lst left) := k2 l _ hbl.symm el2
        have ef3 : H2 f = some (.lst found) := k2 f _ hbf.symm ef2
        have hj : r.toNat < left.length := by omega
        refine ⟨l, left, r, r.toNat, left[r.toNat], rfl, rfl, el3, by omega, by omega, seq_ix r0 r1, List.getElem?_eq_getElem hj, ?_⟩
        have ef4 : (upd H2 l (.lst (left.eraseIdx r.toNat))) f = some (.lst found) := by rw [upd_ne hlf.symm]; exact ef3
        have hfl : found.length ≤ 1000 := by
          have := hp.length_eq
          rw [List.length_append] at this
          omega
        refine ⟨f, found, _, rfl, rfl, ef4, small1000 hfl, left.eraseIdx r.toNat, found ++ [left[r.toNat]], rfl, ?_, upd_same, ?_, ?_, ?_, ?_⟩
        · rw [upd_ne hlf, upd_same]
        · refine List.Perm.trans ?_ hp
          have p1 : (left[r.toNat] :: left.eraseIdx r.toNat).Perm left := perm_erase hj
          have p2 : (left.eraseIdx r.toNat ++ (found ++ [left[r.toNat]])).Perm (left[r.toNat] :: left.eraseIdx r.toNat ++ found) := by
            rw [← List.append_assoc]
            exact List.perm_append_comm.trans (by rw [List.singleton_append, List.cons_append])
          exact p2.trans (p1.append_right found)
        · have : (left.eraseIdx r.toNat).length = left.length - 1 := List.length_eraseIdx_of_lt hj
          rw [this]
          refine (hb2.keep (c := l) keep_upd hbl).keep (c := f) keep_upd hbf
        · intro x o nx hx
          have nxl : x ≠ l := ne_of_none hx nl
          have nxf : x ≠ f := ne_of_none hx nf0
          rw [upd_ne nxf, upd_ne nxl]
          exact k2 x o nx (same_new ne _ _ (hk x o nx hx))
        · rw [List.length_eraseIdx_of_lt hj]; omega
    · have hl0 : left = [] := by
        cases left with
        | nil => rfl
        | cons x r => exact absurd rfl c
      subst hl0
      have ef2 : (upd H' e (.lst [])) f = some (.lst found) := by rw [upd_ne (ne_of_none ef ne)]; exact ef
      exact ⟨.ref f, rfl, q _ f found hp (hk.trans (Keep.of_same (same_new ne))) (hb'.same (same_new ne)) nf0 ef2⟩
end
end Pc
namespace Pc
open PySem PySem.Spec PyProof.Rows L2 RZ
/-! ### pairings as lists of natural numbers -/
/-- the numbers as values -/
def nv (l : List Nat) : List V := l.map fun (i : Nat) => V.int (i : Int)
theorem nv_length (l : List Nat) : (nv l).length = l.length := List.length_map _
theorem nv_get {l : List Nat} {i x : Nat} (h : l[i]? = some x) : (nv l)[i]? = some (.int x) := by
  unfold nv; rw [List.getElem?_map, h]; rfl
theorem nv_at {l : List Nat} {i x : Nat} (h : l[i]? = some x) : atI (nv l) (i : Int) = some (.int x) := atI_nat (nv_get h)
theorem nv_set (l : List Nat) (i x : Nat) : (nv l).set i (.int (x : Int)) = nv (l.set i x) := by
  unfold nv; rw [List.map_set]
theorem nv_get' {l : List Nat} {i : Nat} {v : V} (h : (nv l)[i]? = some v) : ∃ x, l[i]? = some x ∧ v = .int (x : Int) := by
  unfold nv at h
  rw [List.getElem?_map] at h
  cases e : l[i]? with
  | none => rw [e] at h; cases h
  | some x => rw [e] at h; exact ⟨x, rfl, (Option.some.inj h).symm⟩
theorem ixN_nat {n i : Nat} (h : i < n) : ixN n (i : Int) = some i := by
  unfold ixN
  rw [if_pos (by omega), if_pos (by omega)]; rfl
theorem get_some {α : Type} {l : List α} {i : Nat} (h : i < l.length) : ∃ x, l[i]? = some x := ⟨_, List.getElem?_eq_getElem h⟩
theorem get_lt {α : Type} {l : List α} {i : Nat} {x : α} (h : l[i]? = some x) : i < l.length := (List.getElem?_eq_some_iff.mp h).1
/-- a pairing of n people -/
structure IsPair (n : Nat) (ps : List Nat) : Prop where
  len : ps.length = n
  par : ∀ x, x < n → ∃ y, ps[x]? = some y ∧ y < n ∧ y ≠ x ∧ ps[y]? = some x
/-- after t turns: the first t pairs are joined -/
def PInv (os fs : List Nat) (t : Nat) : Prop := fs.length = os.length ∧ ∀ j, j < t → ∀ x y, os[2 * j]? = some x → os[2 * j + 1]? = some y → fs[x]? = some y ∧ fs[y]? = some x
theorem PInv.step {os fs : List Nat} {t x y : Nat} (hnd : os.Nodup) (hlt : ∀ z ∈ os, z < os.length) (h : PInv os fs t) (hx : os[2 * t]? = some x) (hy : os[2 * t + 1]? = some y) :
    PInv os ((fs.set x y).set y x) (t + 1) := by
  obtain ⟨hl, hp⟩ := h
  have xl : x < fs.length := by rw [hl]; exact hlt x (List.mem_of_getElem? hx)
  have yl : y < fs.length := by rw [hl]; exact hlt y (List.mem_of_getElem? hy)
  have xy : x ≠ y := fun e => by
    subst e
    have := nd_ix hnd hx hy
    omega
  refine ⟨by rw [List.length_set, List.length_set, hl], fun j hj u v hu hv => ?_⟩
  by_cases e : j = t
  · subst e
    have e1 : u = x := Option.some.inj (hu.symm.trans hx)
    have e2 : v = y := Option.some.inj (hv.symm.trans hy)
    subst e1 e2
    refine ⟨?_, ?_⟩
    · rw [List.getElem?_set_ne (Ne.symm xy), List.getElem?_set_self xl]
    · rw [List.getElem?_set_self (by rw [List.length_set]; exact yl)]
  · obtain ⟨h1, h2⟩ := hp j (by omega) u v hu hv
    have a1 : x ≠ u := fun z => by subst z; have := nd_ix hnd hx hu; omega
    have a2 : y ≠ u := fun z => by subst z; have := nd_ix hnd hy hu; omega
    have a3 : x ≠ v := fun z => by subst z; have := nd_ix hnd hx hv; omega
    have a4 : y ≠ v := fun z => by subst z; have := nd_ix hnd hy hv; omega
    refine ⟨?_, ?_⟩
    · rw [List.getElem?_set_ne a2, List.getElem?_set_ne a1]; exact h1
    · rw [List.getElem?_set_ne a4, List.getElem?_set_ne a3]; exact h2
theorem PInv.done {os fs : List Nat} {n : Nat} (hp : os.Perm (List.range n)) (he : n % 2 = 0) (h : PInv os fs (n / 2)) : IsPair n fs := by
  have hl : os.length = n := by rw [hp.length_eq, List.length_range]
  have hnd : os.Nodup := hp.nodup_iff.mpr List.nodup_range
  refine ⟨by rw [h.1, hl], fun x hx => ?_⟩
  have hm : x ∈ os := hp.mem_iff.mpr (List.mem_range.mpr hx)
  obtain ⟨i, hi, ei⟩ := List.mem_iff_getElem.mp hm
  have gi : os[i]? = some x := by rw [List.getElem?_eq_getElem hi, ei]
  have lt_n : ∀ {k z : Nat}, os[k]? = some z → z < n := fun {k z} hz => List.mem_range.mp (hp.mem_iff.mp (List.mem_of_getElem? hz))
  by_cases hq : i % 2 = 0
  · have i1 : i + 1 < os.length := by omega
    obtain ⟨y, gy⟩ := get_some i1
    have g1 : os[2 * (i / 2)]? = some x := by rw [show 2 * (i / 2) = i by omega]; exact gi
    have g2 : os[2 * (i / 2) + 1]? = some y := by rw [show 2 * (i / 2) + 1 = i + 1 by omega]; exact gy
    obtain ⟨r1, r2⟩ := h.2 (i / 2) (by omega) x y g1 g2
    exact ⟨y, r1, lt_n gy, fun e => by subst e; have := nd_ix hnd gi gy; omega, r2⟩
  · have i1 : i - 1 < os.length := by omega
    obtain ⟨y, gy⟩ := get_some i1
    have g1 : os[2 * (i / 2)]? = some y := by rw [show 2 * (i / 2) = i - 1 by omega]; exact gy
    have g2 : os[2 * (i / 2) + 1]? = some x := by rw [show 2 * (i / 2) + 1 = i by omega]; exact gi
    obtain ⟨r1, r2⟩ := h.2 (i / 2) (by omega) y x g1 g2
    exact ⟨y, r2, lt_n gy, fun e => by subst e; have := nd_ix hnd gi gy; omega, r1⟩
/-- range(0, n, 2) -/
theorem fits_long {i : Int} (h1 : -(2 ^ 62) ≤ i) (h2 : i < 2 ^ 62) : Builtin.Range.rangeFitsLong i = true := by
  unfold Builtin.Range.rangeFitsLong
  rw [Bool.and_eq_true]
  exact ⟨decide_eq_true (by omega), decide_eq_true (by omega)⟩
theorem rgc_two {n : Nat} (h : n ≤ 1000000) : RgC 0 (n : Int) 2 ((n + 1) / 2) := by
  have e : Builtin.Range.rangeSize 0 (n : Int) 2 = (((n + 1) / 2 : Nat) : Int) := by
    unfold Builtin.Range.rangeSize
    rw [if_pos (by decide)]
    split <;> omega
  refine ⟨by decide, by decide, ?_, e⟩
  unfold Builtin.Range.small
  rw [e, fits_long (i := 0) (by decide) (by decide), fits_long (i := (n : Int)) (by omega) (by omega), fits_long (i := 2) (by decide) (by decide), fits_long (i := (((n + 1) / 2 : Nat) : Int)) (by omega) (by omega), if_pos (by decide), fits_long (i := (n : Int) + (2 - 1)) (by omega) (by omega), Bool.or_true]
  rfl
theorem rep_flat {α : Type} (n : Nat) (x : α) : (List.replicate n [x]).flatten = List.replicate n x := by
  induction n with
  | zero => rfl
  | succ n ih => rw [List.replicate_succ, List.flatten_cons, ih, List.replicate_succ]; rfl
end Pc
namespace Pc
open PySem PySem.Spec PyProof.Rows L2 RZ
section
variable {P : Program} {w : World} {K : PySem.W.Frag} {mg : Str → Option Value} {base : Heap}
/-! ### a pairing out of an order -/
def spPaired (K : PySem.W.Frag) : Sp := fun vs H Q _ => ∃ (a : Addr) (os : List Nat) (n : Nat), vs = [.ref a] ∧ SqL K H a (nv os) ∧ os.Perm (List.range n) ∧ n % 2 = 0 ∧ n ≤ 1000 ∧
  ∀ (H' : Hp) (p : Addr) (ps : List Nat), IsPair n ps → Same H H' → H p = none → H' p = some (.tup (nv ps)) → Q (.ref p) H'
theorem ok_paired (T : Env K mg) : FnOk P w K mg base CX0 1 T.f_paired T.d_paired ["_law_order"] (spPaired K) := by
  refine T.F_paired.ok sc_paired (fun vs H Q E h => ?_) (fun cdv A outer s H vs Q E hr h => ?_)
  · obtain ⟨a, os, n, rfl, _⟩ := h
    rfl
  · obtain ⟨a, os, n, rfl, hS, hp, he, hn, q⟩ := h
    refine ⟨_, pss_cons (ps_set (i := 1) sc_paired.nd rfl (.inl rfl) (pe_op op_rep (pe_lst (pa_cons pe_int pa_nil)) (pe_callB call_len_seq (by rfl) T.n_len PySem.boot_len (pa_cons (pv 0) pa_nil))))
      (pss_cons (ps_for PassesOwn.never rfl (pi_range3 rfl T.n_range (pa_cons pe_int (pa_cons (pe_callB call_len_seq (by rfl) T.n_len PySem.boot_len (pa_cons (pv 0) pa_nil)) (pa_cons pe_int pa_nil))))
          (pg_name (i := 2) sc_paired.nd rfl (.inl rfl))
        (pss_one (ps_asg (pe_tup (pa_cons (pe_ix ix_list (pv 0) (pe_op op_add (pv 2) pe_int) (fun _ _ => rfl)) (pa_cons (pe_ix ix_list (pv 0) (pv 2) (fun _ _ => rfl)) pa_nil)))
          (pg_tup rfl (pgs_cons (pg_sub (pv 1) (pe_ix ix_list (pv 0) (pv 2) (fun _ _ => rfl)) set_list) (pgs_cons (pg_sub (pv 1) (pe_ix ix_list (pv 0) (pe_op op_add (pv 2) pe_int) (fun _ _ => rfl)) set_list) pgs_nil))))))
      (pss_one (ps_ret (pe_callTy call_tuple_of (by rfl) T.n_tuple (by decide +kernel) (pa_cons (pv 1) pa_nil))))), ?_⟩
    have hl : os.length = n := by rw [hp.length_eq, List.length_range]
    have hl2 : (nv os).length = n := by rw [nv_length, hl]
    have hnd : os.Nodup := hp.nodup_iff.mpr List.nodup_range
    have hlt : ∀ z ∈ os, z < os.length := fun z hz => by rw [hl]; exact List.mem_range.mp (hp.mem_iff.mp hz)
    refine ⟨by show 1 ≤ sizeLine; decide, fun e ne => ?_⟩
    have s0 : Same H (upd H e (.lst [.int 0])) := same_new ne
    refine ⟨.ref a, rfl, a, nv os, rfl, .inl (s0.seq hS), e, _, [.int 0], rfl, rfl, upd_same, ?_, ?_, ?_, fun f nf => ?_⟩
    · rw [hl2]; omega
    · rw [hl2]; omega
    · rw [hl2]
      show 1 * Int.toNat (n : Int) ≤ sizeLine
      exact Nat.le_of_lt (small1000 (by omega))
    have s1 : Same H _ := s0.trans (same_new (o := .lst (List.replicate ((nv os).length : Int).toNat [V.int 0]).flatten) nf)
    have nf0 : H f = none := s0.free nf
    have e0 : (List.replicate ((nv os).length : Int).toNat [V.int 0]).flatten = nv (List.replicate n 0) := by
      rw [rep_flat, hl2, Int.toNat_natCast]
      unfold nv
      rw [List.map_replicate]; rfl
    refine ⟨.ref a, rfl, a, nv os, rfl, .inl (s1.seq hS), 0, _, 2, n / 2, rfl, ?_, ?_⟩
    · rw [hl2]
      have := rgc_two (n := n) (by omega)
      rw [show (n + 1) / 2 = n / 2 by omega] at this
      exact this
    refine for_rangeC (fun t σ H' => Same H H' ∧ ∃ (y : Option V) (fs : List Nat), σ = [some (.ref a), some (.ref f), y] ∧ H' f = some (.lst (nv fs)) ∧ PInv os fs t)
      ⟨s1, none, List.replicate n 0, rfl, by rw [upd_same, e0], by rw [List.length_replicate, hl], fun j hj => absurd hj (Nat.not_lt_zero _)⟩ (fun t σ H' ht h => ?_) (fun σ H' h => ?_)
    · obtain ⟨sm, y, fs, rfl, ef, pi⟩ := h
      obtain ⟨x1, g1⟩ := get_some (l := os) (i := 2 * t) (by omega)
      obtain ⟨x2, g2⟩ := get_some (l := os) (i := 2 * t + 1) (by omega)
      have hS' : SqL K H' a (nv os) := sm.seq hS
      have ea : atI (nv os) ((0 : Int) + (t : Nat) * 2) = some (.int x1) := by
        rw [show (0 : Int) + (t : Nat) * 2 = ((2 * t : Nat) : Int) by omega]; exact nv_at g1
      have eb : atI (nv os) ((0 : Int) + (t : Nat) * 2 + 1) = some (.int x2) := by
        rw [show (0 : Int) + (t : Nat) * 2 + 1 = ((2 * t + 1 : Nat) : Int) by omega]; exact nv_at g2
      have l1 : x1 < fs.length := by rw [pi.1]; exact hlt _ (List.mem_of_getElem? g1)
      have l2 : x2 < fs.length := by rw [pi.1]; exact hlt _ (List.mem_of_getElem? g2)
      refine ⟨.ref a, rfl, _, rfl, _, 1, rfl, rfl, a, _, _, _, rfl, rfl, hS', eb, .ref a, rfl, _, rfl, a, _, _, _, rfl, rfl, hS', ea, by show 2 ≤ sizeLine; decide, fun tp nt => ?_⟩
      have st : Same H' (upd H' tp (.tup [.int x2, .int x1])) := same_new nt
      have eft : (upd H' tp (.tup [.int x2, .int x1])) f = some (.lst (nv fs)) := st _ _ ef
      have nft : f ≠ tp := ne_of_none ef nt
      refine ⟨tp, _, rfl, .inl (.inl upd_same), rfl, _, _, rfl, .ref f, rfl, .ref a, rfl, _, rfl, a, _, _, _, rfl, rfl, st.seq hS', ea, f, _, _, x1, rfl, rfl, eft, ixN_nat (by rw [nv_length]; exact l1), ?_⟩
      have sq : SqL K (upd (upd H' tp (.tup [.int x2, .int x1])) f (.lst ((nv fs).set x1 (.int x2)))) a (nv os) := by
        have : ∀ b o, H b = some o → (upd (upd H' tp (.tup [.int x2, .int x1])) f (.lst ((nv fs).set x1 (.int x2)))) b = some o := fun b o hb => by
          rw [upd_ne (ne_of_none hb nf0)]; exact st _ _ (sm _ _ hb)
        exact Same.seq this hS
      refine ⟨_, _, rfl, .ref f, rfl, .ref a, rfl, _, rfl, _, 1, rfl, rfl, a, _, _, _, rfl, rfl, sq, eb, f, _, _, x2, rfl, rfl, upd_same, ?_, ?_⟩
      · rw [List.length_set]; exact ixN_nat (by rw [nv_length]; exact l2)
      · refine ⟨rfl, fun b o hb => ?_, _, (fs.set x1 x2).set x2 x1, rfl, ?_, pi.step hnd hlt g1 g2⟩
        · rw [upd_ne (ne_of_none hb nf0), upd_ne (ne_of_none hb nf0)]; exact st _ _ (sm _ _ hb)
        · rw [upd_same, nv_set, nv_set]
    · obtain ⟨sm, y, fs, rfl, ef, pi⟩ := h
      refine ⟨.ref f, rfl, f, _, rfl, .inl ⟨.inl (.inl ef), fun p np => ?_⟩⟩
      exact q _ p fs (pi.done hp he) (sm.trans (same_new np)) (sm.free np) upd_same
end
end Pc
namespace Pc
open PySem PySem.Spec PyProof.Rows L2 RZ
theorem perm_map_inv {α β : Type} (f : α → β) {zs ys : List β} (h : zs.Perm ys) : ∀ l : List α, zs = l.map f → ∃ l' : List α, ys = l'.map f ∧ l'.Perm l := by
  induction h with
  | nil => exact fun l e => ⟨l, e, List.Perm.refl _⟩
  | cons x _ ih =>
    intro l e
    cases l with
    | nil => cases e
    | cons a r =>
      injection e with e1 e2
      obtain ⟨l', h1, h2⟩ := ih r e2
      exact ⟨a :: l', by rw [h1, e1]; rfl, h2.cons a⟩
  | swap x y t =>
    intro l e
    cases l with
    | nil => cases e
    | cons a r =>
      cases r with
      | nil => injection e with _ e2; cases e2
      | cons b r =>
        injection e with e1 e2
        injection e2 with e2 e3
        exact ⟨b :: a :: r, by rw [e1, e2, e3]; rfl, List.Perm.swap _ _ _⟩
  | trans _ _ ih1 ih2 =>
    intro l e
    obtain ⟨l1, h1, h2⟩ := ih1 l e
    obtain ⟨l2, h3, h4⟩ := ih2 l1 h1
    exact ⟨l2, h3, h4.trans h2⟩
theorem rg_nv (n : Nat) : rgV 0 (n : Int) = nv (List.range n) := by
  unfold rgV nv
  rw [Int.sub_zero, Int.toNat_natCast]
  refine List.map_congr_left fun i _ => ?_
  rw [Int.zero_add]
end Pc
namespace Pc
open PySem PySem.Spec PyProof.Rows L2 RZ
section
variable {P : Program} {w : World} {K : PySem.W.Frag} {mg : Str → Option Value} {base : Heap}
/-! ### a drawn pairing -/
def spRandom : Sp := fun vs H Q _ => ∃ (b : Addr) (n k : Nat), vs = [.ref b, .int k] ∧ Box (n + k) H b ∧ k % 2 = 0 ∧ k ≤ 1000 ∧
  ∀ (H' : Hp) (p : Addr) (ps : List Nat), IsPair k ps → Keep b H H' → Box n H' b → H p = none → H' p = some (.tup (nv ps)) → Q (.ref p) H'
theorem ok_random (T : Env K mg) : FnOk P w K mg base CX0 3 T.f_random T.d_random ["_law_box_here", "_law_count"] spRandom := by
  have GS : FnOk P w K mg base CX0 2 T.f_strewn T.d_strewn ["_law_box_here", "_law_some"] (spStrewn K) := ok_strewn T
  have GP : FnOk P w K mg base CX0 1 T.f_paired T.d_paired ["_law_order"] (spPaired K) := ok_paired T
  refine T.F_random.ok sc_random (fun vs H Q E h => ?_) (fun cdv A outer s H vs Q E hr h => ?_)
  · obtain ⟨b, n, k, rfl, _⟩ := h
    rfl
  · obtain ⟨b, n, k, rfl, hB, he, hk, q⟩ := h
    refine ⟨_, pss_one (ps_ret (pe_call GP (hr.mono (by decide)) (by rfl) T.g_paired T.F_paired.kp T.b_paired .nil pass0 (pa_cons
      (pe_call GS hr (by rfl) T.g_strewn T.F_strewn.kp T.b_strewn .nil pass0 (pa_cons (pv 0) (pa_cons (pe_listRg rfl (by rfl) T.n_list (prg_1 (by rfl) T.n_range (pv 1))) pa_nil))) pa_nil))), ?_⟩
    refine ⟨.ref b, rfl, .int k, rfl, k, rfl, RgOk.of_le (by decide) (by omega) (by decide) (by omega), fun a na => ?_⟩
    have s1 : Same H _ := same_new (o := .lst (rgV 0 (k : Int))) na
    have hl : (rgV 0 (k : Int)).length = k := by rw [rgV_length]; omega
    refine ⟨b, a, n, _, rfl, (hB.same s1).mono (by rw [hl]; exact Nat.le_refl _), .inl (.inl upd_same), by rw [hl]; exact hk, fun H2 p2 ys hp hk2 hb2 np2 ep2 => ?_⟩
    obtain ⟨os, e1, e2⟩ := perm_map_inv (fun (i : Nat) => V.int (i : Int)) hp.symm (List.range k) (rg_nv k)
    have ep3 : H2 p2 = some (.lst (nv os)) := by rw [ep2, e1]; rfl
    refine ⟨p2, os, k, rfl, .inl (.inl ep3), e2, he, hk, fun H3 p ps hps s3 np ep => ?_⟩
    have k3 : Keep b H H3 := (Keep.of_same s1).trans (hk2.trans (Keep.of_same s3))
    refine q H3 p ps hps k3 (hb2.same s3) ?_ ep
    cases hh : H p with
    | none => rfl
    | some o =>
      have hpb : p ≠ b := fun z => by
        subst z
        obtain ⟨x, y, z, ex, _⟩ := hb2
        rw [ex] at np; cases np
      have := hk2 p o hpb (s1 p o hh)
      rw [this] at np; cases np
end
end Pc
namespace Pc
open PySem PySem.Spec PyProof.Rows L2 RZ
/-! ### data where more is tracked -/
theorem same_tup {K : PySem.W.Frag} {H H' : Hp} {a : Addr} {xs : List V} (e : Same H H') (h : SqT K H a xs) : SqT K H' a xs := by
  rcases h with (h | ⟨o, h⟩) | h
  · exact .inl (.inl (e _ _ h))
  · exact .inl (.inr ⟨o, e _ _ h⟩)
  · exact .inr h
mutual
theorem dp_same {K : PySem.W.Frag} {H H' : Hp} (e : Same H H') : ∀ {v : V} {d : PyData}, Dp K H v d → Dp K H' v d
  | _, _, .non => .non
  | _, _, .bl b => .bl b
  | _, _, .int i => .int i
  | _, _, .str x => .str x
  | _, _, .lst h a => .lst (e.seq h) (dpa_same e a)
  | _, _, .tup h a => .tup (same_tup e h) (dpa_same e a)
theorem dpa_same {K : PySem.W.Frag} {H H' : Hp} (e : Same H H') : ∀ {vs : List V} {ds : List PyData}, DpAll K H vs ds → DpAll K H' vs ds
  | _, _, .nil => .nil
  | _, _, .cons h a => .cons (dp_same e h) (dpa_same e a)
end
theorem dpa_len {K : PySem.W.Frag} {H : Hp} : ∀ {vs : List V} {ds : List PyData}, DpAll K H vs ds → vs.length = ds.length
  | _, _, .nil => rfl
  | _, _, .cons _ a => by rw [List.length_cons, List.length_cons, dpa_len a]
theorem dpa_get {K : PySem.W.Frag} {H : Hp} : ∀ {vs : List V} {ds : List PyData} {i : Nat} {v : V}, DpAll K H vs ds → vs[i]? = some v → ∃ d, ds[i]? = some d ∧ Dp K H v d
  | _, _, _, _, .nil, h => by simp at h
  | _, _, 0, _, .cons (d := d) h _, e => by
    cases Option.some.inj e
    exact ⟨d, rfl, h⟩
  | _, _, i + 1, v, .cons _ a, e => dpa_get (i := i) a e
theorem depth_get : ∀ {ds : List PyData} {i : Nat} {d : PyData}, ds[i]? = some d → d.depth ≤ PyData.depthAll ds
  | [], _, _, h => by simp at h
  | d :: r, 0, _, h => by
    cases Option.some.inj h
    exact Nat.le_max_left _ _
  | d :: r, i + 1, x, h => Nat.le_trans (depth_get (i := i) (ds := r) h) (Nat.le_max_right _ _)
mutual
/-- no list in it is longer than a hundred thousand -/
def narrow : PyData → Prop
  | .list xs => xs.length ≤ 100000 ∧ narrowAll xs
  | .tuple xs => xs.length ≤ 100000 ∧ narrowAll xs
  | _ => True
def narrowAll : List PyData → Prop
  | [] => True
  | x :: xs => narrow x ∧ narrowAll xs
end
theorem narrow_get : ∀ {ds : List PyData} {i : Nat} {d : PyData}, narrowAll ds → ds[i]? = some d → narrow d
  | [], _, _, _, h => by simp at h
  | d :: r, 0, _, n, h => by
    cases Option.some.inj h
    exact n.1
  | d :: r, i + 1, x, n, h => narrow_get (i := i) (ds := r) n.2 h
theorem narrow_of : ∀ {ds : List PyData}, (∀ d ∈ ds, narrow d) → narrowAll ds
  | [], _ => trivial
  | d :: r, h => ⟨h d List.mem_cons_self, narrow_of fun x hx => h x (List.mem_cons_of_mem _ hx)⟩
theorem narrow_ints (ns : List Int) : narrowAll (ns.map PyData.int) := narrow_of fun d hd => by
  obtain ⟨i, _, rfl⟩ := List.mem_map.mp hd
  exact trivial
theorem line_big {n : Nat} (h : n ≤ 100000) : n < sizeLine := Nat.lt_of_le_of_lt h (by decide)
theorem ty_lst {K : PySem.W.Frag} {H : Hp} {a : Addr} {xs : List V} (h : SqL K H a xs) : TyX K H (.ref a) (.type "list") := by
  rcases h with (h | ⟨o, h⟩) | ⟨o, its, n, h, c, _⟩
  · exact .base (.lst h)
  · exact .base (.frz h)
  · exact .kList h c
theorem ty_tup {K : PySem.W.Frag} {H : Hp} {a : Addr} {xs : List V} (h : SqT K H a xs) : TyX K H (.ref a) (.type "tuple") := by
  rcases h with (h | ⟨o, h⟩) | ⟨o, its, n, h, c, _⟩
  · exact .base (.tup h)
  · exact .fTuple h
  · exact .kTuple h c
theorem kit2 {K : PySem.W.Frag} {t a b : String} {p q : Bool} (h1 : kitB t a = some p) (h2 : kitB t b = some q) : PySem.W.kitAny K (.type t) [.type a, .type b] = some (p || q) := by
  refine kitAny_cons (kit_ty h1) (fun e => kitAny_cons (kit_ty h2) (fun e2 => ?_) (fun e2 => ?_)) (fun e => ?_)
  · subst e e2; rfl
  · subst e e2; rfl
  · subst e; rfl
section
variable {K : PySem.W.Frag}
theorem any_lt_int : PySem.W.kitAny K (.type "int") [.type "list", .type "tuple"] = some false := kit2 (p := false) (q := false) (by decide +kernel) (by decide +kernel)
theorem any_sb_int : PySem.W.kitAny K (.type "int") [.type "str", .type "bool"] = some false := kit2 (p := false) (q := false) (by decide +kernel) (by decide +kernel)
theorem any_bs_int : PySem.W.kitAny K (.type "int") [.type "bool", .type "str"] = some false := kit2 (p := false) (q := false) (by decide +kernel) (by decide +kernel)
theorem one_int_int : PySem.W.kitOne K (.type "int") (.type "int") = some true := kit_ty (by decide +kernel)
theorem one_int_bool : PySem.W.kitOne K (.type "int") (.type "bool") = some false := kit_ty (by decide +kernel)
theorem one_int_list : PySem.W.kitOne K (.type "int") (.type "list") = some false := kit_ty (by decide +kernel)
theorem one_int_tuple : PySem.W.kitOne K (.type "int") (.type "tuple") = some false := kit_ty (by decide +kernel)
theorem any_lt_none : PySem.W.kitAny K (.type "NoneType") [.type "list", .type "tuple"] = some false := kit2 (p := false) (q := false) (by decide +kernel) (by decide +kernel)
theorem any_sb_none : PySem.W.kitAny K (.type "NoneType") [.type "str", .type "bool"] = some false := kit2 (p := false) (q := false) (by decide +kernel) (by decide +kernel)
theorem any_bs_none : PySem.W.kitAny K (.type "NoneType") [.type "bool", .type "str"] = some false := kit2 (p := false) (q := false) (by decide +kernel) (by decide +kernel)
theorem one_none_int : PySem.W.kitOne K (.type "NoneType") (.type "int") = some false := kit_ty (by decide +kernel)
theorem one_none_bool : PySem.W.kitOne K (.type "NoneType") (.type "bool") = some false := kit_ty (by decide +kernel)
theorem one_none_list : PySem.W.kitOne K (.type "NoneType") (.type "list") = some false := kit_ty (by decide +kernel)
theorem one_none_tuple : PySem.W.kitOne K (.type "NoneType") (.type "tuple") = some false := kit_ty (by decide +kernel)
theorem any_lt_bool : PySem.W.kitAny K (.type "bool") [.type "list", .type "tuple"] = some false := kit2 (p := false) (q := false) (by decide +kernel) (by decide +kernel)
theorem any_sb_bool : PySem.W.kitAny K (.type "bool") [.type "str", .type "bool"] = some true := kit2 (p := false) (q := true) (by decide +kernel) (by decide +kernel)
theorem any_bs_bool : PySem.W.kitAny K (.type "bool") [.type "bool", .type "str"] = some true := kit2 (p := true) (q := false) (by decide +kernel) (by decide +kernel)
theorem one_bool_int : PySem.W.kitOne K (.type "bool") (.type "int") = some true := kit_ty (by decide +kernel)
theorem one_bool_bool : PySem.W.kitOne K (.type "bool") (.type "bool") = some true := kit_ty (by decide +kernel)
theorem one_bool_list : PySem.W.kitOne K (.type "bool") (.type "list") = some false := kit_ty (by decide +kernel)
theorem one_bool_tuple : PySem.W.kitOne K (.type "bool") (.type "tuple") = some false := kit_ty (by decide +kernel)
theorem any_lt_str : PySem.W.kitAny K (.type "str") [.type "list", .type "tuple"] = some false := kit2 (p := false) (q := false) (by decide +kernel) (by decide +kernel)
theorem any_sb_str : PySem.W.kitAny K (.type "str") [.type "str", .type "bool"] = some true := kit2 (p := true) (q := false) (by decide +kernel) (by decide +kernel)
theorem any_bs_str : PySem.W.kitAny K (.type "str") [.type "bool", .type "str"] = some true := kit2 (p := false) (q := true) (by decide +kernel) (by decide +kernel)
theorem one_str_int : PySem.W.kitOne K (.type "str") (.type "int") = some false := kit_ty (by decide +kernel)
theorem one_str_bool : PySem.W.kitOne K (.type "str") (.type "bool") = some false := kit_ty (by decide +kernel)
theorem one_str_list : PySem.W.kitOne K (.type "str") (.type "list") = some false := kit_ty (by decide +kernel)
theorem one_str_tuple : PySem.W.kitOne K (.type "str") (.type "tuple") = some false := kit_ty (by decide +kernel)
theorem any_lt_list : PySem.W.kitAny K (.type "list") [.type "list", .type "tuple"] = some true := kit2 (p := true) (q := false) (by decide +kernel) (by decide +kernel)
theorem any_sb_list : PySem.W.kitAny K (.type "list") [.type "str", .type "bool"] = some false := kit2 (p := false) (q := false) (by decide +kernel) (by decide +kernel)
theorem any_bs_list : PySem.W.kitAny K (.type "list") [.type "bool", .type "str"] = some false := kit2 (p := false) (q := false) (by decide +kernel) (by decide +kernel)
theorem one_list_int : PySem.W.kitOne K (.type "list") (.type "int") = some false := kit_ty (by decide +kernel)
theorem one_list_bool : PySem.W.kitOne K (.type "list") (.type "bool") = some false := kit_ty (by decide +kernel)
theorem one_list_list : PySem.W.kitOne K (.type "list") (.type "list") = some true := kit_ty (by decide +kernel)
theorem one_list_tuple : PySem.W.kitOne K (.type "list") (.type "tuple") = some false := kit_ty (by decide +kernel)
theorem any_lt_tuple : PySem.W.kitAny K (.type "tuple") [.type "list", .type "tuple"] = some true := kit2 (p := false) (q := true) (by decide +kernel) (by decide +kernel)
theorem any_sb_tuple : PySem.W.kitAny K (.type "tuple") [.type "str", .type "bool"] = some false := kit2 (p := false) (q := false) (by decide +kernel) (by decide +kernel)
theorem any_bs_tuple : PySem.W.kitAny K (.type "tuple") [.type "bool", .type "str"] = some false := kit2 (p := false) (q := false) (by decide +kernel) (by decide +kernel)
theorem one_tuple_int : PySem.W.kitOne K (.type "tuple") (.type "int") = some false := kit_ty (by decide +kernel)
theorem one_tuple_bool : PySem.W.kitOne K (.type "tuple") (.type "bool") = some false := kit_ty (by decide +kernel)
theorem one_tuple_list : PySem.W.kitOne K (.type "tuple") (.type "list") = some false := kit_ty (by decide +kernel)
theorem one_tuple_tuple : PySem.W.kitOne K (.type "tuple") (.type "tuple") = some true := kit_ty (by decide +kernel)
end
theorem cls2 (a b : String) : Paired ClsV [.ty a, .ty b] [.type a, .type b] := .cons (.ty a) (.cons (.ty b) .nil)
/-- zip of two tuples -/
theorem walk_zipT {K : PySem.W.Frag} {a b : Addr} {xs ys : List V} {n : Nat} (hn : n = min xs.length ys.length) : Walk (ItzT K a b) n (fun H => SqT K H a xs ∧ SqT K H b ys) (YPair (fun i => xs[i]?) (fun i => ys[i]?)) := by
  subst hn
  refine ⟨fun i _ hi q => ?_, fun _ q => ⟨xs, ys, q.1, q.2, by omega⟩, fun i H v H' _ q y => ?_⟩
  · obtain ⟨x, hx⟩ := get_some (l := xs) (i := i) (by omega)
    obtain ⟨z, hz⟩ := get_some (l := ys) (i := i) (by omega)
    exact ⟨xs, ys, x, z, q.1, q.2, hx, hz⟩
  · obtain ⟨T, x, z, h1, h2, h3, h4, h5⟩ := y
    exact ⟨T, x, z, h1, h2, h3, h4 xs q.1, h5 ys q.2⟩
theorem fn_never {P : Program} {w : World} {K : PySem.W.Frag} {mg : Str → Option Value} {base : Heap} {CX : CXT} {k : Nat} {f : Addr} {fd : FuncData} {ps : List Str} {sp : Sp} (h : ∀ vs H Q E, ¬ sp vs H Q E) : FnOk P w K mg base CX k f fd ps sp :=
  ⟨fun vs H Q E q => absurd q (h vs H Q E), fun _ _ _ H _ _ vs Q E _ _ _ _ q => absurd q (h vs H Q E)⟩
/-- a comprehension without a test -/
theorem yes_if {σ : L2.St} {H : Hp} {A B : Hp → Prop} (h : A H) : tYes σ H (fun b H3 => if b = true then A H3 else B H3) := by
  show if true = true then A H else B H
  exact iteT h
theorem all_rep : ∀ n : Nat, (List.replicate n true).all id = true
  | 0 => rfl
  | n + 1 => by rw [List.replicate_succ, List.all_cons, all_rep n]; rfl
end Pc
namespace Pc
open PySem PySem.Spec PyProof.Rows L2 RZ
section
variable {P : Program} {w : World} {K : PySem.W.Frag} {mg : Str → Option Value} {base : Heap}
/-! ### the same data twice -/
def spSame (K : PySem.W.Frag) (n : Nat) : Sp := fun vs H Q _ => ∃ (x y : V) (d : PyData), vs = [x, y] ∧ Dp K H x d ∧ Dp K H y d ∧ d.depth < n ∧ narrow d ∧ ∀ H', Same H H' → Q (.bl true) H'
theorem same_step (T : Env K mg) (n : Nat) (G : FnOk P w K mg base CX0 n T.f_same T.d_same ["_law_found", "_law_due"] (spSame K n)) : FnOk P w K mg base CX0 (n + 1) T.f_same T.d_same ["_law_found", "_law_due"] (spSame K (n + 1)) := by
  refine T.F_same.ok sc_same (fun vs H Q E h => ?_) (fun cdv A outer s H vs Q E hr h => ?_)
  · obtain ⟨x, y, d, rfl, _⟩ := h
    rfl
  · obtain ⟨x, y, d, rfl, hx, hy, hd, hw, q⟩ := h
    refine ⟨_, pss_cons (ps_if (pt_val (pe_callB call_isiT (by rfl) T.n_isinstance (by decide +kernel) (pa_cons (pv 1) (pa_cons (pe_tup (pa_cons (pe_bltn (v := .ty "list") (by rfl) T.n_list (by decide +kernel) rfl) (pa_cons (pe_bltn (v := .ty "tuple") (by rfl) T.n_tuple (by decide +kernel) rfl) pa_nil))) pa_nil))))
        (pss_cons (ps_if (PW.pt (pw_or (pt_cmpR op_ne (pe_callB call_isi (by rfl) T.n_isinstance (by decide +kernel) (pa_cons (pv 0) (pa_cons (pe_bltn (v := .ty "list") (by rfl) T.n_list (by decide +kernel) rfl) pa_nil))) (pe_callB call_isi (by rfl) T.n_isinstance (by decide +kernel) (pa_cons (pv 1) (pa_cons (pe_bltn (v := .ty "list") (by rfl) T.n_list (by decide +kernel) rfl) pa_nil))) (nomark _))
            (pw_or1 (pt_cmpR op_ne (pe_callB call_isi (by rfl) T.n_isinstance (by decide +kernel) (pa_cons (pv 0) (pa_cons (pe_bltn (v := .ty "tuple") (by rfl) T.n_tuple (by decide +kernel) rfl) pa_nil))) (pe_callB call_isi (by rfl) T.n_isinstance (by decide +kernel) (pa_cons (pv 1) (pa_cons (pe_bltn (v := .ty "tuple") (by rfl) T.n_tuple (by decide +kernel) rfl) pa_nil))) (nomark _)))))
          (pss_one (ps_ret pe_bl)) pss_nil)
        (pss_one (ps_ret (pe_and (pe_cmpR op_eq (pe_callB call_len_seq (by rfl) T.n_len PySem.boot_len (pa_cons (pv 0) pa_nil)) (pe_callB call_len_seq (by rfl) T.n_len PySem.boot_len (pa_cons (pv 1) pa_nil)) (nomark _))
          (pe_one (pe_callB (cr_all rfl) (by rfl) T.n_all (by decide +kernel) (pa_cons
            (pe_lc (own := [("_law_mine", 2), ("_law_its", 3)]) (g := gTup K 2 (gCons (gName 2) (gCons (gName 3) gNil))) (tt := tYes) (by rfl) sc_same.nd (pi_zipA (by rfl) T.n_zip (pa_cons (pv 0) (pa_cons (pv 1) pa_nil)))
              (blkOk_by (N := N_same) (sc := defScope s_same) (by decide +kernel))
              (fun _ _ _ _ _ => pg_tup (by rfl) (pgs_cons (pg_name (i := 2) sc_same.nd rfl (.inl rfl)) (pgs_cons (pg_name (i := 3) sc_same.nd rfl (.inl rfl)) pgs_nil)))
              (fun _ _ _ _ _ => pts_nil)
              (fun _ _ _ _ _ => pe_call G hr (by rfl) T.g_same T.F_same.kp T.b_same .nil pass0 (pa_cons (pv 2) (pa_cons (pv 3) pa_nil)))) pa_nil))))))) pss_nil)
      (pss_cons (ps_if (PW.pt (pw_or (pt_cmpR op_isN (pv 1) pe_non (nomark _)) (pw_or1 (pt_val (pe_callB call_isiT (by rfl) T.n_isinstance (by decide +kernel) (pa_cons (pv 1) (pa_cons (pe_tup (pa_cons (pe_bltn (v := .ty "str") (by rfl) T.n_str (by decide +kernel) rfl) (pa_cons (pe_bltn (v := .ty "bool") (by rfl) T.n_bool (by decide +kernel) rfl) pa_nil))) pa_nil)))))))
        (pss_one (ps_ret (pe_and (pe_cmpR op_eq (pv 0) (pv 1) (nomark _))
          (pe_and (pe_cmpR op_eq (pe_callB call_isi (by rfl) T.n_isinstance (by decide +kernel) (pa_cons (pv 0) (pa_cons (pe_bltn (v := .ty "bool") (by rfl) T.n_bool (by decide +kernel) rfl) pa_nil))) (pe_callB call_isi (by rfl) T.n_isinstance (by decide +kernel) (pa_cons (pv 1) (pa_cons (pe_bltn (v := .ty "bool") (by rfl) T.n_bool (by decide +kernel) rfl) pa_nil))) (nomark _))
          (pe_one (pe_cmpR op_eq (pe_cmpR op_isN (pv 0) pe_non (nomark _)) (pe_cmpR op_isN (pv 1) pe_non (nomark _)) (nomark _))))))) pss_nil)
      (pss_one (ps_ret (pe_and (pe_callB call_isi (by rfl) T.n_isinstance (by decide +kernel) (pa_cons (pv 0) (pa_cons (pe_bltn (v := .ty "int") (by rfl) T.n_int (by decide +kernel) rfl) pa_nil)))
        (pe_and (pe_not (pe_callB call_isi (by rfl) T.n_isinstance (by decide +kernel) (pa_cons (pv 0) (pa_cons (pe_bltn (v := .ty "bool") (by rfl) T.n_bool (by decide +kernel) rfl) pa_nil)))) (pe_one (pe_cmpR op_eq (pv 0) (pv 1) (nomark _)))))))), ?_⟩
    cases d with
    | dict _ => cases hx
    | int i =>
      cases hx; cases hy
      refine ⟨_, rfl, by show 2 ≤ sizeLine; decide, fun t nt => ⟨_, t, _, _, _, _, rfl, upd_same, cls2 _ _, .base (.int i), any_lt_int, _, rfl, iteF ?_⟩⟩
      refine ⟨_, rfl, rfl, _, rfl, iteF ⟨_, rfl, by show 2 ≤ sizeLine; decide, fun u nu => ⟨_, u, _, _, _, _, rfl, upd_same, cls2 _ _, .base (.int i), any_sb_int, _, rfl, iteF ?_⟩⟩⟩
      refine ⟨_, rfl, _, _, _, _, _, rfl, .ty _, .base (.int i), one_int_int, _, rfl, iteT ⟨_, rfl, _, _, _, _, _, rfl, .ty _, .base (.int i), one_int_bool, _, rfl, _, rfl, iteT ⟨_, rfl, _, rfl, rfl, ?_⟩⟩⟩
      rw [decide_eq_true rfl]
      exact q _ ((same_new nt).trans (same_new nu))
    | none =>
      cases hx; cases hy
      refine ⟨_, rfl, by show 2 ≤ sizeLine; decide, fun t nt => ⟨_, t, _, _, _, _, rfl, upd_same, cls2 _ _, .base .non, any_lt_none, _, rfl, iteF ?_⟩⟩
      refine ⟨_, rfl, rfl, _, rfl, iteT ?_⟩
      refine ⟨_, rfl, _, rfl, rfl, _, rfl, iteT ⟨_, rfl, _, _, _, _, _, rfl, .ty _, .base .non, one_none_bool, _, rfl, _, _, _, _, _, rfl, .ty _, .base .non, one_none_bool, rfl, _, rfl, iteT ⟨_, rfl, rfl, _, rfl, rfl, rfl, ?_⟩⟩⟩
      exact q _ (same_new nt)
    | bool b =>
      cases hx; cases hy
      refine ⟨_, rfl, by show 2 ≤ sizeLine; decide, fun t nt => ⟨_, t, _, _, _, _, rfl, upd_same, cls2 _ _, .base (.bl b), any_lt_bool, _, rfl, iteF ?_⟩⟩
      refine ⟨_, rfl, rfl, _, rfl, iteF ⟨_, rfl, by show 2 ≤ sizeLine; decide, fun u nu => ⟨_, u, _, _, _, _, rfl, upd_same, cls2 _ _, .base (.bl b), any_sb_bool, _, rfl, iteT ?_⟩⟩⟩
      refine ⟨_, rfl, _, rfl, rfl, _, rfl, ?_⟩
      rw [decide_eq_true rfl]
      refine iteT ⟨_, rfl, _, _, _, _, _, rfl, .ty _, .base (.bl b), one_bool_bool, _, rfl, _, _, _, _, _, rfl, .ty _, .base (.bl b), one_bool_bool, rfl, _, rfl, iteT ⟨_, rfl, rfl, _, rfl, rfl, rfl, ?_⟩⟩
      rw [decide_eq_true rfl]
      exact q _ ((same_new nt).trans (same_new nu))
    | str z =>
      cases hx; cases hy
      refine ⟨_, rfl, by show 2 ≤ sizeLine; decide, fun t nt => ⟨_, t, _, _, _, _, rfl, upd_same, cls2 _ _, .base (.str z), any_lt_str, _, rfl, iteF ?_⟩⟩
      refine ⟨_, rfl, rfl, _, rfl, iteF ⟨_, rfl, by show 2 ≤ sizeLine; decide, fun u nu => ⟨_, u, _, _, _, _, rfl, upd_same, cls2 _ _, .base (.str z), any_sb_str, _, rfl, iteT ?_⟩⟩⟩
      refine ⟨_, rfl, _, rfl, rfl, _, rfl, ?_⟩
      rw [decide_eq_true rfl]
      refine iteT ⟨_, rfl, _, _, _, _, _, rfl, .ty _, .base (.str z), one_str_bool, _, rfl, _, _, _, _, _, rfl, .ty _, .base (.str z), one_str_bool, rfl, _, rfl, iteT ⟨_, rfl, rfl, _, rfl, rfl, rfl, ?_⟩⟩
      rw [decide_eq_true rfl]
      exact q _ ((same_new nt).trans (same_new nu))
    | list ds =>
      cases hx with
      | lst hsx hax =>
      cases hy with
      | lst hsy hay =>
      rename_i a xs b ys
      have hlx := dpa_len hax
      have hly := dpa_len hay
      obtain ⟨hw1, hw2⟩ := hw
      refine ⟨_, rfl, by show 2 ≤ sizeLine; decide, fun t nt => ?_⟩
      have s1 : Same H (upd H t (.tup [.ty "list", .ty "tuple"])) := same_new nt
      have hsx1 := Same.seq s1 hsx
      have hsy1 := Same.seq s1 hsy
      refine ⟨_, t, _, _, _, _, rfl, upd_same, cls2 _ _, ty_lst hsy1, any_lt_list, _, rfl, iteT ?_⟩
      refine ⟨_, rfl, _, _, _, _, _, rfl, .ty _, ty_lst hsx1, one_list_list, _, rfl, _, _, _, _, _, rfl, .ty _, ty_lst hsy1, one_list_list, rfl, _, rfl, iteNS rfl ?_⟩
      refine ⟨_, rfl, _, _, _, _, _, rfl, .ty _, ty_lst hsx1, one_list_tuple, _, rfl, _, _, _, _, _, rfl, .ty _, ty_lst hsy1, one_list_tuple, rfl, _, rfl, iteNS rfl ?_⟩
      refine ⟨_, rfl, a, xs, rfl, .inl hsx1, _, rfl, b, ys, rfl, .inl hsy1, rfl, _, rfl, ?_⟩
      rw [decide_eq_true (show V.int (xs.length : Int) = V.int (ys.length : Int) by rw [hlx, hly])]
      refine iteT ⟨_, rfl, _, rfl, a, b, xs, ys, rfl, .inl ⟨hsx1, hsy1, fun D nD => ?_⟩⟩
      have nD0 : H D = none := s1.free nD
      refine lc_it (walk_zip (n := xs.length) (by omega)) (fun i H' => Same H H' ∧ H' D = some (.lst (List.replicate i (.bl true)))) ⟨s1.trans (same_new nD), upd_same⟩ (fun i H' _ h => ⟨Same.seq h.1 hsx, Same.seq h.1 hsy⟩) (fun i v H1 H2 hi h yy => ?_) (fun H' h => ?_)
      · obtain ⟨sm, eD⟩ := h
        obtain ⟨tp, u, v, rfl, nT, rfl, g1, g2⟩ := yy
        obtain ⟨d1, e1, f1⟩ := dpa_get hax g1
        obtain ⟨d2, e2, f2⟩ := dpa_get hay g2
        cases Option.some.inj (e1.symm.trans e2)
        have st : Same H (upd H1 tp (.tup [u, v])) := sm.trans (same_new nT)
        refine ⟨tp, _, rfl, .inl (.inl upd_same), rfl, _, _, rfl, _, _, rfl, rfl, rfl, yes_if ?_⟩
        refine ⟨_, rfl, _, rfl, u, v, d1, rfl, dp_same st f1, dp_same st f2, ?_, narrow_get hw2 e1, fun H3 s3 => ⟨_, s3 _ _ (same_new nT _ _ eD), ?_, ?_, ?_⟩⟩
        · have := depth_get e1
          have hd' : PyData.depthAll ds + 1 < n + 1 := hd
          omega
        · rw [List.length_replicate]
          exact line_big (by omega)
        · intro c o hc
          rw [upd_ne (ne_of_none hc nD0)]
          exact s3 _ _ (st _ _ hc)
        · rw [upd_same, List.replicate_succ']
      · obtain ⟨sm, eD⟩ := h
        refine ⟨D, List.replicate xs.length true, rfl, ?_, ?_⟩
        · rw [List.map_replicate]
          exact .inl (.inl eD)
        · rw [all_rep]
          exact q _ sm
    | tuple ds =>
      cases hx with
      | tup hsx hax =>
      cases hy with
      | tup hsy hay =>
      rename_i a xs b ys
      have hlx := dpa_len hax
      have hly := dpa_len hay
      obtain ⟨hw1, hw2⟩ := hw
      refine ⟨_, rfl, by show 2 ≤ sizeLine; decide, fun t nt => ?_⟩
      have s1 : Same H (upd H t (.tup [.ty "list", .ty "tuple"])) := same_new nt
      have hsx1 := same_tup s1 hsx
      have hsy1 := same_tup s1 hsy
      refine ⟨_, t, _, _, _, _, rfl, upd_same, cls2 _ _, ty_tup hsy1, any_lt_tuple, _, rfl, iteT ?_⟩
      refine ⟨_, rfl, _, _, _, _, _, rfl, .ty _, ty_tup hsx1, one_tuple_list, _, rfl, _, _, _, _, _, rfl, .ty _, ty_tup hsy1, one_tuple_list, rfl, _, rfl, iteNS rfl ?_⟩
      refine ⟨_, rfl, _, _, _, _, _, rfl, .ty _, ty_tup hsx1, one_tuple_tuple, _, rfl, _, _, _, _, _, rfl, .ty _, ty_tup hsy1, one_tuple_tuple, rfl, _, rfl, iteNS rfl ?_⟩
      refine ⟨_, rfl, a, xs, rfl, .inr hsx1, _, rfl, b, ys, rfl, .inr hsy1, rfl, _, rfl, ?_⟩
      rw [decide_eq_true (show V.int (xs.length : Int) = V.int (ys.length : Int) by rw [hlx, hly])]
      refine iteT ⟨_, rfl, _, rfl, a, b, xs, ys, rfl, .inr ⟨hsx1, hsy1, fun D nD => ?_⟩⟩
      have nD0 : H D = none := s1.free nD
      refine lc_it (walk_zipT (n := xs.length) (by omega)) (fun i H' => Same H H' ∧ H' D = some (.lst (List.replicate i (.bl true)))) ⟨s1.trans (same_new nD), upd_same⟩ (fun i H' _ h => ⟨same_tup h.1 hsx, same_tup h.1 hsy⟩) (fun i v H1 H2 hi h yy => ?_) (fun H' h => ?_)
      · obtain ⟨sm, eD⟩ := h
        obtain ⟨tp, u, v, rfl, nT, rfl, g1, g2⟩ := yy
        obtain ⟨d1, e1, f1⟩ := dpa_get hax g1
        obtain ⟨d2, e2, f2⟩ := dpa_get hay g2
        cases Option.some.inj (e1.symm.trans e2)
        have st : Same H (upd H1 tp (.tup [u, v])) := sm.trans (same_new nT)
        refine ⟨tp, _, rfl, .inl (.inl upd_same), rfl, _, _, rfl, _, _, rfl, rfl, rfl, yes_if ?_⟩
        refine ⟨_, rfl, _, rfl, u, v, d1, rfl, dp_same st f1, dp_same st f2, ?_, narrow_get hw2 e1, fun H3 s3 => ⟨_, s3 _ _ (same_new nT _ _ eD), ?_, ?_, ?_⟩⟩
        · have := depth_get e1
          have hd' : PyData.depthAll ds + 1 < n + 1 := hd
          omega
        · rw [List.length_replicate]
          exact line_big (by omega)
        · intro c o hc
          rw [upd_ne (ne_of_none hc nD0)]
          exact s3 _ _ (st _ _ hc)
        · rw [upd_same, List.replicate_succ']
      · obtain ⟨sm, eD⟩ := h
        refine ⟨D, List.replicate xs.length true, rfl, ?_, ?_⟩
        · rw [List.map_replicate]
          exact .inl (.inl eD)
        · rw [all_rep]
          exact q _ sm
theorem ok_same (T : Env K mg) : ∀ n : Nat, FnOk P w K mg base CX0 n T.f_same T.d_same ["_law_found", "_law_due"] (spSame K n)
  | 0 => fn_never fun vs H Q E h => by
    obtain ⟨x, y, d, _, _, _, hd, _⟩ := h
    exact absurd hd (Nat.not_lt_zero _)
  | n + 1 => same_step T n (ok_same T n)
end
end Pc
namespace Pc
open PySem PySem.Spec PyProof.Rows L2 RZ
/-! ### enumerate of a tuple -/
theorem draws_tuple {prog : Program} {w : World} {A : Around} (hh : A.handled = none) (it l : Addr) (hne : l ≠ it) (items : Array Value) :
    Draws prog w A it [it, l] items.size (fun i v => items[i]? = some v) (fun i h => h.IsTupleIter it l i ∧ h.IsTuple l items) where
  live i h st := by
    obtain ⟨⟨o, ho, _⟩, _⟩ := st
    exact ⟨o, ho⟩
  frame i h h' st hk := ⟨Heap.IsTupleIter.at st.1 (hk it (by simp)), Heap.IsTuple.at st.2 (hk l (by simp))⟩
  item i s Q E hi st hQ := by
    have hx : items[i]? = some items[i] := by simp [hi]
    exact nextOf_tuple_item st.1 st.2 hx fun h' hit' hs' => hQ _ h' s.toks hx ⟨hit', st.2.extBut hs'.extBut hne⟩ hs'
  done s Q E st hE := nextOf_tuple_end hh st.1 st.2 (by simp) hE
set_option maxHeartbeats 4000000 in
theorem enum_newT (l : Addr) (items : Array Value) (n : Nat) (dct : Option Addr) (sl : Array (Option Value)) :
    Meets (Builtin.«enumerate.__new__» ⟨[.type "enumerate", .ref l], []⟩) (fun _ R s =>
      s.heap.get? l = some { cls := .type "tuple", dict := dct, data := .seq items n, slots := sl } ∧
      R (.ok (.ret (.ref (s.heap.push { cls := .type "tuple_iterator", data := .fields #[.ref l, .int 0 0] }).objs.size)))
        { s with heap := Heap.push (s.heap.push { cls := .type "tuple_iterator", data := .fields #[.ref l, .int 0 0] }) { cls := .type "enumerate", data := .fields #[.none, .bool false, .ref s.heap.objs.size, rawInt 0, .none, .none] } }) := by
  refine .of_wp fun prog w A R s h => ?_
  obtain ⟨hp, g, d, tk, os⟩ := s
  obtain ⟨hl, h⟩ := h
  have subE := sub_enumerate
  have isT : Heap.IsTuple (Shared.heap ⟨hp, g, d, tk, os⟩) l items := ⟨_, hl, rfl, n, rfl⟩
  wp_walk using AutoSeq1.wpAny_loadPart' hl
  refine wpAny_stack_any fun st => wpAny_pure ?_
  split
  · rename_i c _ _ _ _ _
    cases (c == Value.type "enumerate") <;> (wp_walk using AutoSeq1.wpAny_loadPart' hl, wpAny_pyIter_tuple isT; exact ⟨_, rfl, h⟩)
  · wp_walk using AutoSeq1.wpAny_loadPart' hl, wpAny_pyIter_tuple isT
    exact ⟨_, rfl, h⟩
theorem call_enumT {prog : Program} {w : World} {A : Around} {E : Value → Shared → Prop} {s : Shared} {l : Addr} {items : Array Value} {Q : Value → Shared → Prop} (hL : s.heap.IsTuple l items)
    (h : ∀ h', IsEnum h' (s.heap.objs.size + 1) s.heap.objs.size 0 .none → h'.IsTupleIter s.heap.objs.size l 0 →
      (∀ b o, s.heap.get? b = some o → h'.get? b = some o) → Q (.ref (s.heap.objs.size + 1)) { s with heap := h' }) :
    wpAny (model prog w) A (call (.type "enumerate") [.ref l]) Q E s := by
  obtain ⟨⟨c, dct, dt, sl⟩, hl, hc, n, hd⟩ := hL
  have hc' : c = .type "tuple" := hc
  have hd' : dt = .seq items n := hd
  subst hc' hd'
  refine callType_new F.called_enumerate (by decide) (F.typeCall_enumerate_1 _) (F.newCall_enumerate_1 _) (fun obj => F.args_object_init_2 obj _) F.entry_enumerate_new (enum_newT l items n dct sl) ⟨hl, ?_⟩
  have hz : (s.heap.push { cls := .type "tuple_iterator", data := .fields #[.ref l, .int 0 0] }).objs.size = s.heap.objs.size + 1 := Heap.size_push ..
  have he := Heap.get?_push_size (s.heap.push { cls := .type "tuple_iterator", data := .fields #[.ref l, .int 0 0] })
    (o := { cls := .type "enumerate", data := .fields #[.none, .bool false, .ref s.heap.objs.size, rawInt 0, .none, .none] }) rfl
  rw [hz] at he
  show _ ∧ _
  rw [hz]
  exact ⟨⟨_, he, rfl⟩, h _ he ⟨{ cls := .type "tuple_iterator", data := .fields #[.ref l, .int 0 0] }, Heap.get?_push_of_some _ (Heap.get?_push_size _ rfl), rfl, rfl⟩ fun b o x => Heap.get?_push_of_some _ (Heap.get?_push_of_some _ x)⟩
/-- the tuple at a, its items in new pairs with their places -/
def IteT (K : PySem.W.Frag) (a : Addr) : It where
  go i H := ∃ (xs : List V) (x : V), SqT K H a xs ∧ xs[i]? = some x
  yld i H v H' := ∃ T x, v = .ref T ∧ H T = none ∧ H' = upd H T (.tup [.int (i : Nat), x]) ∧ ∀ xs, SqT K H a xs → xs[i]? = some x
  stop i H := ∃ xs : List V, SqT K H a xs ∧ xs.length ≤ i
theorem turn_enumT {P : Program} {w : World} {K : PySem.W.Frag} {elts : List Expr} {kk : Nat} {tpos : Pos} (a e it : Addr) (hei : e ≠ it) (hae : a ≠ e) (hai : a ≠ it) :
    Turn P w K (.Tuple elts kk tpos) (IteT K a) [e, it] e (fun i h => (∃ old, IsEnum h e it ((i : Nat) : Int) old) ∧ h.IsTupleIter it a i) where
  mem := by simp
  obj i h st b hb := by
    obtain ⟨⟨old, he⟩, ⟨o, ho, hc, hd⟩⟩ := st
    rcases (show b = e ∨ b = it by simpa using hb) with z | z
    · rw [z]; exact ⟨_, he, fun v q => nomatch q⟩
    · rw [z]; exact ⟨o, ho, fun v q => by rw [hd] at q; cases q⟩
  keep i h h' st k := by
    obtain ⟨⟨old, he⟩, hi⟩ := st
    exact ⟨⟨old, k e (by simp) _ he⟩, hi.at fun o q => k it (by simp) o q⟩
  item := by
    intro X hP hw hK hc i pins s σ H E I hf st hg
    subst hP hw hK
    obtain ⟨⟨old, he⟩, hit⟩ := st
    obtain ⟨xs, x, hq, hx⟩ := hg
    obtain ⟨its, rv, p, hz⟩ := I.tuple hq
    have p2 : s.heap.IsTuple a its.toArray := p
    obtain ⟨u, hu, ru⟩ := rv.get hx
    have hlt : i < its.toArray.size := by
      rw [List.size_toArray]
      exact get_lt hu
    have D := draws_tuple (prog := X.prog) (w := X.w) (A := X.A.in1) (show X.A.in1.handled = none from I.ok.hd hc) it a hai its.toArray
    have hel : e < s.heap.objs.size := Heap.lt_size he
    have hil : it < s.heap.objs.size := by obtain ⟨_, q, _⟩ := hit; exact Heap.lt_size q
    refine wpAny_pyNext_enum_itemD D he ⟨hit, p2⟩ hlt hei (by simp [hei, hae.symm]) fun y h' tk hy ho hst hT hsz hk => ?_
    have ey : y = u := by
      have : its.toArray[i]? = some y := hy
      rw [List.getElem?_toArray, hu] at this
      exact (Option.some.inj this).symm
    subst ey
    refine ⟨_, rfl, wpAny_letOwnedTupleGo_enum (s := { s with heap := h', toks := tk + 1 }) ho fun h'' he' sb => ?_⟩
    have hT2 : h''.get? s.heap.objs.size = some { cls := .type "tuple", data := .seq #[.int i tk, y] } := (sb.2 _ (Nat.ne_of_gt hel)).trans hT
    have new : ObjOk X.prog X.w (upd H s.heap.objs.size (.tup [.int (i : Nat), x])) h'' s.heap.objs.size (.tup [.int (i : Nat), x]) :=
      ⟨by show 2 ≤ sizeLine; decide, [.int i tk, y], .cons ⟨_, rfl⟩ (.cons ru .nil), ⟨_, hT2, rfl, _, rfl⟩⟩
    have I1 := I.turnedNew (t' := tk + 1) (h' := h'') (ch := [e, it]) (fun b ob hb q => (sb.2 b (fun z => hb (by simp [z]))).trans (hk b ob (fun z => hb (by simp [z])) (fun z => hb (by simp [z])) q)) hf (Nat.le_refl _) new
    refine ⟨.ref s.heap.objs.size, _, I1, rfl, ⟨_, x, rfl, I.hok.fresh (Nat.le_refl _), rfl, fun ys hy => by rw [I.tuple_inj hy hq]; exact hx⟩, ⟨⟨y, ?_⟩, hst.1.at fun o q => (sb.2 it hei.symm).trans q⟩, fun b hb => ?_⟩
    · rw [show ((i + 1 : Nat) : Int) = (i : Int) + 1 by omega]; exact he'
    · have hb' : b < s.heap.objs.size := by
        rcases (show b = e ∨ b = it by simpa using hb) with z | z
        · rw [z]; exact hel
        · rw [z]; exact hil
      rw [upd_ne (Nat.ne_of_lt hb')]
      exact (hf b hb).1
  done := by
    intro X hP hw hK hc i pins s σ H E I hf st hg
    subst hP hw hK
    obtain ⟨⟨old, he⟩, hit⟩ := st
    obtain ⟨xs, hq, hx⟩ := hg
    obtain ⟨its, rv, p, hz⟩ := I.tuple hq
    have p2 : s.heap.IsTuple a its.toArray := p
    obtain ⟨f0, f1, f2, f3, f4, f5⟩ := hf it (by simp)
    have hl := rv.length
    have hT : s.TypeIs (.ref e) "enumerate" := ⟨_, he, rfl⟩
    unfold pyNext
    refine wpAny_bind (wpAny_attempt (wpAny_callSpecial?_slot (name := Str.ofString "__next__") hT F.slot_enumerate_next (wpAny_call_entry F.slot_enumerate_next hT F.entry_enumerate_next ?_ (F.args_enumerate_next_1 _))))
    show wpAny _ _ (field (.ref e) 2 >>= _) _ _ _
    refine wpAny_bind (wpAny_field he rfl (x := .ref it) rfl ?_)
    refine wpAny_bind (nextOf_tuple_end (show X.A.in1.handled = none from I.ok.hd hc) hit p2 (by simp; omega) fun h' x he' hx' => ?_)
    obtain ⟨o, ho, hcl⟩ := hx'
    refine wpAny_bind (wpAny_isInstance (T := "StopIteration") (b := true) ⟨o, ho, hcl⟩ isSubtype_stop ?_)
    exact wpAny_pure ⟨rfl, I.turned (t' := s.toks) (fun b o hb q => he' b o hb q) f0 f1 f3 f4 f5⟩
  self A i s Q E st h := by
    obtain ⟨⟨_, he⟩, _⟩ := st
    exact wpAny_pyIter_enum he h
/-- enumerate of a list or a tuple -/
def iEnumA (K : PySem.W.Frag) (ta : TA) : TI := fun σ H R => ta σ H fun vs H1 => ∃ a xs, vs = [.ref a] ∧ ((SqL K H1 a xs ∧ R (Ite K a) H1) ∨ (SqT K H1 a xs ∧ R (IteT K a) H1))
theorem pi_enumA {X : Cx} {e : Expr} {ta : TA} {p pos tpos : Pos} {elts : List Expr} {kk : Nat} (hg : Gl X "enumerate") (hm : X.mg "enumerate" = none) (ha : PA X [e] ta) (hs : starEach [e] X.env = [(false, eval e X.env)] := by rfl) :
    PI X (.Tuple elts kk tpos) (.Call (.Name "enumerate" p) [e] [] pos) (iEnumA X.K ta) := by
  constructor
  intro pins s σ H R I h
  refine Call_ (ld_blt I hg hm boot_enumerate (callWith_type1 (thn (ha.run pos pins s σ H _ I h) fun us s1 r => ?_) hs rfl))
  obtain ⟨vs, H1, I1, r1, a, xs, ex, q1⟩ := r
  subst ex
  cases r1 with
  | cons r rr =>
    cases rr
    cases r
    have fr : ∀ b, b ∈ [s1.heap.objs.size + 1, s1.heap.objs.size] → FpOk X pins H1 b := fun b hb => by
      have hle : s1.heap.objs.size ≤ b := by
        rcases (show b = s1.heap.objs.size + 1 ∨ b = s1.heap.objs.size by simpa using hb) with z | z <;> omega
      exact I1.fpOk hle (I1.hok.fresh hle)
    rcases q1 with ⟨hq, q⟩ | ⟨hq, q⟩
    · obtain ⟨its, rv, p', hz⟩ := I1.list hq
      refine call_enumerate_list p'.isList fun h' he hit _ hk => wpAny_pyIter_enum he ?_
      exact ⟨_, _, _, _, H1, rfl, I1.kept (t' := s1.toks) hk, turn_enum a (s1.heap.objs.size + 1) s1.heap.objs.size, ⟨⟨.none, he⟩, hit, Nat.succ_ne_self _⟩, fr, q⟩
    · obtain ⟨its, rv, p', hz⟩ := I1.tuple hq
      have p2 : s1.heap.IsTuple a its.toArray := p'
      have hlt : a < s1.heap.objs.size := by obtain ⟨o, ho, _⟩ := p2; exact Heap.lt_size ho
      refine call_enumT p2 fun h' he hit hk => wpAny_pyIter_enum he ?_
      exact ⟨_, _, _, _, H1, rfl, I1.kept (t' := s1.toks) hk, turn_enumT a (s1.heap.objs.size + 1) s1.heap.objs.size (Nat.succ_ne_self _) (Nat.ne_of_lt (Nat.lt_succ_of_lt hlt)) (Nat.ne_of_lt hlt), ⟨⟨.none, he⟩, hit⟩, fr, q⟩
theorem walk_enumT {K : PySem.W.Frag} {a : Addr} {xs : List V} : Walk (IteT K a) xs.length (fun H => SqT K H a xs) (YPair (fun i => some (.int (i : Nat))) (fun i => xs[i]?)) where
  goes i H hi q := by
    obtain ⟨x, hx⟩ := get_some hi
    exact ⟨xs, x, q, hx⟩
  stops H q := ⟨xs, q, Nat.le_refl _⟩
  yields i H v H' hi q y := by
    obtain ⟨T, x, h1, h2, h3, h4⟩ := y
    exact ⟨T, .int (i : Nat), x, h1, h2, h3, rfl, h4 xs q⟩
end Pc
namespace Pc
open PySem PySem.Spec PyProof.Rows L2 RZ
/-! ### t[::-1] of a pair -/
section
variable {prog : Program} {w : World} {A : Around} {E : Value → Shared → Prop} {s : Shared}
theorem applied_rev2 {sl : Addr} {vk : Value} {Q : Int × Int × Nat → Shared → Prop} (hs : s.heap.IsSliceOf sl .none .none vk) (pk : IsPart vk (some (-1))) (h : Q (1, -1, 2) s) :
    wpAny (model prog w) A (Builtin.Slice.sliceApplied (.ref sl) (pure (2 : Int))) Q E s := by
  obtain ⟨os, hos, hcs, hds⟩ := id hs
  unfold Builtin.Slice.sliceApplied Builtin.Slice.sliceFields
  refine wpAny_bind (wpAny_bind (wpAny_field hos hds (x := .none) rfl ?_))
  refine wpAny_bind (wpAny_field hos hds (x := .none) rfl ?_)
  refine wpAny_bind (wpAny_field hos hds (x := vk) rfl (wpAny_pure ?_))
  refine wpAny_bind (HT.slicePart_ pk ?_)
  show wpAny _ _ (if ((-1 : Int) == 0) = true then _ else _) _ _ s
  rw [if_neg (by decide)]
  refine wpAny_bind (HT.slicePart_ .none (wpAny_bind (HT.slicePart_ .none (wpAny_bind (wpAny_pure ?_)))))
  exact wpAny_pure h
theorem item_rev2 {t sl : Addr} {u v vk : Value} {Q : Value → Shared → Prop} (ht : IsTup s.heap t #[u, v]) (hs : s.heap.IsSliceOf sl .none .none vk) (pk : IsPart vk (some (-1)))
    (h : Q (.ref s.heap.objs.size) { s with heap := s.heap.push { cls := .type "tuple", data := .seq #[v, u] } }) : wpAny (model prog w) A (getItem (.ref t) (.ref sl)) Q E s := by
  obtain ⟨os, hos, hcs, hds⟩ := id hs
  have hTs : s.TypeIs (.ref sl) "slice" := ⟨os, hos, hcs⟩
  unfold getItem
  try with_reducible refine wpAny_holding ?_
  first | refine wpAny_bind (wpAny_pure ?_) | skip
  refine wpAny_bind (wpAny_sequenceKey ht.typeIs (by decide) ?_)
  refine wpAny_bind (wpAny_callSpecial?_slot (name := Str.ofString "__getitem__") ht.typeIs PyProof.Rows.slot_tuple_getitem (wpAny_call_entry PyProof.Rows.slot_tuple_getitem ht.typeIs entry_tuple_getitem ?_ (args_tuple_getitem _ _)))
  show wpAny _ _ (Builtin.Tuple.tupleItemsOf (.ref t) >>= _) _ _ s
  refine wpAny_bind (tupleItemsOf_ ht ?_)
  refine wpAny_bind (wpAny_typeOf hTs ?_)
  rw [if_pos (by decide)]
  refine wpAny_bind (applied_rev2 hs pk ?_)
  show wpAny _ _ (if ((1 : Int) == 0 && (-1 : Int) == 1 && (2 : Nat) == 2) = true then _ else _) _ _ s
  rw [if_neg (by decide)]
  have e : ((List.range 2).filterMap fun (k : Nat) => (#[u, v] : Array Value)[((1 : Int) + (k : Int) * -1).toNat]?).toArray = #[v, u] := rfl
  rw [e]
  have hz : sizeOk (.seq (#[v, u] : Array Value)) := by show 2 ≤ sizeLine; decide
  first
    | exact wpAny_bind (m := Builtin.Tuple.tupleExact _) (wpAny_newObj_type (wpAny_pure ⟨_, rfl, wpAny_pure h⟩) hz)
    | exact wpAny_bind (wpAny_bind (m := Builtin.Tuple.tupleExact _) (wpAny_newObj_type (wpAny_pure (wpAny_pure ⟨_, rfl, wpAny_pure h⟩)) hz))
    | exact wpAny_bind (wpAny_bind (m := Builtin.Tuple.tupleExact _) (wpAny_newObj_type (wpAny_pure ⟨_, rfl, wpAny_pure h⟩) hz))
    | exact wpAny_bind (m := Builtin.Tuple.tupleExact _) (wpAny_newObj_type (wpAny_bind (wpAny_pure (wpAny_pure ⟨_, rfl, wpAny_pure h⟩))) hz)
end
def tRev2 (K : PySem.W.Frag) (te : TE) : TE := fun σ H Q => te σ H fun x H1 => ∃ a y z, x = .ref a ∧ SqT K H1 a [y, z] ∧ ∀ p, H1 p = none → Q (.ref p) (upd H1 p (.tup [z, y]))
theorem pe_rev2 {X : Cx} {e : Expr} {te : TE} {k : Nat} {p1 p2 p3 pos : Pos} (he : PE X e te) : PE X (.Subscript e (.Slice none none (some (.UnaryOp .USub (.Constant (.int 1) k p1) p2)) p3) pos) (tRev2 X.K te) := by
  constructor
  intro pins s σ H Q I h
  refine Subscript_ (thn (he.run pins s σ H _ I h) fun v s1 r => ?_)
  obtain ⟨x, H1, I1, r1, a, y, z, ex, hx, q⟩ := r
  subst ex
  cases r1
  have hst : PO X (some (.UnaryOp .USub (.Constant (.int 1) k p1) p2)) (tPart (tUn (rU fun i => .int (-i)) (tC (.int 1)))) := po_some (pe_un un_neg pe_int)
  refine wpAny_Slice (thn (po_none.run pins s1 σ H1 (fun o H2 => o = none ∧ H2 = H1) I1 ⟨rfl, rfl⟩) fun vl s2 ⟨l, H2, I2, pl, el, e2⟩ => ?_)
  subst el e2
  refine thn (po_none.run pins s2 σ H2 (fun o H3 => o = none ∧ H3 = H2) I2 ⟨rfl, rfl⟩) fun vu s3 ⟨u, H3, I3, pu, eu, e3⟩ => ?_
  subst eu e3
  refine thn (hst.run pins s3 σ H3 (fun o H4 => o = some (-1) ∧ H4 = H3) I3 ⟨1, rfl, -1, rfl, rfl, rfl⟩) fun vs s4 ⟨o, H4, I4, ps, eo, e4⟩ => ?_
  subst eo e4
  cases pl
  cases pu
  have I5 : Inv X pins σ H4 { s4 with heap := s4.heap.push { cls := .type "slice", data := .fields #[.none, .none, vs] } } := I4.kept (t' := s4.toks) fun b ob q => Heap.get?_push_of_some _ q
  obtain ⟨its, r, ht, hz⟩ := I5.tuple hx
  obtain ⟨w1, w2, ei, r1, r2⟩ := vals2 r
  subst ei
  show wpAny (model X.prog X.w) X.A (subscriptTail e (.Slice none none (some (.UnaryOp .USub (.Constant (.int 1) k p1) p2)) p3) (.ref a) (.ref s4.heap.objs.size)) (EP X pins σ Q) X.xe _
  refine tail_any (ops := [.ref a, .ref s4.heap.objs.size]) ht.typeIs PyProof.Rows.slot_tuple_getitem.lookup ?_ (by with_unfolding_all rfl)
  refine item_rev2 ht (Heap.IsSliceOf.new _ .none .none vs) ps ?_
  refine ⟨.ref _, _, I5.laid (t' := s4.toks) (o := .tup [z, y]) (fun b ob q => Heap.get?_push_of_some _ q) (Nat.le_refl _) ?_, rfl, q _ (I5.hok.fresh (Nat.le_refl _))⟩
  exact ⟨by show 2 ≤ sizeLine; decide, [w2, w1], .cons r2 (.cons r1 .nil), IsTup.new _ _⟩
end Pc
namespace Pc
open PySem PySem.Spec PyProof.Rows L2 RZ
/-! ### defs that run where no repr is under way (repr asks for that) -/
structure FnG (P : Program) (w : World) (K : PySem.W.Frag) (mg : Str → Option Value) (base : Heap) (CX : CXT) (k : Nat) (f : Addr) (fd : FuncData) (ps : List Str) (sp : Sp) : Prop where
  len : ∀ vs H Q E, sp vs H Q E → vs.length = ps.length
  run : ∀ (A : Around) (outer : List PySem.Env) (s : Shared) (H : Hp) (args : Args) (us : List Value) (vs : List V) (Q : VK) (E : XK), Room k A → A.guards = some [] → Env0 P w K mg base A outer s H →
    BindsTo s fd args (ps.zip us) → Vals vs us → sp vs H Q E → codeAny (model P w) A (.call (.ref f) args) (CR CX outer P w H s Q E) s
section
variable {P : Program} {w : World} {K : PySem.W.Frag} {mg : Str → Option Value} {base : Heap}
theorem fun_g {x qual : Str} {st : Stmt} {f : Addr} {fd : FuncData} {N ps : List Str} {k : Nat} {sp : Sp} (F : Fun K x qual st f fd) (S : FnScope N ps (defScope st)) (len : ∀ vs H Q E, sp vs H Q E → vs.length = ps.length)
    (hbody : ∀ (cdv : Value) (A : Around) (outer : List PySem.Env) (s : Shared) (H : Hp) (vs : List V) (Q : VK) (E : XK), Room k (A.deeper (envOfC qual (defScope st) s.heap.objs.size f cdv)) → A.guards = some [] → sp vs H Q E →
      ∃ t, PSs (cxOf CX0 P w K mg base N qual (defScope st) f cdv A outer s H E).nox (defBody st) t ∧ t { nx := fun _ H' => Q .non H', rt := Q } (start N vs) H) : FnG P w K mg base CX0 (k + 1) f fd ps sp := by
  obtain ⟨oc, od, kV, doc, pm, an, cdv, ct, osl, rfl, lk, hcd⟩ := F.ex
  constructor
  · exact len
  intro A outer s H args us vs Q E hr hgd e0 hb r hsp
  have hl := len _ _ _ _ hsp
  have up : ∀ b o, base.get? b = some o → s.heap.get? b = some o := fun b o e => (e0.bs b o e).1
  have KX : K.In s.heap := e0.mod.kin.keeps up
  have lim : s.heap.NoLimit := e0.mod.nolimit.keeps up
  obtain ⟨t, ht, hq⟩ := hbody cdv A outer s H vs Q E (hr.deeper _) hgd hsp
  refine codeAny_call_function hr.depth (KX _ _ lk) rfl S.co S.gen rfl (PySem.W.codeRec_of KX hcd) (hb _ _ _ _ ?_)
  refine wpAny_newFunctionEnv_cells S.kind ?_ ?_
  · rintro ⟨n, v⟩ hy
    rcases S.par n (List.of_mem_zip hy).1 with z | z
    · exact Or.inl z
    · exact Or.inr ⟨z, PySem.W.cellsFrom_some _ _ _ (Or.inl z)⟩
  intro env he s1 x
  subst he
  refine ⟨lim.keeps x.toInCall.keep, codeAny_func ?_⟩
  have I := inv_start (CX := CX0) (E := E) S hr.hd e0 hl r x
  refine wpAny_mono (ht.nox.run [] s1 (start N vs) H _ I hq) ?_ (fun _ _ z => z)
  intro fl s' hs
  cases fl with
  | brk => obtain ⟨_, _, _, z⟩ := hs; exact z.elim
  | cont => obtain ⟨_, _, _, z⟩ := hs; exact z.elim
  | next =>
    obtain ⟨σ', H', J, z⟩ := hs
    exact ⟨V.non, H', J.os, J.bare, J.base, J.hok, rfl, z⟩
  | ret u =>
    obtain ⟨v, σ', H', J, rv, z⟩ := hs
    exact ⟨v, H', J.os, J.bare, J.base, J.hok, rv, z⟩
end
section
variable {X : Cx} {CX : CXT} {k : Nat} {f : Addr} {fd : FuncData} {ps : List Str} {sp : Sp} {x : Str} {e : Expr} {es : List Expr} {ds : List Value} {dvs : List V} {E : XK} {t : TA} {p pos : Pos}
theorem pe_callG (F : FnG X.prog X.w X.K X.mg X.base CX k f fd ps sp) (hr : Room k X.A) (hgd : X.A.guards = some []) (hg : Gl X x) (hm : X.mg x = some (.ref f)) (hk : PySem.W.keepIn X.K (.ref f) = true) (hb : Binds X.K fd ps ds) (hd : Vals dvs ds) (hx : Passes CX X E)
    (ha : PA X (e :: es) t) (hdb : (x == ("__debug__" : Str)) = false := by decide) (he : starEach (e :: es) X.env = (false, eval e X.env) :: starEach es X.env := by rfl) (hpl : (backTo pos (starEach es X.env)).any (·.1) = false := by rfl) :
    PE X (.Call (.Name x p) (e :: es) [] pos) (tCall sp dvs E t) := by
  constructor
  intro pins s σ H Q I h
  refine wpAny_Call_Name_kw (ld_glob I hg hm ?_ hdb)
  refine PySem.W.callWith_K (h₀ := X.base) I.ok.mod.kin hk (thn (ha.run pos pins s σ H _ I h) ?_) he hpl
  rintro us s1 ⟨vs, H1, I1, r, q⟩
  refine ⟨I1.kIn, ?_⟩
  have r2 : Vals (vs ++ dvs) (us ++ ds) := r.append hd
  have hl : (us ++ ds).length = ps.length := by
    rw [← r2.length]
    exact F.len _ _ _ _ q
  refine wpAny_call (codeAny_mono (F.run X.A X.stack s1 H1 ⟨us, []⟩ (us ++ ds) (vs ++ dvs) Q E hr hgd I1.env0 (hb s1 us I1.kIn hl) r2 q) ?_)
  intro res s' hq
  cases res with
  | error e => exact hx pins σ H1 s1 e s' I1 hq
  | ok fl =>
    cases fl with
    | ret u => exact I1.after hq
    | next => exact hq.elim
    | brk => exact hq.elim
    | cont => exact hq.elim
end
/-! ### the law's own call, where no repr is under way -/
theorem law_g {P : Program} {w : World} {K : PySem.W.Frag} {mg mb : Str → Option Value} {CX : CXT} {k : Nat} {fa a : Addr} {fd : FuncData} {x : Str} {sp : Sp} {s₁ : Shared} {vs : List Value} {ns : List Int}
    (KX : K.In s₁.heap) (hns : s₁.heap.Ns mainGlobals mg) (hb : s₁.heap.Ns builtinsNs mb) (hbb : ∀ x : Str, x ≠ "__name__" → mb x = bootBuiltins x) (hlim : s₁.heap.NoLimit) (hg : s₁.gens = #[])
    (ha : s₁.heap.get? a = some { cls := .type "list", data := .seq vs.toArray }) (hi : IntsAre vs ns) (hl : ns.length ≤ sizeLine) (hr : Room k callerA)
    (F : ∀ base : Heap, K.In base → base.Ns mainGlobals mg → FnG P w K mg base CX k fa fd [x] sp) (hbind : ∀ (s : Shared) (u : Value), BindsTo s fd ⟨[u], []⟩ [(x, u)])
    (hsp : ∀ H : Hp, SqL K H a (ns.map V.int) → sp [.ref a] H (fun v _ => v = .bl true) fun _ _ _ => False)
    (hCX : ∀ H e s', CX [] H s₁ (fun _ _ _ => False) e s' → False) :
    codeAny (model P w) callerA (.call (.ref fa) ⟨[.ref a], []⟩) (fun r s' => r = .ok (.ret (.bool true)) ∧ OldK s₁.heap s'.heap ∧ s'.os = s₁.os ∧ AllBare s'.gens) s₁ := by
  have rv := vals_ints hi
  have len0 := hi.length
  let lo : Obj := { cls := .type "list", data := .seq vs.toArray }
  have main : ∀ H : Hp, SqL K H a (ns.map V.int) → HOk P w H s₁.heap → (∀ b u, H b = some u → b = a ∧ u = .frz lo (.lst (ns.map V.int)) ∧ K.lookup a = none) →
      codeAny (model P w) callerA (.call (.ref fa) ⟨[.ref a], []⟩) (fun r s' => r = .ok (.ret (.bool true)) ∧ OldK s₁.heap s'.heap ∧ s'.os = s₁.os ∧ AllBare s'.gens) s₁ := by
    intro H hS hok hA
    have free : ∀ {b : Addr} {o : Obj}, s₁.heap.get? b = some o → (∀ n, o.data ≠ .seq vs.toArray n) → H b = none := by
      intro b o e d
      cases z : H b with
      | none => rfl
      | some u =>
        obtain ⟨rfl, _⟩ := hA b u z
        rw [ha] at e
        cases e
        exact absurd rfl (d _)
    have nsK : ∀ {b : Addr} {m : Str → Option Value}, s₁.heap.Ns b m → (hidT s₁.heap H).Ns b m := by
      rintro b m ⟨o, es, ep, e, d, r⟩
      exact ⟨o, es, ep, hidT_get e (free e fun n => by rw [d]; exact fun z => nomatch z), d, r⟩
    have hKb : K.In (hidT s₁.heap H) := by
      intro b o e
      refine hidT_get (KX b o e) ?_
      cases z : H b with
      | none => rfl
      | some u =>
        obtain ⟨rfl, _, hn⟩ := hA b u z
        rw [hn] at e
        cases e
    obtain ⟨mc, l1, l2⟩ := hlim
    have e0 : Env0 P w K mg (hidT s₁.heap H) callerA [] s₁ H :=
      { frames := rfl, mod := ⟨hKb, nsK hns, ⟨mb, nsK hb, hbb⟩, ⟨mc, nsK l1, l2⟩⟩, bs := fun b o e => of_hidT e, bsz := Nat.le_of_eq (hidT_size _ _), funs := trivial, frf := fun b hb => absurd (show b ∈ ([] : List Addr) from hb) (by simp), hok := hok, bare := .of_eq hg }
    have R := (F _ hKb (nsK hns)).run callerA [] s₁ H ⟨[.ref a], []⟩ [.ref a] [.ref a] _ _ hr rfl e0 (hbind s₁ (.ref a)) (.cons rfl .nil) (hsp H hS)
    refine codeAny_mono R ?_
    intro res s' h
    cases res with
    | error e => exact (hCX H e s' h).elim
    | ok fl =>
      cases fl with
      | next => exact h.elim
      | brk => exact h.elim
      | cont => exact h.elim
      | ret u =>
        obtain ⟨v, H', os, bare, un, hok', r', q⟩ := h
        have q' : v = .bl true := q
        subst q'
        obtain rfl : u = Value.bool true := r'
        refine ⟨rfl, OldK.of_keep ?_, os, bare⟩
        intro b o e
        cases z : H b with
        | none => exact un.keep b o e z (fun y => absurd (show b ∈ ([] : List Addr) from y) (by simp)) (by simp)
        | some u =>
          obtain ⟨rfl, rfl, _⟩ := hA b u z
          obtain ⟨g1, _⟩ := hok _ _ z
          obtain ⟨g2, _⟩ := hok' _ _ (un.frzs _ lo _ z)
          rw [e] at g1
          cases g1
          exact g2
  cases hk : K.lookup a with
  | some o =>
    have e := KX a o hk
    rw [ha] at e
    cases e
    refine main (fun _ => none) ?_ (fun b u z => nomatch z) (fun b u z => nomatch z)
    exact Or.inr ⟨_, vs.toArray, _, hk, rfl, rfl, rfl, by rw [List.size_toArray, len0]; exact hl, by simpa using rv⟩
  | none =>
    have sp1 : ∀ b u, (upd (fun _ => none) a (.frz lo (.lst (ns.map V.int)))) b = some u → b = a ∧ u = .frz lo (.lst (ns.map V.int)) ∧ K.lookup a = none := by
      intro b u z
      by_cases hba : b = a
      · subst hba
        rw [upd_same] at z
        exact ⟨rfl, (Option.some.inj z).symm, hk⟩
      · rw [upd_ne hba] at z
        cases z
    refine main (upd (fun _ => none) a (.frz lo (.lst (ns.map V.int)))) (Or.inl (Or.inr ⟨lo, upd_same⟩)) ?_ sp1
    intro b u z
    obtain ⟨rfl, rfl, _⟩ := sp1 b u z
    exact ⟨ha, by rw [List.length_map]; exact hl, vs, _, rv, ha⟩
theorem walk_g {l : PySem.W.OpenLaw} {n k : Nat} {q : Program} {loose : List Str} {XP : (Str → Option Value) → Heap → Prop} {YP : World → Heap → Prop} {d : DefRec} {K : Params → PySem.W.Frag} {sp : World → Sp} {x : Str}
    (hn : l.most = some n) (hn2 : n ≤ sizeLine) (hdf : d.params.defaults = []) (hr : Room k callerA) (hY : ∀ (w : World) (h : Heap), YP w h → (K w.params).In h)
    (F : ∀ (w : World) (mg : Str → Option Value) (fa : Addr) (h : Heap), (K w.params).In h → h.Ns mainGlobals mg → mg d.name = some (.ref fa) →
      ∃ fd : FuncData, (∀ (s : Shared) (u : Value), BindsTo s fd ⟨[u], []⟩ [(x, u)]) ∧ ∀ base : Heap, (K w.params).In base → base.Ns mainGlobals mg → FnG l.prog w (K w.params) mg base CX0 k fa fd [x] (sp w))
    (hsp : ∀ (w : World) (H : Hp) (a : Addr) (ns : List Int), ns.length ≤ n → SqL (K w.params) H a (ns.map V.int) → sp w [.ref a] H (fun v _ => v = .bl true) fun _ _ _ => False) :
    PySem.W.WalkO q loose XP YP l.row.toRowW d [] (fun f vs => PySem.call f vs) := by
  refine Att.attach_call hn hdf ?_
  intro w s₀ s₁ mg mb fa o pm cd doc a vs ns G Y ho hd hcd hmg hobj hints hlen hg
  obtain ⟨fd, hb, hF⟩ := F w mg fa _ (hY w _ Y) G.T.g hmg
  exact law_g (hY w _ Y) G.T.g G.T.b G.T.builtins G.T.nolimit hg hobj hints (Nat.le_trans hlen hn2) hr hF hb (fun H hS => hsp w H a ns hlen hS) fun _ _ _ z => z
/-! ### repr of data -/
theorem call_reprD {X : Cx} (hgd : X.A.guards = some []) (hu : X.A.units + 64 < cLine) : CallR X (.builtin "repr") (fun xs H Q => ∃ (a : Addr) (d : PyData), xs = [.ref a] ∧ Dp X.K H (.ref a) d ∧ d.canLay0 = true ∧ d.showable = true ∧ d.depth ≤ 60 ∧ d.shown.length ≤ sizeLine ∧ Q (.str d.shown) H) := by
  intro pins s σ H xs us Q I r h
  obtain ⟨a, d, rfl, hd, hl, hs, hdp, hz, q⟩ := h
  obtain ⟨u, rfl, ru⟩ := vals1 r
  cases ru
  obtain ⟨as, rd⟩ := Dp.reads I d (.ref a) (.ref a) hd rfl
  refine repr_of_reads' rd hs (PyData.noDict_hsm (PyData.hasDict_of_canLay d hl)) hgd (by omega) (fun _ _ e => e) ?_ hz
  intro h' u tk hk
  exact ⟨.str d.shown, H, I.kept (t' := tk) hk, ⟨u, rfl⟩, q⟩
end Pc
namespace Pc
open PySem PySem.Spec PyProof.Rows L2 RZ
/-! ### data of small size: its depth is at most k, its text has at most m signs -/
structure Fine (k m : Nat) (d : PyData) : Prop where
  lay : d.canLay0 = true
  show_ : d.showable = true
  depth : d.depth ≤ k
  nar : narrow d
  len : d.shown.length ≤ m
theorem Fine.mono {k m k' m' : Nat} {d : PyData} (h : Fine k m d) (hk : k ≤ k') (hm : m ≤ m') : Fine k' m' d := ⟨h.lay, h.show_, Nat.le_trans h.depth hk, h.nar, Nat.le_trans h.len hm⟩
theorem Fine.shaped {k m : Nat} {d : PyData} (h : Fine k m d) (hk : k ≤ 64) : SeqAt.shaped d = true := by
  unfold SeqAt.shaped
  rw [Bool.and_eq_true]
  exact ⟨h.lay, decide_eq_true (Nat.le_trans h.depth hk)⟩
theorem str_len (t : String) : (Str.ofString t).length = t.length := by
  rw [Str.ofString_eq_toList]
  show (t.toList.map Char.toNat).toArray.size = t.length
  rw [List.size_toArray, List.length_map, String.length_toList]
theorem log_lt {i : Int} {k : Nat} (h : i.natAbs < 2 ^ k) (hk : 0 < k) : i.natAbs.log2 < k := by
  by_cases h0 : i.natAbs = 0
  · rw [h0]; exact hk
  · exact (Nat.log2_lt h0).mpr h
theorem fine_int {i : Int} (h : i.natAbs < 2 ^ 60) : Fine 0 61 (.int i) := by
  have hl := log_lt h (by decide)
  refine ⟨rfl, decide_eq_true (Nat.lt_of_lt_of_le hl (by decide)), Nat.le_refl _, trivial, ?_⟩
  show (Str.ofString (toString i)).length ≤ 61
  rw [str_len]
  exact int_text_length_le (by decide) hl
theorem fine_nat {i : Nat} (h : i < 2 ^ 60) : Fine 0 61 (.int (i : Int)) := fine_int (by rw [Int.natAbs_natCast]; exact h)
theorem all_lay {ds : List PyData} (h : ∀ d ∈ ds, d.canLay0 = true) : PyData.canLayAll0 ds = true := by
  induction ds with
  | nil => rfl
  | cons d r ih =>
    show (d.canLay0 && PyData.canLayAll0 r) = true
    rw [h d List.mem_cons_self, ih fun x hx => h x (List.mem_cons_of_mem _ hx)]; rfl
theorem all_showable {ds : List PyData} (h : ∀ d ∈ ds, d.showable = true) : PyData.showableAll ds = true := by
  induction ds with
  | nil => rfl
  | cons d r ih =>
    show (d.showable && PyData.showableAll r) = true
    rw [h d List.mem_cons_self, ih fun x hx => h x (List.mem_cons_of_mem _ hx)]; rfl
theorem all_depth {ds : List PyData} {k : Nat} (h : ∀ d ∈ ds, d.depth ≤ k) : PyData.depthAll ds ≤ k := by
  induction ds with
  | nil => exact Nat.zero_le _
  | cons d r ih => exact Nat.max_le.mpr ⟨h d List.mem_cons_self, ih fun x hx => h x (List.mem_cons_of_mem _ hx)⟩
theorem all_shown {ds : List PyData} {m : Nat} (h : ∀ d ∈ ds, d.shown.length ≤ m) : ((PyData.shownAll ds).map (·.length)).sum ≤ ds.length * m ∧ (PyData.shownAll ds).length = ds.length := by
  induction ds with
  | nil => exact ⟨Nat.zero_le _, rfl⟩
  | cons d r ih =>
    obtain ⟨h1, h2⟩ := ih fun x hx => h x (List.mem_cons_of_mem _ hx)
    have h3 := h d List.mem_cons_self
    refine ⟨?_, congrArg (· + 1) h2⟩
    show ((d.shown :: PyData.shownAll r).map (·.length)).sum ≤ (r.length + 1) * m
    rw [List.map_cons, List.sum_cons, Nat.add_mul, Nat.one_mul]
    omega
theorem fine_list {ds : List PyData} {k m n : Nat} (h : ∀ d ∈ ds, Fine k m d) (hn : ds.length ≤ n) (hb : n ≤ 100000) : Fine (k + 1) (n * (m + 2) + 3) (.list ds) := by
  refine ⟨all_lay fun d hd => (h d hd).lay, all_showable fun d hd => (h d hd).show_, Nat.succ_le_succ (all_depth fun d hd => (h d hd).depth), ⟨Nat.le_trans hn hb, narrow_of fun d hd => (h d hd).nar⟩, ?_⟩
  obtain ⟨h1, h2⟩ := all_shown fun d hd => (h d hd).len
  have h3 := listText_len_le (PyData.shownAll ds)
  have h4 : ds.length * m ≤ n * m := Nat.mul_le_mul_right _ hn
  show (listText (PyData.shownAll ds)).length ≤ _
  rw [Nat.mul_add]
  omega
theorem fine_tuple {ds : List PyData} {k m n : Nat} (h : ∀ d ∈ ds, Fine k m d) (hn : ds.length ≤ n) (hb : n ≤ 100000) : Fine (k + 1) (n * (m + 2) + 3) (.tuple ds) := by
  refine ⟨all_lay fun d hd => (h d hd).lay, all_showable fun d hd => (h d hd).show_, Nat.succ_le_succ (all_depth fun d hd => (h d hd).depth), ⟨Nat.le_trans hn hb, narrow_of fun d hd => (h d hd).nar⟩, ?_⟩
  obtain ⟨h1, h2⟩ := all_shown fun d hd => (h d hd).len
  have h3 := tupleText_len_le (PyData.shownAll ds)
  have h4 : ds.length * m ≤ n * m := Nat.mul_le_mul_right _ hn
  show (tupleText (PyData.shownAll ds)).length ≤ _
  rw [Nat.mul_add]
  omega
/-- numbers as data -/
def nd (l : List Nat) : List PyData := l.map fun (i : Nat) => PyData.int (i : Int)
theorem nd_length (l : List Nat) : (nd l).length = l.length := List.length_map _
theorem dp_nats {K : PySem.W.Frag} {H : Hp} : ∀ l : List Nat, DpAll K H (nv l) (nd l)
  | [] => .nil
  | i :: r => .cons (.int i) (dp_nats r)
theorem fine_nd {l : List Nat} (h : ∀ i ∈ l, i < 2 ^ 60) : ∀ d ∈ nd l, Fine 0 61 d := fun d hd => by
  obtain ⟨i, hi, rfl⟩ := List.mem_map.mp hd
  exact fine_nat (h i hi)
/-- a tuple of numbers -/
theorem fine_tup {l : List Nat} {n : Nat} (h : ∀ i ∈ l, i < 2 ^ 60) (hn : l.length ≤ n) (hb : n ≤ 100000) : Fine 1 (n * 63 + 3) (.tuple (nd l)) := fine_tuple (fine_nd h) (by rw [nd_length]; exact hn) hb
/-! ### lists of pairs of numbers -/
/-- at the places as stand the pairs ps -/
def Prs (H : Hp) (as : List Addr) (ps : List (Nat × Nat)) : Prop := Paired (fun a (p : Nat × Nat) => H a = some (.tup [.int p.1, .int p.2])) as ps
theorem Prs.length {H : Hp} {as : List Addr} {ps : List (Nat × Nat)} (h : Prs H as ps) : as.length = ps.length := Paired.length h
theorem prs_same {H H' : Hp} (e : Same H H') : ∀ {as : List Addr} {ps : List (Nat × Nat)}, Prs H as ps → Prs H' as ps
  | _, _, .nil => .nil
  | _, _, .cons h r => .cons (e _ _ h) (prs_same e r)
theorem prs_keep {b : Addr} {H H' : Hp} {ys : List V} (k : Keep b H H') (hb : H b = some (.lst ys)) : ∀ {as : List Addr} {ps : List (Nat × Nat)}, Prs H as ps → Prs H' as ps
  | _, _, .nil => .nil
  | _, _, .cons h r => .cons (k.tup hb h) (prs_keep k hb r)
theorem prs_get {H : Hp} : ∀ {as : List Addr} {ps : List (Nat × Nat)} {i : Nat} {a : Addr}, Prs H as ps → as[i]? = some a → ∃ p, ps[i]? = some p ∧ H a = some (.tup [.int p.1, .int p.2])
  | _, _, _, _, .nil, h => by simp at h
  | _, _, 0, _, .cons (b := p) h _, e => by
    cases Option.some.inj e
    exact ⟨p, rfl, h⟩
  | _, _, i + 1, a, .cons _ r, e => prs_get (i := i) r e
theorem prs_append {H : Hp} : ∀ {as bs : List Addr} {ps qs : List (Nat × Nat)}, Prs H as ps → Prs H bs qs → Prs H (as ++ bs) (ps ++ qs)
  | _, _, _, _, .nil, s => s
  | _, _, _, _, .cons h r, s => .cons h (prs_append r s)
def pd (p : Nat × Nat) : PyData := .tuple [.int (p.1 : Int), .int (p.2 : Int)]
theorem prs_dp {K : PySem.W.Frag} {H : Hp} : ∀ {as : List Addr} {ps : List (Nat × Nat)}, Prs H as ps → DpAll K H (as.map V.ref) (ps.map pd)
  | _, _, .nil => .nil
  | _, _, .cons h r => .cons (.tup (.inl (.inl h)) (.cons (.int _) (.cons (.int _) .nil))) (prs_dp r)
theorem fine_pd {p : Nat × Nat} (h1 : p.1 < 2 ^ 60) (h2 : p.2 < 2 ^ 60) : Fine 1 129 (pd p) := fine_tuple (n := 2) (fun d hd => by
  rcases List.mem_cons.mp hd with z | z
  · rw [z]; exact fine_nat h1
  · rw [List.mem_singleton.mp z]; exact fine_nat h2) (Nat.le_refl _) (by decide)
/-- a list of pairs -/
theorem fine_pds {ps : List (Nat × Nat)} {n : Nat} (h : ∀ p ∈ ps, p.1 < 2 ^ 60 ∧ p.2 < 2 ^ 60) (hn : ps.length ≤ n) (hb : n ≤ 100000) : Fine 2 (n * 131 + 3) (.list (ps.map pd)) :=
  fine_list (fun d hd => by
    obtain ⟨p, hp, rfl⟩ := List.mem_map.mp hd
    exact fine_pd (h p hp).1 (h p hp).2) (by rw [List.length_map]; exact hn) hb
end Pc
namespace Pc
open PySem PySem.Spec PyProof.Rows L2 RZ
/-! ### a list or a tuple: walked, unpacked -/
/-- a list or a tuple is read -/
def Sq (K : PySem.W.Frag) (H : Hp) (a : Addr) (xs : List V) : Prop := SqL K H a xs ∨ SqT K H a xs
theorem Sq.same {K : PySem.W.Frag} {H H' : Hp} {a : Addr} {xs : List V} (h : Sq K H a xs) (e : Same H H') : Sq K H' a xs := h.imp (fun z => e.seq z) (fun z => same_tup e z)
def iSeq (K : PySem.W.Frag) (tl : TE) : TI := fun σ H R => tl σ H fun x H1 => ∃ a, x = .ref a ∧ (((∃ xs, SqL K H1 a xs) ∧ R (Itl K a) H1) ∨ ((∃ xs, SqT K H1 a xs) ∧ R (Itt K a) H1))
section
variable {X : Cx}
theorem pi_seq {tg l : Expr} {tl : TE} (hl : PE X l tl) : PI X tg l (iSeq X.K tl) := by
  constructor
  intro pins s σ H R I h
  refine thn (hl.run pins s σ H _ I h) ?_
  rintro v s1 ⟨x, H1, I1, r1, a, ex, q⟩
  subst ex
  cases r1
  rcases q with ⟨⟨xs, hx⟩, q⟩ | ⟨⟨xs, hx⟩, q⟩
  · obtain ⟨its, _, p, _⟩ := I1.list hx
    refine wpAny_pyIter_list p.isList ?_
    exact pi_one (tk := s1.toks) I1 _ (turn_list _ _) ⟨_, Heap.get?_push_size _ rfl, rfl, rfl⟩ q
  · obtain ⟨its, _, p, _⟩ := I1.tuple hx
    refine wpAny_pyIter_tuple p ?_
    exact pi_one (tk := s1.toks) I1 _ (turn_tuple _ _) ⟨_, Heap.get?_push_size _ rfl, rfl, rfl⟩ q
/-- names unpacked from a tuple or a list -/
def gSeq (K : PySem.W.Frag) (n : Nat) (t : TGs) : TG := fun v σ H Q => ∃ a xs, v = .ref a ∧ Sq K H a xs ∧ xs.length = n ∧ t xs σ H Q
theorem pg_seq {es : List Expr} {k : Nat} {t : TGs} {n : Nat} {pos : Pos} (hc : X.calm = true) (h : PGs X es t)
    (hn : (assignEach es X.env).length = n := by rfl) (hst : (assignEach es X.env).findIdx? (·.1) = none := by rfl) : PG X (.Tuple es k pos) (gSeq X.K n t) := by
  constructor
  intro pins s σ H v u Q I r hw
  obtain ⟨a, xs, e, hq, hl, hw⟩ := hw
  rcases hq with hq | hq
  · exact (pg_unl (pos := pos) (k := k) hc h hn hst).run pins s σ H v u Q I r ⟨a, xs, e, hq, hl, hw⟩
  · exact (pg_tup (pos := pos) (k := k) hc h hn hst).run pins s σ H v u Q I r ⟨a, xs, e, hq, hl, hw⟩
/-! ### a call with keywords alone -/
def tKw (n : Nat) (sp : Sp) (gV : List V → List V) (E : XK) (tk : TA) : TE := fun σ H Q => tk σ H fun zs H1 => zs.length = n ∧ sp (gV zs) H1 Q E
theorem pe_kw {CX : CXT} {k : Nat} {f : Addr} {fd : FuncData} {ps ks : List Str} {sp : Sp} {E : XK} {x : Str} {p pos : Pos} {kws : List Keyword} {tk : TA} {g : List Value → List Value} {gV : List V → List V}
    (F : FnOk X.prog X.w X.K X.mg X.base CX k f fd ps sp) (hr : Room k X.A) (hg : Gl X x) (hm : X.mg x = some (.ref f)) (hk : PySem.W.keepIn X.K (.ref f) = true)
    (hb : ∀ (s : Shared) (ws : List Value), ws.length = ks.length → BindsTo s fd ⟨[], ks.zip ws⟩ (ps.zip (g ws))) (rel : ∀ {zs : List V} {ws : List Value}, zs.length = ks.length → Vals zs ws → Vals (gV zs) (g ws)) (hx : Passes CX X E) (hkw : PK X kws tk)
    (hall : (backToKw pos (keywordEach kws X.env)).all (·.1.isSome) = true := by rfl) (hks : (backToKw pos (keywordEach kws X.env)).filterMap (·.1) = ks := by rfl) (hdb : (x == ("__debug__" : Str)) = false := by decide)
    (hpl : ((backTo pos (starEach [] X.env)).any (·.1) || (backToKw pos (keywordEach kws X.env)).any (·.1.isNone)) = false := by rfl) :
    PE X (.Call (.Name x p) [] kws pos) (tKw ks.length sp gV E tk) := by
  constructor
  intro pins s σ H Q I h
  refine wpAny_Call_Name_kw (ld_glob I hg hm ?_ hdb)
  refine PySem.W.callWith_KW0 (h₀ := X.base) I.ok.mod.kin hk hall (thn (hkw.run pos pins s σ H _ I h) ?_) hpl
  rintro ws s2 ⟨zs, H2, I2, rz, hz, q⟩
  refine ⟨I2.kIn, ?_⟩
  rw [hks]
  refine wpAny_call (codeAny_mono (F.run X.A X.stack s2 H2 ⟨[], ks.zip ws⟩ (g ws) (gV zs) Q E hr I2.env0 (hb s2 ws (by rw [← rz.length, hz])) (rel hz rz) q) ?_)
  intro res s' hq
  cases res with
  | error e => exact hx pins σ H2 s2 e s' I2 hq
  | ok fl =>
    cases fl with
    | ret u => exact I2.after hq
    | next => exact hq.elim
    | brk => exact hq.elim
    | cont => exact hq.elim
end
theorem kw_to {K : PySem.W.Frag} {x qual : Str} {st : Stmt} {f : Addr} {fd : FuncData} {ps ks : List Str} {g : List Value → List Value} (F : Fun K x qual st f fd)
    (h : ∀ (kV doc pm : Value) (an : Option Addr) (cdv ct : Value) (ws : List Value), ws.length = ks.length → bindArgs (PySem.W.fnOf x qual (defArgs st) (defBody st) (defScope st) .none kV doc pm an cdv ct) ⟨[], ks.zip ws⟩ = pure (ps.zip (g ws))) :
    ∀ (s : Shared) (ws : List Value), ws.length = ks.length → BindsTo s fd ⟨[], ks.zip ws⟩ (ps.zip (g ws)) := by
  obtain ⟨oc, od, kV, doc, pm, an, cdv, ct, osl, rfl, lk, hcd⟩ := F.ex
  intro s ws hl
  exact .of_eq (h kV doc pm an cdv ct ws hl)
end Pc
namespace Pc
open PySem PySem.Spec PyProof.Rows L2 RZ
/-! ### the couples of a pairing -/
/-- the couples whose first person is below i -/
def cplN (ps : List Nat) (i : Nat) : List (Nat × Nat) := ((List.range i).filter fun x => decide (x < ps.getD x 0)).map fun x => (x, ps.getD x 0)
def cpl (ps : List Nat) : List (Nat × Nat) := cplN ps ps.length
theorem getD_of {ps : List Nat} {x y : Nat} (h : ps[x]? = some y) : ps.getD x 0 = y := by
  rw [List.getD_eq_getElem?_getD, h]; rfl
theorem cplN_yes {ps : List Nat} {i y : Nat} (h : ps[i]? = some y) (hl : i < y) : cplN ps (i + 1) = cplN ps i ++ [(i, y)] := by
  unfold cplN
  rw [List.range_succ, List.filter_append, List.map_append]
  congr 1
  rw [List.filter_cons_of_pos (by rw [getD_of h]; exact decide_eq_true hl), List.filter_nil, List.map_cons, List.map_nil, getD_of h]
theorem cplN_no {ps : List Nat} {i y : Nat} (h : ps[i]? = some y) (hl : ¬ i < y) : cplN ps (i + 1) = cplN ps i := by
  unfold cplN
  rw [List.range_succ, List.filter_append, List.map_append, List.filter_cons_of_neg (by rw [getD_of h]; simpa using hl), List.filter_nil, List.map_nil, List.append_nil]
theorem cplN_len (ps : List Nat) (i : Nat) : (cplN ps i).length ≤ i := by
  unfold cplN
  rw [List.length_map]
  exact Nat.le_trans (List.length_filter_le _ _) (by rw [List.length_range]; exact Nat.le_refl _)
theorem mem_cpl {n : Nat} {ps : List Nat} (h : IsPair n ps) {p : Nat × Nat} : p ∈ cpl ps ↔ ps[p.1]? = some p.2 ∧ p.1 < p.2 := by
  unfold cpl cplN
  rw [h.len]
  constructor
  · intro hp
    obtain ⟨x, hx, rfl⟩ := List.mem_map.mp hp
    obtain ⟨h1, h2⟩ := List.mem_filter.mp hx
    obtain ⟨y, e, _⟩ := h.par x (List.mem_range.mp h1)
    rw [getD_of e] at h2 ⊢
    exact ⟨e, of_decide_eq_true h2⟩
  · rintro ⟨e, hl⟩
    refine List.mem_map.mpr ⟨p.1, List.mem_filter.mpr ⟨List.mem_range.mpr ?_, ?_⟩, ?_⟩
    · rw [← h.len]; exact get_lt e
    · rw [getD_of e]; exact decide_eq_true hl
    · rw [getD_of e]
theorem IsPair.back {n : Nat} {ps : List Nat} (h : IsPair n ps) {x y : Nat} (e : ps[x]? = some y) : ps[y]? = some x ∧ y < n ∧ x < n ∧ y ≠ x := by
  have hx : x < n := by rw [← h.len]; exact get_lt e
  obtain ⟨z, e1, e2, e3, e4⟩ := h.par x hx
  cases Option.some.inj (e.symm.trans e1)
  exact ⟨e4, e2, hx, e3⟩
theorem cpl_cover {n : Nat} {ps : List Nat} (h : IsPair n ps) {z : Nat} (hz : z < n) : ∃ p ∈ cpl ps, p.1 = z ∨ p.2 = z := by
  obtain ⟨y, e1, e2, e3, e4⟩ := h.par z hz
  rcases Nat.lt_or_gt_of_ne e3 with l | l
  · exact ⟨(y, z), (mem_cpl h).mpr ⟨e4, l⟩, .inr rfl⟩
  · exact ⟨(z, y), (mem_cpl h).mpr ⟨e1, l⟩, .inl rfl⟩
theorem filter_split {α : Type} (f : α → Bool) : ∀ l : List α, (l.filter f).length + (l.filter fun x => !f x).length = l.length
  | [] => rfl
  | a :: r => by
    have ih := filter_split f r
    cases e : f a with
    | true => rw [List.filter_cons_of_pos e, List.filter_cons_of_neg (by rw [e]; decide), List.length_cons, List.length_cons]; omega
    | false => rw [List.filter_cons_of_neg (by rw [e]; decide), List.filter_cons_of_pos (by rw [e]; rfl), List.length_cons, List.length_cons]; omega
theorem cpl_half {n : Nat} {ps : List Nat} (h : IsPair n ps) : 2 * (cpl ps).length = n := by
  have e1 : (cpl ps).length = ((List.range n).filter fun x => decide (x < ps.getD x 0)).length := by
    unfold cpl cplN; rw [List.length_map, h.len]
  have inj : ∀ x y, x < n → y < n → ps.getD x 0 = ps.getD y 0 → x = y := fun x y hx hy e => by
    obtain ⟨u, a1, _, _, a4⟩ := h.par x hx
    obtain ⟨v, b1, _, _, b4⟩ := h.par y hy
    rw [getD_of a1, getD_of b1] at e
    subst e
    exact Option.some.inj (a4.symm.trans b4)
  have nd0 : (List.range n).Nodup := List.nodup_range
  have p1 : (((List.range n).filter fun x => decide (x < ps.getD x 0)).map fun x => ps.getD x 0).Perm ((List.range n).filter fun x => !decide (x < ps.getD x 0)) := by
    refine (List.perm_ext_iff_of_nodup ?_ (nd0.filter _)).mpr fun z => ?_
    · refine List.Pairwise.map _ (fun a b hab => hab) ?_
      refine List.Pairwise.imp_of_mem (fun {a b} ha hb hab => ?_) (nd0.filter fun x => decide (x < ps.getD x 0))
      exact fun e => hab (inj a b (List.mem_range.mp (List.mem_filter.mp ha).1) (List.mem_range.mp (List.mem_filter.mp hb).1) e)
    · constructor
      · intro hz
        obtain ⟨x, hx, rfl⟩ := List.mem_map.mp hz
        obtain ⟨h1, h2⟩ := List.mem_filter.mp hx
        obtain ⟨y, a1, a2, a3, a4⟩ := h.par x (List.mem_range.mp h1)
        rw [getD_of a1] at h2 ⊢
        have h3 := of_decide_eq_true h2
        refine List.mem_filter.mpr ⟨List.mem_range.mpr a2, ?_⟩
        rw [getD_of a4, decide_eq_false (by omega)]; rfl
      · intro hz
        obtain ⟨h1, h2⟩ := List.mem_filter.mp hz
        obtain ⟨y, a1, a2, a3, a4⟩ := h.par z (List.mem_range.mp h1)
        rw [getD_of a1] at h2
        have h3 : ¬ z < y := by simpa using h2
        refine List.mem_map.mpr ⟨y, List.mem_filter.mpr ⟨List.mem_range.mpr a2, ?_⟩, getD_of a4⟩
        rw [getD_of a4]
        exact decide_eq_true (by omega)
  have e2 := p1.length_eq
  rw [List.length_map] at e2
  have e3 := filter_split (fun x => decide (x < ps.getD x 0)) (List.range n)
  rw [List.length_range] at e3
  omega
/-- what pairs must be so that they make the pairing ps -/
structure Makes (qs : List (Nat × Nat)) (ps : List Nat) : Prop where
  half : 2 * qs.length = ps.length
  ok : ∀ p ∈ qs, ps[p.1]? = some p.2 ∧ ps[p.2]? = some p.1
  all : ∀ z, z < ps.length → ∃ p ∈ qs, p.1 = z ∨ p.2 = z
theorem makes_cpl {n : Nat} {ps : List Nat} (h : IsPair n ps) : Makes (cpl ps) ps where
  half := by rw [cpl_half h, h.len]
  ok p hp := by
    obtain ⟨e, _⟩ := (mem_cpl h).mp hp
    exact ⟨e, (h.back e).1⟩
  all z hz := cpl_cover h (by rw [← h.len]; exact hz)
/-- the pairs of qs in any order, turned or not -/
theorem Makes.turned {qs rs : List (Nat × Nat)} {ps : List Nat} (h : Makes qs ps) (hl : rs.length = qs.length) (h1 : ∀ p ∈ rs, p ∈ qs ∨ (p.2, p.1) ∈ qs) (h2 : ∀ p ∈ qs, p ∈ rs ∨ (p.2, p.1) ∈ rs) : Makes rs ps where
  half := by rw [hl]; exact h.half
  ok p hp := by
    rcases h1 p hp with z | z
    · exact h.ok p z
    · obtain ⟨a, b⟩ := h.ok _ z
      exact ⟨b, a⟩
  all z hz := by
    obtain ⟨p, hp, e⟩ := h.all z hz
    rcases h2 p hp with q | q
    · exact ⟨p, q, e⟩
    · exact ⟨_, q, e.symm⟩
def CInv (ps : List Nat) (qs : List (Nat × Nat)) (fs : List Nat) (i : Nat) : Prop := fs.length = ps.length ∧ ∀ j, j < i → ∀ p, qs[j]? = some p → fs[p.1]? = ps[p.1]? ∧ fs[p.2]? = ps[p.2]?
theorem set_keeps {ps fs : List Nat} {x y z : Nat} (hy : ps[x]? = some y) (hx : x < fs.length) (h : fs[z]? = ps[z]?) : (fs.set x y)[z]? = ps[z]? := by
  by_cases e : x = z
  · subst e
    rw [List.getElem?_set_self hx, hy]
  · rw [List.getElem?_set_ne e]; exact h
theorem CInv.step {ps fs : List Nat} {qs : List (Nat × Nat)} {i : Nat} {p : Nat × Nat} (m : Makes qs ps) (h : CInv ps qs fs i) (hp : qs[i]? = some p) : CInv ps qs ((fs.set p.1 p.2).set p.2 p.1) (i + 1) := by
  obtain ⟨hl, hj⟩ := h
  obtain ⟨o1, o2⟩ := m.ok p (List.mem_of_getElem? hp)
  have l1 : p.1 < fs.length := by rw [hl]; exact get_lt o1
  have l2 : p.2 < (fs.set p.1 p.2).length := by rw [List.length_set, hl]; exact get_lt o2
  refine ⟨by rw [List.length_set, List.length_set, hl], fun j hj2 r hr => ?_⟩
  by_cases e : j = i
  · subst e
    cases Option.some.inj (hp.symm.trans hr)
    refine ⟨set_keeps o2 l2 ?_, ?_⟩
    · rw [List.getElem?_set_self l1, o1]
    · rw [List.getElem?_set_self l2, o2]
  · obtain ⟨a, b⟩ := hj j (by omega) r hr
    exact ⟨set_keeps o2 l2 (set_keeps o1 l1 a), set_keeps o2 l2 (set_keeps o1 l1 b)⟩
theorem CInv.done {ps fs : List Nat} {qs : List (Nat × Nat)} (m : Makes qs ps) (h : CInv ps qs fs qs.length) : fs = ps := by
  refine List.ext_getElem? fun z => ?_
  by_cases hz : z < ps.length
  · obtain ⟨p, hp, e⟩ := m.all z hz
    obtain ⟨i, hi, ei⟩ := List.mem_iff_getElem.mp hp
    obtain ⟨a, b⟩ := h.2 i hi p (by rw [List.getElem?_eq_getElem hi, ei])
    rcases e with e | e
    · rw [← e]; exact a
    · rw [← e]; exact b
  · rw [List.getElem?_eq_none (by rw [h.1]; omega), List.getElem?_eq_none (by omega)]
end Pc
namespace Pc
open PySem PySem.Spec PyProof.Rows L2 RZ
section
variable {K : PySem.W.Frag}
/-- the values us are the pairs qs, each a tuple or a list -/
def Items (K : PySem.W.Frag) (H : Hp) (us : List V) (qs : List (Nat × Nat)) : Prop := us.length = qs.length ∧ ∀ (i : Nat) (v : V), us[i]? = some v → ∃ (c : Addr) (p : Nat × Nat), v = .ref c ∧ qs[i]? = some p ∧ Sq K H c [.int p.1, .int p.2]
theorem Items.same {H H' : Hp} {us : List V} {qs : List (Nat × Nat)} (h : Items K H us qs) (e : Same H H') : Items K H' us qs := ⟨h.1, fun i v hv => by
  obtain ⟨c, p, h1, h2, h3⟩ := h.2 i v hv
  exact ⟨c, p, h1, h2, h3.same e⟩⟩
theorem items_of {H : Hp} {as : List Addr} {qs : List (Nat × Nat)} (h : Prs H as qs) : Items K H (as.map V.ref) qs := ⟨by rw [List.length_map]; exact h.length, fun i v hv => by
  rw [List.getElem?_map] at hv
  cases e : as[i]? with
  | none => rw [e] at hv; cases hv
  | some c =>
    rw [e] at hv
    obtain ⟨p, h1, h2⟩ := prs_get h e
    exact ⟨c, p, (Option.some.inj hv).symm, h1, .inr (.inl (.inl h2))⟩⟩
end
end Pc
namespace Pc
open PySem PySem.Spec PyProof.Rows L2 RZ
theorem paired_perm {α β : Type} {R : α → β → Prop} {as bs : List α} (h : as.Perm bs) : ∀ ps : List β, Paired R as ps → ∃ qs : List β, qs.Perm ps ∧ Paired R bs qs := by
  induction h with
  | nil => exact fun ps h => ⟨ps, List.Perm.refl _, h⟩
  | cons x _ ih =>
    intro ps h
    cases h with
    | cons r t =>
      obtain ⟨qs, h1, h2⟩ := ih _ t
      exact ⟨_ :: qs, h1.cons _, .cons r h2⟩
  | swap x y l =>
    intro ps h
    cases h with
    | cons r t =>
      cases t with
      | cons r2 t2 => exact ⟨_, List.Perm.swap _ _ _, .cons r2 (.cons r t2)⟩
  | trans _ _ ih1 ih2 =>
    intro ps h
    obtain ⟨qs, h1, h2⟩ := ih1 ps h
    obtain ⟨rs, h3, h4⟩ := ih2 qs h2
    exact ⟨rs, h3.trans h1, h4⟩
/-- the same pairs, some turned -/
def Turned (qs rs : List (Nat × Nat)) : Prop := rs.length = qs.length ∧ ∀ (j : Nat) (p q : Nat × Nat), qs[j]? = some p → rs[j]? = some q → q = p ∨ q = (p.2, p.1)
theorem Turned.mem1 {qs rs : List (Nat × Nat)} (h : Turned qs rs) : ∀ p ∈ rs, p ∈ qs ∨ (p.2, p.1) ∈ qs := fun p hp => by
  obtain ⟨j, hj, e⟩ := List.mem_iff_getElem.mp hp
  obtain ⟨q, hq⟩ := get_some (l := qs) (i := j) (by rw [← h.1]; exact hj)
  rcases h.2 j q p hq (by rw [List.getElem?_eq_getElem hj, e]) with z | z
  · exact .inl (z ▸ List.mem_of_getElem? hq)
  · refine .inr ?_
    rw [z]
    exact List.mem_of_getElem? hq
theorem Turned.mem2 {qs rs : List (Nat × Nat)} (h : Turned qs rs) : ∀ p ∈ qs, p ∈ rs ∨ (p.2, p.1) ∈ rs := fun p hp => by
  obtain ⟨j, hj, e⟩ := List.mem_iff_getElem.mp hp
  obtain ⟨q, hq⟩ := get_some (l := rs) (i := j) (by rw [h.1]; exact hj)
  rcases h.2 j p q (by rw [List.getElem?_eq_getElem hj, e]) hq with z | z
  · exact .inl (z ▸ List.mem_of_getElem? hq)
  · exact .inr (z ▸ List.mem_of_getElem? hq)
theorem Makes.perm {qs rs : List (Nat × Nat)} {ps : List Nat} (h : Makes qs ps) (e : rs.Perm qs) : Makes rs ps := h.turned e.length_eq (fun p hp => .inl (e.mem_iff.mp hp)) (fun p hp => .inl (e.mem_iff.mpr hp))
theorem IsPair.lt {n : Nat} {ps : List Nat} (h : IsPair n ps) : ∀ i ∈ ps, i < n := fun i hi => by
  obtain ⟨x, hx, e⟩ := List.mem_iff_getElem.mp hi
  obtain ⟨y, e1, e2, _⟩ := h.par x (by rw [← h.len]; exact hx)
  rw [List.getElem?_eq_getElem hx, e] at e1
  cases Option.some.inj e1
  exact e2
theorem Makes.lt {qs : List (Nat × Nat)} {ps : List Nat} (h : Makes qs ps) : ∀ p ∈ qs, p.1 < ps.length ∧ p.2 < ps.length := fun p hp => ⟨get_lt (h.ok p hp).1, get_lt (h.ok p hp).2⟩
theorem iteN {A B : Prop} (h : B) : if (!true) = true then A else B := by
  rw [if_neg (by decide)]
  exact h
end Pc
namespace Pc
open PySem PySem.Spec PyProof.Rows L2 RZ
/-! ### a loop over a list or a tuple that stays as it is -/
theorem for_seq {K : PySem.W.Frag} {a : Addr} {xs : List V} {g : TG} {tb : TS} {D : Ends} {σ : L2.St} {H0 H : Hp} (hS : Sq K H0 a xs) (Pv : Nat → L2.St → Hp → Prop) (h0 : Pv 0 σ H) (hst : ∀ i σ H', Pv i σ H' → Same H0 H')
    (hs : ∀ i x σ H', xs[i]? = some x → Pv i σ H' → g x σ H' fun σ2 H2 => tb { D with nx := Pv (i + 1), ct := Pv (i + 1), bk := D.nx } σ2 H2) (hd : ∀ σ H', Pv xs.length σ H' → D.nx σ H') :
    ((∃ ys, SqL K H a ys) ∧ ∃ W : Nat → Nat → L2.St → Hp → Prop, (∃ m, W 0 m σ H) ∧ ∀ i m σ H, W i m σ H → ((Itl K a).stop i H ∧ D.nx σ H) ∨ ((Itl K a).go i H ∧ ∃ N : L2.St → Hp → Prop, (∀ σ' H', N σ' H' → ∃ m', m' < m ∧ W (i + 1) m' σ' H') ∧ ∀ x H', (Itl K a).yld i H x H' → g x σ H' fun σ2 H2 => tb { D with nx := N, ct := N, bk := D.nx } σ2 H2)) ∨
    ((∃ ys, SqT K H a ys) ∧ ∃ W : Nat → Nat → L2.St → Hp → Prop, (∃ m, W 0 m σ H) ∧ ∀ i m σ H, W i m σ H → ((Itt K a).stop i H ∧ D.nx σ H) ∨ ((Itt K a).go i H ∧ ∃ N : L2.St → Hp → Prop, (∀ σ' H', N σ' H' → ∃ m', m' < m ∧ W (i + 1) m' σ' H') ∧ ∀ x H', (Itt K a).yld i H x H' → g x σ H' fun σ2 H2 => tb { D with nx := N, ct := N, bk := D.nx } σ2 H2)) := by
  rcases hS with h | h
  · exact .inl ⟨⟨_, (hst 0 σ H h0).seq h⟩, for_list Pv h0 (fun i σ H' _ p => (hst i σ H' p).seq h) hs hd⟩
  · exact .inr ⟨⟨_, same_tup (hst 0 σ H h0) h⟩, for_tup Pv h0 (fun i σ H' _ p => same_tup (hst i σ H' p) h) hs hd⟩
/-! ### two are joined, and the two that are left -/
def jn (fs : List Nat) (a b : Nat) : List Nat := if fs.getD a 0 = b then fs else (((fs.set a b).set b a).set (fs.getD a 0) (fs.getD b 0)).set (fs.getD b 0) (fs.getD a 0)
theorem jn_len (fs : List Nat) (a b : Nat) : (jn fs a b).length = fs.length := by
  unfold jn
  split
  · rfl
  · simp only [List.length_set]
/-- the four are different -/
theorem four {n : Nat} {fs : List Nat} (h : IsPair n fs) {a b c d : Nat} (hab : a ≠ b) (ea : fs[a]? = some c) (eb : fs[b]? = some d) (hcb : c ≠ b) : c ≠ a ∧ d ≠ b ∧ d ≠ a ∧ c ≠ d ∧ a < n ∧ b < n ∧ c < n ∧ d < n := by
  obtain ⟨a1, a2, a3, a4⟩ := h.back ea
  obtain ⟨b1, b2, b3, b4⟩ := h.back eb
  refine ⟨a4, b4, fun e => ?_, fun e => ?_, a3, b3, a2, b2⟩
  · rw [e, ea] at b1; exact hcb (Option.some.inj b1)
  · rw [e, b1] at a1; exact hab (Option.some.inj a1).symm
theorem jn_same {fs : List Nat} {a b : Nat} (e : fs[a]? = some b) : jn fs a b = fs := by
  unfold jn
  rw [getD_of e, if_pos rfl]
theorem jn_get {n : Nat} {fs : List Nat} (h : IsPair n fs) {a b c d : Nat} (hab : a ≠ b) (ea : fs[a]? = some c) (eb : fs[b]? = some d) (hcb : c ≠ b) (z : Nat) :
    (jn fs a b)[z]? = if z = a then some b else if z = b then some a else if z = c then some d else if z = d then some c else fs[z]? := by
  obtain ⟨x1, x2, x3, x4, l1, l2, l3, l4⟩ := four h hab ea eb hcb
  unfold jn
  rw [getD_of ea, getD_of eb, if_neg hcb]
  have hl := h.len
  by_cases z4 : z = d
  · subst z4
    rw [List.getElem?_set_self (by simp only [List.length_set]; omega), if_neg x3, if_neg x2, if_neg (Ne.symm x4), if_pos rfl]
  · rw [List.getElem?_set_ne (Ne.symm z4)]
    by_cases z3 : z = c
    · subst z3
      rw [List.getElem?_set_self (by simp only [List.length_set]; omega), if_neg x1, if_neg hcb, if_pos rfl]
    · rw [List.getElem?_set_ne (Ne.symm z3)]
      by_cases z2 : z = b
      · subst z2
        rw [List.getElem?_set_self (by simp only [List.length_set]; omega), if_neg (Ne.symm hab), if_pos rfl]
      · rw [List.getElem?_set_ne (Ne.symm z2)]
        by_cases z1 : z = a
        · subst z1
          rw [List.getElem?_set_self (by omega), if_pos rfl]
        · rw [List.getElem?_set_ne (Ne.symm z1), if_neg z1, if_neg z2, if_neg z3, if_neg z4]
theorem jn_pair {n : Nat} {fs : List Nat} (h : IsPair n fs) {a b : Nat} (hab : a ≠ b) (ha : a < n) (hb : b < n) : IsPair n (jn fs a b) := by
  obtain ⟨c, ea, _⟩ := h.par a ha
  obtain ⟨d, eb, _⟩ := h.par b hb
  by_cases hcb : c = b
  · subst hcb; rw [jn_same ea]; exact h
  · have G := jn_get h hab ea eb hcb
    obtain ⟨x1, x2, x3, x4, _, _, l3, l4⟩ := four h hab ea eb hcb
    refine ⟨by rw [jn_len]; exact h.len, fun x hx => ?_⟩
    by_cases z1 : x = a
    · subst z1
      exact ⟨b, by rw [G, if_pos rfl], hb, hab.symm, by rw [G, if_neg hab.symm, if_pos rfl]⟩
    · by_cases z2 : x = b
      · subst z2
        exact ⟨a, by rw [G, if_neg z1, if_pos rfl], ha, hab, by rw [G, if_pos rfl]⟩
      · by_cases z3 : x = c
        · subst z3
          exact ⟨d, by rw [G, if_neg z1, if_neg z2, if_pos rfl], l4, x4.symm, by rw [G, if_neg x3, if_neg x2, if_neg x4.symm, if_pos rfl]⟩
        · by_cases z4 : x = d
          · subst z4
            exact ⟨c, by rw [G, if_neg z1, if_neg z2, if_neg z3, if_pos rfl], l3, x4, by rw [G, if_neg x1, if_neg hcb, if_pos rfl]⟩
          · obtain ⟨y, e1, e2, e3, e4⟩ := h.par x hx
            have back : ∀ {u : Nat}, y = u → fs[u]? = some x := fun e => by rw [← e]; exact e4
            refine ⟨y, by rw [G, if_neg z1, if_neg z2, if_neg z3, if_neg z4]; exact e1, e2, e3, ?_⟩
            rw [G, if_neg, if_neg, if_neg, if_neg]
            · exact e4
            · intro e; have q := back e; rw [(h.back eb).1] at q; exact z2 (Option.some.inj q).symm
            · intro e; have q := back e; rw [(h.back ea).1] at q; exact z1 (Option.some.inj q).symm
            · intro e; have q := back e; rw [eb] at q; exact z4 (Option.some.inj q).symm
            · intro e; have q := back e; rw [ea] at q; exact z3 (Option.some.inj q).symm
/-- all pairs are calls of n people -/
def Calls (n : Nat) (qs : List (Nat × Nat)) : Prop := ∀ q ∈ qs, q.1 < q.2 ∧ q.2 < n
/-- the calls done one after another -/
def runs (qs : List (Nat × Nat)) (ps : List Nat) : List Nat := qs.foldl (fun fs q => jn fs q.1 q.2) ps
theorem runs_take {qs : List (Nat × Nat)} {ps : List Nat} {i : Nat} {q : Nat × Nat} (h : qs[i]? = some q) : runs (qs.take (i + 1)) ps = jn (runs (qs.take i) ps) q.1 q.2 := by
  unfold runs
  rw [List.take_add_one, h, List.foldl_append]
  rfl
theorem runs_pair {n : Nat} : ∀ (qs : List (Nat × Nat)) {ps : List Nat}, IsPair n ps → Calls n qs → IsPair n (runs qs ps)
  | [], _, h, _ => h
  | q :: r, ps, h, hc => by
    have h1 := hc q List.mem_cons_self
    exact runs_pair r (jn_pair h (by omega) (by omega) h1.2) (fun x hx => hc x (List.mem_cons_of_mem _ hx))
theorem Calls.take {n : Nat} {qs : List (Nat × Nat)} (h : Calls n qs) (i : Nat) : Calls n (qs.take i) := fun q hq => h q (List.mem_of_mem_take hq)
end Pc
namespace Pc
open PySem PySem.Spec PyProof.Rows L2 RZ
/-! ### lists of tuples of numbers -/
def Tups (H : Hp) (as : List Addr) (ls : List (List Nat)) : Prop := Paired (fun a l => H a = some (.tup (nv l))) as ls
theorem Tups.length {H : Hp} {as : List Addr} {ls : List (List Nat)} (h : Tups H as ls) : as.length = ls.length := Paired.length h
theorem tups_same {H H' : Hp} (e : Same H H') : ∀ {as : List Addr} {ls : List (List Nat)}, Tups H as ls → Tups H' as ls
  | _, _, .nil => .nil
  | _, _, .cons h r => .cons (e _ _ h) (tups_same e r)
theorem tups_keep {b : Addr} {H H' : Hp} {ys : List V} (k : Keep b H H') (hb : H b = some (.lst ys)) : ∀ {as : List Addr} {ls : List (List Nat)}, Tups H as ls → Tups H' as ls
  | _, _, .nil => .nil
  | _, _, .cons h r => .cons (k.tup hb h) (tups_keep k hb r)
theorem tups_append {H : Hp} : ∀ {as bs : List Addr} {ls ms : List (List Nat)}, Tups H as ls → Tups H bs ms → Tups H (as ++ bs) (ls ++ ms)
  | _, _, _, _, .nil, s => s
  | _, _, _, _, .cons h r, s => .cons h (tups_append r s)
theorem tups_get {H : Hp} : ∀ {as : List Addr} {ls : List (List Nat)} {i : Nat} {a : Addr}, Tups H as ls → as[i]? = some a → ∃ l, ls[i]? = some l ∧ H a = some (.tup (nv l))
  | _, _, _, _, .nil, h => by simp at h
  | _, _, 0, _, .cons (b := p) h _, e => by
    cases Option.some.inj e
    exact ⟨p, rfl, h⟩
  | _, _, i + 1, a, .cons _ r, e => tups_get (i := i) r e
def td (l : List Nat) : PyData := .tuple (nd l)
theorem tups_dp {K : PySem.W.Frag} {H : Hp} : ∀ {as : List Addr} {ls : List (List Nat)}, Tups H as ls → DpAll K H (as.map V.ref) (ls.map td)
  | _, _, .nil => .nil
  | _, _, .cons (b := l) h r => .cons (.tup (.inl (.inl h)) (dp_nats l)) (tups_dp r)
theorem fine_tds {ls : List (List Nat)} {n m : Nat} (h : ∀ l ∈ ls, l.length ≤ m ∧ ∀ i ∈ l, i < 2 ^ 60) (hn : ls.length ≤ n) (hb : n ≤ 100000) (hm : m ≤ 100000) : Fine 2 (n * (m * 63 + 5) + 3) (.list (ls.map td)) :=
  fine_list (fun d hd => by
    obtain ⟨l, hl, rfl⟩ := List.mem_map.mp hd
    exact fine_tup (h l hl).2 (h l hl).1 hm) (by rw [List.length_map]; exact hn) hb
/-- the pairings before the first call and behind each -/
def alongs (qs : List (Nat × Nat)) (ps : List Nat) (i : Nat) : List (List Nat) := (List.range (i + 1)).map fun j => runs (qs.take j) ps
theorem alongs_zero (qs : List (Nat × Nat)) (ps : List Nat) : alongs qs ps 0 = [ps] := rfl
theorem alongs_succ (qs : List (Nat × Nat)) (ps : List Nat) (i : Nat) : alongs qs ps (i + 1) = alongs qs ps i ++ [runs (qs.take (i + 1)) ps] := by
  unfold alongs
  rw [List.range_succ, List.map_append]
  rfl
theorem alongs_len (qs : List (Nat × Nat)) (ps : List Nat) (i : Nat) : (alongs qs ps i).length = i + 1 := by
  unfold alongs
  rw [List.length_map, List.length_range]
theorem alongs_mem {n i : Nat} {qs : List (Nat × Nat)} {ps l : List Nat} (hP : IsPair n ps) (hc : Calls n qs) (h : l ∈ alongs qs ps i) : IsPair n l := by
  obtain ⟨j, _, rfl⟩ := List.mem_map.mp h
  exact runs_pair _ hP (hc.take j)
end Pc
namespace Pc
open PySem PySem.Spec PyProof.Rows L2 RZ
/-! ### sheets as lists of natural numbers -/
/-- the empty sheet of n people -/
def emp (n : Nat) : List Nat := (List.range (2 * n)).map fun e => (e + n) % (2 * n)
theorem emp_len (n : Nat) : (emp n).length = 2 * n := by unfold emp; rw [List.length_map, List.length_range]
theorem emp_get {n e : Nat} (h : e < 2 * n) : (emp n)[e]? = some ((e + n) % (2 * n)) := by
  unfold emp
  rw [List.getElem?_map, List.getElem?_range h]
  rfl
theorem emp_lo {n e : Nat} (h : e < n) : (emp n)[e]? = some (n + e) := by
  rw [emp_get (by omega), Nat.mod_eq_of_lt (by omega), Nat.add_comm]
theorem emp_hi {n e : Nat} (h : e < n) : (emp n)[n + e]? = some e := by
  rw [emp_get (by omega), show n + e + n = e + 1 * (2 * n) by omega, Nat.add_mul_mod_self_right, Nat.mod_eq_of_lt (by omega)]
theorem emp_pair {n : Nat} (hn : 0 < n) : IsPair (2 * n) (emp n) := by
  refine ⟨emp_len n, fun x hx => ?_⟩
  by_cases h : x < n
  · exact ⟨n + x, emp_lo h, by omega, by omega, emp_hi h⟩
  · have e : x = n + (x - n) := by omega
    refine ⟨x - n, ?_, by omega, by omega, ?_⟩
    · have := emp_hi (n := n) (e := x - n) (by omega)
      rw [← e] at this; exact this
    · have := emp_lo (n := n) (e := x - n) (by omega)
      rw [← e] at this; exact this
/-- the calls at the lower ends -/
def low (n : Nat) (qs : List (Nat × Nat)) : List (Nat × Nat) := qs.map fun q => (n + q.1, n + q.2)
theorem low_calls {n : Nat} {qs : List (Nat × Nat)} (h : Calls n qs) : Calls (2 * n) (low n qs) := fun q hq => by
  obtain ⟨r, hr, rfl⟩ := List.mem_map.mp hq
  have := h r hr
  exact ⟨by show n + r.1 < n + r.2; omega, by show n + r.2 < 2 * n; omega⟩
theorem low_take (n : Nat) (qs : List (Nat × Nat)) (i : Nat) : (low n qs).take i = low n (qs.take i) := by unfold low; rw [List.map_take]
theorem low_get {n i : Nat} {qs : List (Nat × Nat)} {q : Nat × Nat} (h : qs[i]? = some q) : (low n qs)[i]? = some (n + q.1, n + q.2) := by
  unfold low; rw [List.getElem?_map, h]; rfl
/-- the sheet with calls added -/
def shw (n : Nat) (qs : List (Nat × Nat)) (fs : List Nat) : List Nat := runs (low n qs) fs
theorem shw_take {n i : Nat} {qs : List (Nat × Nat)} {fs : List Nat} {q : Nat × Nat} (h : qs[i]? = some q) : shw n (qs.take (i + 1)) fs = jn (shw n (qs.take i) fs) (n + q.1) (n + q.2) := by
  unfold shw
  rw [← low_take, ← low_take, runs_take (low_get h)]
theorem shw_pair {n : Nat} {qs : List (Nat × Nat)} {fs : List Nat} (hP : IsPair (2 * n) fs) (h : Calls n qs) : IsPair (2 * n) (shw n qs fs) := runs_pair _ hP (low_calls h)
/-- the other order of the stores -/
theorem jn_alt {n : Nat} {fs : List Nat} (h : IsPair n fs) {a b c d : Nat} (hab : a ≠ b) (ea : fs[a]? = some c) (eb : fs[b]? = some d) (hcb : c ≠ b) : (((fs.set c d).set d c).set a b).set b a = jn fs a b := by
  obtain ⟨x1, x2, x3, x4, l1, l2, l3, l4⟩ := four h hab ea eb hcb
  have hl := h.len
  refine List.ext_getElem? fun z => ?_
  rw [jn_get h hab ea eb hcb]
  by_cases z2 : z = b
  · subst z2
    rw [List.getElem?_set_self (by simp only [List.length_set]; omega), if_neg hab.symm, if_pos rfl]
  · rw [List.getElem?_set_ne (Ne.symm z2)]
    by_cases z1 : z = a
    · subst z1
      rw [List.getElem?_set_self (by simp only [List.length_set]; omega), if_pos rfl]
    · rw [List.getElem?_set_ne (Ne.symm z1), if_neg z1, if_neg z2]
      by_cases z4 : z = d
      · subst z4
        rw [List.getElem?_set_self (by simp only [List.length_set]; omega), if_neg (Ne.symm x4), if_pos rfl]
      · rw [List.getElem?_set_ne (Ne.symm z4)]
        by_cases z3 : z = c
        · subst z3
          rw [List.getElem?_set_self (by omega), if_pos rfl]
        · rw [List.getElem?_set_ne (Ne.symm z3), if_neg z3, if_neg z4]
theorem range_shift (n : Nat) : rgV (n : Int) (2 * (n : Int)) = nv ((List.range n).map fun i => n + i) := by
  unfold rgV nv
  rw [show (2 * (n : Int) - (n : Int)).toNat = n by omega, List.map_map]
  refine List.map_congr_left fun i _ => ?_
  show V.int ((n : Int) + (i : Nat)) = V.int (((n + i : Nat) : Int))
  rw [show (((n + i : Nat) : Int)) = (n : Int) + (i : Nat) by omega]
/-- strands in any order: the upper ends in turn, the lower ends as drawn -/
def SInv (n : Nat) (ls fs : List Nat) (t : Nat) : Prop := fs.length = 2 * n ∧ ∀ j, j < t → ∀ l, ls[j]? = some l → fs[j]? = some l ∧ fs[l]? = some j
theorem SInv.step {n : Nat} {ls fs : List Nat} {t l : Nat} (hp : ls.Perm ((List.range n).map fun i => n + i)) (h : SInv n ls fs t) (hl : ls[t]? = some l) : SInv n ls ((fs.set t l).set l t) (t + 1) := by
  have hln : ls.length = n := by rw [hp.length_eq, List.length_map, List.length_range]
  have hnd : ls.Nodup := hp.nodup_iff.mpr (List.Pairwise.map _ (fun a b (hab : a ≠ b) => show n + a ≠ n + b by omega) List.nodup_range)
  have big : ∀ {j x : Nat}, ls[j]? = some x → n ≤ x ∧ x < 2 * n := fun hx => by
    obtain ⟨i, hi, e⟩ := List.mem_map.mp (hp.mem_iff.mp (List.mem_of_getElem? hx))
    have := List.mem_range.mp hi
    omega
  have ht : t < n := by rw [← hln]; exact get_lt hl
  have hb := big hl
  obtain ⟨h1, h2⟩ := h
  refine ⟨by simp only [List.length_set]; exact h1, fun j hj x hx => ?_⟩
  have hjn : j < n := by rw [← hln]; exact get_lt hx
  have hbx := big hx
  by_cases e : j = t
  · subst e
    cases Option.some.inj (hl.symm.trans hx)
    exact ⟨by rw [List.getElem?_set_ne (by omega), List.getElem?_set_self (by omega)], by rw [List.getElem?_set_self (by simp only [List.length_set]; omega)]⟩
  · obtain ⟨g1, g2⟩ := h2 j (by omega) x hx
    have xl : l ≠ x := fun z => by subst z; exact e (nd_ix hnd hx hl)
    exact ⟨by rw [List.getElem?_set_ne (by omega), List.getElem?_set_ne (by omega)]; exact g1, by rw [List.getElem?_set_ne xl, List.getElem?_set_ne (by omega)]; exact g2⟩
theorem SInv.done {n : Nat} {ls fs : List Nat} (hp : ls.Perm ((List.range n).map fun i => n + i)) (h : SInv n ls fs n) : IsPair (2 * n) fs := by
  have hln : ls.length = n := by rw [hp.length_eq, List.length_map, List.length_range]
  refine ⟨h.1, fun x hx => ?_⟩
  by_cases e : x < n
  · obtain ⟨l, hl⟩ := get_some (l := ls) (i := x) (by omega)
    obtain ⟨i, hi, e'⟩ := List.mem_map.mp (hp.mem_iff.mp (List.mem_of_getElem? hl))
    have := List.mem_range.mp hi
    obtain ⟨g1, g2⟩ := h.2 x e l hl
    exact ⟨l, g1, by omega, by omega, g2⟩
  · have hm : x ∈ ls := hp.mem_iff.mpr (List.mem_map.mpr ⟨x - n, List.mem_range.mpr (by omega), by omega⟩)
    obtain ⟨j, hj, ej⟩ := List.mem_iff_getElem.mp hm
    obtain ⟨g1, g2⟩ := h.2 j (by omega) x (by rw [List.getElem?_eq_getElem hj, ej])
    exact ⟨j, g2, by omega, by omega, g1⟩
theorem emp_step (n i : Nat) (h : i < 2 * n) : (emp n).take (i + 1) = (emp n).take i ++ [(i + n) % (2 * n)] := by
  rw [List.take_add_one, emp_get h]
  rfl
theorem nv_snoc' (l : List Nat) (x : Nat) : nv l ++ [.int (x : Int)] = nv (l ++ [x]) := by
  unfold nv
  rw [List.map_append]; rfl
theorem mod_cast_n (i n : Nat) : ((0 : Int) + (i : Nat) + (n : Int)) % (2 * (n : Int)) = (((i + n) % (2 * n) : Nat) : Int) := by
  have h : (((i + n) % (2 * n) : Nat) : Int) = ((i + n : Nat) : Int) % ((2 * n : Nat) : Int) := Int.natCast_emod _ _
  rw [h, Int.natCast_add, Int.natCast_mul, Int.zero_add]
  rfl
end Pc
namespace Pc
open PySem PySem.Spec PyProof.Rows L2 RZ
/-! ### pairs that are chosen from a range -/
def selN (c : Nat → Bool) (g : Nat → Nat × Nat) (i : Nat) : List (Nat × Nat) := ((List.range i).filter c).map g
theorem selN_yes {c : Nat → Bool} {g : Nat → Nat × Nat} {i : Nat} (h : c i = true) : selN c g (i + 1) = selN c g i ++ [g i] := by
  unfold selN
  rw [List.range_succ, List.filter_append, List.map_append, List.filter_cons_of_pos h, List.filter_nil, List.map_cons, List.map_nil]
theorem selN_no {c : Nat → Bool} {g : Nat → Nat × Nat} {i : Nat} (h : c i = false) : selN c g (i + 1) = selN c g i := by
  unfold selN
  rw [List.range_succ, List.filter_append, List.map_append, List.filter_cons_of_neg (by rw [h]; decide), List.filter_nil, List.map_nil, List.append_nil]
theorem selN_len (c : Nat → Bool) (g : Nat → Nat × Nat) (i : Nat) : (selN c g i).length ≤ i := by
  unfold selN
  rw [List.length_map]
  exact Nat.le_trans (List.length_filter_le _ _) (by rw [List.length_range]; exact Nat.le_refl _)
theorem selN_mem {c : Nat → Bool} {g : Nat → Nat × Nat} {i : Nat} {p : Nat × Nat} : p ∈ selN c g i ↔ ∃ x, x < i ∧ c x = true ∧ g x = p := by
  unfold selN
  rw [List.mem_map]
  constructor
  · rintro ⟨x, hx, e⟩
    have := List.mem_filter.mp hx
    exact ⟨x, List.mem_range.mp this.1, this.2, e⟩
  · rintro ⟨x, h1, h2, e⟩
    exact ⟨x, List.mem_filter.mpr ⟨List.mem_range.mpr h1, h2⟩, e⟩
/-- one more pair is put to the list -/
theorem sel_step {H H1 : Hp} {D u : Addr} {as : List Addr} {c : Nat → Bool} {g : Nat → Nat × Nat} {i : Nat} {v1 v2 : V} (nD : H D = none) (sm : Same H H1) (eD : H1 D = some (.lst (as.map V.ref))) (hA : Prs H1 as (selN c g i)) (hc : c i = true) (nu : H1 u = none)
    (hv : [v1, v2] = [V.int ((g i).1 : Int), V.int ((g i).2 : Int)]) (hi : i ≤ 999) : ∃ acc, (upd H1 u (.tup [v1, v2])) D = some (.lst acc) ∧ acc.length < sizeLine ∧
      (Same H (upd (upd H1 u (.tup [v1, v2])) D (.lst (acc ++ [.ref u]))) ∧ ∃ as' : List Addr, (upd (upd H1 u (.tup [v1, v2])) D (.lst (acc ++ [.ref u]))) D = some (.lst (as'.map V.ref)) ∧ Prs (upd (upd H1 u (.tup [v1, v2])) D (.lst (acc ++ [.ref u]))) as' (selN c g (i + 1))) := by
  have su : Same H1 (upd H1 u (.tup [v1, v2])) := same_new nu
  have nuD : u ≠ D := fun e => by rw [e, eD] at nu; cases nu
  refine ⟨_, su _ _ eD, ?_, fun b' o hb => ?_, as ++ [u], ?_, ?_⟩
  · rw [List.length_map, hA.length]
    have := selN_len c g i
    exact small1000 (by omega)
  · rw [upd_ne (ne_of_none hb nD)]; exact su _ _ (sm _ _ hb)
  · rw [upd_same, List.map_append]; rfl
  · rw [selN_yes hc]
    refine prs_append (prs_keep (b := D) (ys := as.map V.ref) keep_upd (su _ _ eD) (prs_same su hA)) (.cons ?_ .nil)
    rw [upd_ne nuD, upd_same, hv]
theorem ix_sq {K : PySem.W.Frag} {H : Hp} {a : Addr} {xs : List V} {i : Int} {v : V} {Q : VK} (h : Sq K H a xs) (e : atI xs i = some v) (q : Q v H) : rIx K (.ref a) (.int i) H Q :=
  h.elim (fun z => .inl ⟨a, xs, i, v, rfl, rfl, z, e, q⟩) (fun z => .inr (.inl ⟨a, xs, i, v, rfl, rfl, z, e, q⟩))
/-! ### upper pairs, lower pairs, strands -/
def upC (fs : List Nat) (n x : Nat) : Bool := decide (x < fs.getD x 0) && decide (fs.getD x 0 < n)
def upG (fs : List Nat) (x : Nat) : Nat × Nat := (x, fs.getD x 0)
def loC (fs : List Nat) (n x : Nat) : Bool := decide (n + x < fs.getD (n + x) 0)
def loG (fs : List Nat) (n x : Nat) : Nat × Nat := (x, fs.getD (n + x) 0 - n)
def stC (fs : List Nat) (n x : Nat) : Bool := decide (n ≤ fs.getD x 0)
def stG (fs : List Nat) (n x : Nat) : Nat × Nat := (x, fs.getD x 0 - n)
def ups (fs : List Nat) (n : Nat) : List (Nat × Nat) := selN (upC fs n) (upG fs) n
def los (fs : List Nat) (n : Nat) : List (Nat × Nat) := selN (loC fs n) (loG fs n) n
def sts (fs : List Nat) (n : Nat) : List (Nat × Nat) := selN (stC fs n) (stG fs n) n
theorem ups_mem {n : Nat} {fs : List Nat} (h : IsPair (2 * n) fs) {p : Nat × Nat} (hp : p ∈ ups fs n) : fs[p.1]? = some p.2 ∧ p.1 < p.2 ∧ p.2 < n := by
  obtain ⟨x, hx, hc, e⟩ := selN_mem.mp hp
  obtain ⟨y, ey, _⟩ := h.par x (by omega)
  unfold upC at hc
  rw [getD_of ey, Bool.and_eq_true, decide_eq_true_iff, decide_eq_true_iff] at hc
  subst e
  show fs[x]? = some (fs.getD x 0) ∧ x < fs.getD x 0 ∧ fs.getD x 0 < n
  rw [getD_of ey]
  exact ⟨ey, hc.1, hc.2⟩
theorem los_mem {n : Nat} {fs : List Nat} (h : IsPair (2 * n) fs) {p : Nat × Nat} (hp : p ∈ los fs n) : fs[n + p.1]? = some (n + p.2) ∧ p.1 < p.2 ∧ p.2 < n := by
  obtain ⟨x, hx, hc, e⟩ := selN_mem.mp hp
  obtain ⟨y, ey, hy, _⟩ := h.par (n + x) (by omega)
  unfold loC at hc
  rw [getD_of ey, decide_eq_true_iff] at hc
  subst e
  show fs[n + x]? = some (n + (fs.getD (n + x) 0 - n)) ∧ x < fs.getD (n + x) 0 - n ∧ fs.getD (n + x) 0 - n < n
  rw [getD_of ey, show n + (y - n) = y by omega]
  exact ⟨ey, by omega, by omega⟩
theorem sts_mem {n : Nat} {fs : List Nat} (h : IsPair (2 * n) fs) {p : Nat × Nat} (hp : p ∈ sts fs n) : fs[p.1]? = some (n + p.2) ∧ p.1 < n ∧ p.2 < n := by
  obtain ⟨x, hx, hc, e⟩ := selN_mem.mp hp
  obtain ⟨y, ey, hy, _⟩ := h.par x (by omega)
  unfold stC at hc
  rw [getD_of ey, decide_eq_true_iff] at hc
  subst e
  show fs[x]? = some (n + (fs.getD x 0 - n)) ∧ x < n ∧ fs.getD x 0 - n < n
  rw [getD_of ey, show n + (y - n) = y by omega]
  exact ⟨ey, by omega, by omega⟩
/-- all joins of a sheet, as pairs of ends -/
def jns (fs : List Nat) (n : Nat) : List (Nat × Nat) := ups fs n ++ ((los fs n).map (fun p => (n + p.1, n + p.2)) ++ (sts fs n).map (fun p => (p.1, n + p.2)))
theorem jns_ok {n : Nat} {fs : List Nat} (h : IsPair (2 * n) fs) : ∀ p ∈ jns fs n, fs[p.1]? = some p.2 ∧ p.1 < p.2 := fun p hp => by
  rcases List.mem_append.mp hp with z | z
  · have := ups_mem h z; exact ⟨this.1, this.2.1⟩
  · rcases List.mem_append.mp z with z | z
    · obtain ⟨r, hr, rfl⟩ := List.mem_map.mp z
      have := los_mem h hr
      exact ⟨this.1, by show n + r.1 < n + r.2; omega⟩
    · obtain ⟨r, hr, rfl⟩ := List.mem_map.mp z
      have := sts_mem h hr
      exact ⟨this.1, by show r.1 < n + r.2; omega⟩
theorem sel_fst {c : Nat → Bool} {g : Nat → Nat × Nat} {i : Nat} (h : ∀ x, (g x).1 = x) : (selN c g i).map Prod.fst = (List.range i).filter c := by
  unfold selN
  rw [List.map_map]
  conv => rhs; rw [← List.map_id ((List.range i).filter c)]
  exact List.map_congr_left fun x _ => h x
theorem jns_nodup {n : Nat} {fs : List Nat} (h : IsPair (2 * n) fs) : ((jns fs n).map Prod.fst).Nodup := by
  have e1 : (ups fs n).map Prod.fst = (List.range n).filter (upC fs n) := sel_fst fun _ => rfl
  have e2 : ((los fs n).map (fun p => (n + p.1, n + p.2))).map Prod.fst = ((List.range n).filter (loC fs n)).map (fun x => n + x) := by
    rw [← sel_fst (c := loC fs n) (g := loG fs n) (i := n) fun _ => rfl, List.map_map, List.map_map]; rfl
  have e3 : ((sts fs n).map (fun p => (p.1, n + p.2))).map Prod.fst = (List.range n).filter (stC fs n) := by
    rw [← sel_fst (c := stC fs n) (g := stG fs n) (i := n) fun _ => rfl, List.map_map]; rfl
  unfold jns
  rw [List.map_append, List.map_append, e1, e2, e3]
  have nr : (List.range n).Nodup := List.nodup_range
  refine List.nodup_append.mpr ⟨nr.filter _, List.nodup_append.mpr ⟨?_, nr.filter _, fun a ha b hb => ?_⟩, fun a ha b hb => ?_⟩
  · exact List.Pairwise.map _ (fun a b (hab : a ≠ b) => show n + a ≠ n + b by omega) (nr.filter _)
  · obtain ⟨x, _, rfl⟩ := List.mem_map.mp ha
    have := List.mem_range.mp (List.mem_filter.mp hb).1
    omega
  · have ha1 := List.mem_range.mp (List.mem_filter.mp ha).1
    have ha2 := (List.mem_filter.mp ha).2
    unfold upC at ha2
    rw [Bool.and_eq_true, decide_eq_true_iff, decide_eq_true_iff] at ha2
    rcases List.mem_append.mp hb with z | z
    · obtain ⟨x, _, rfl⟩ := List.mem_map.mp z; omega
    · have hb2 := (List.mem_filter.mp z).2
      unfold stC at hb2
      rw [decide_eq_true_iff] at hb2
      intro e; subst e; omega
theorem jns_all {n : Nat} {fs : List Nat} (h : IsPair (2 * n) fs) {z y : Nat} (e : fs[z]? = some y) (hz : z < y) : (z, y) ∈ jns fs n := by
  obtain ⟨_, hy, hz2, _⟩ := h.back e
  unfold jns
  by_cases c : z < n
  · by_cases d : y < n
    · refine List.mem_append.mpr (.inl (selN_mem.mpr ⟨z, c, ?_, ?_⟩))
      · unfold upC; rw [getD_of e, decide_eq_true hz, decide_eq_true d]; rfl
      · unfold upG; rw [getD_of e]
    · refine List.mem_append.mpr (.inr (List.mem_append.mpr (.inr (List.mem_map.mpr ⟨(z, y - n), selN_mem.mpr ⟨z, c, ?_, ?_⟩, ?_⟩))))
      · unfold stC; rw [getD_of e]; exact decide_eq_true (by omega)
      · unfold stG; rw [getD_of e]
      · show (z, n + (y - n)) = (z, y); rw [show n + (y - n) = y by omega]
  · have e' : fs[n + (z - n)]? = some y := by rw [show n + (z - n) = z by omega]; exact e
    refine List.mem_append.mpr (.inr (List.mem_append.mpr (.inl (List.mem_map.mpr ⟨(z - n, y - n), selN_mem.mpr ⟨z - n, by omega, ?_, ?_⟩, ?_⟩))))
    · unfold loC; rw [getD_of e']; exact decide_eq_true (by omega)
    · unfold loG; rw [getD_of e']
    · show (n + (z - n), n + (y - n)) = (z, y); rw [show n + (z - n) = z by omega, show n + (y - n) = y by omega]
/-- the ends of joins in a row -/
def flat : List (Nat × Nat) → List Nat
  | [] => []
  | p :: r => p.1 :: p.2 :: flat r
theorem flat_app : ∀ a b : List (Nat × Nat), flat (a ++ b) = flat a ++ flat b
  | [], _ => rfl
  | p :: r, b => by show p.1 :: p.2 :: flat (r ++ b) = _; rw [flat_app r b]; rfl
theorem flat_mem : ∀ {l : List (Nat × Nat)} {z : Nat}, z ∈ flat l ↔ ∃ p ∈ l, z = p.1 ∨ z = p.2
  | [], z => by simp [flat]
  | p :: r, z => by
    show z ∈ p.1 :: p.2 :: flat r ↔ _
    rw [List.mem_cons, List.mem_cons, flat_mem (l := r)]
    constructor
    · rintro (e | e | ⟨q, hq, e⟩)
      · exact ⟨p, List.mem_cons_self, .inl e⟩
      · exact ⟨p, List.mem_cons_self, .inr e⟩
      · exact ⟨q, List.mem_cons_of_mem _ hq, e⟩
    · rintro ⟨q, hq, e⟩
      rcases List.mem_cons.mp hq with z | z
      · subst z; exact e.elim .inl (fun e => .inr (.inl e))
      · exact .inr (.inr ⟨q, z, e⟩)
theorem flat_len : ∀ l : List (Nat × Nat), (flat l).length = 2 * l.length
  | [] => rfl
  | p :: r => by show (flat r).length + 1 + 1 = 2 * (r.length + 1); rw [flat_len r]; omega
theorem flat_nodup {n : Nat} {fs : List Nat} (h : IsPair n fs) : ∀ {l : List (Nat × Nat)}, (∀ p ∈ l, fs[p.1]? = some p.2 ∧ p.1 < p.2) → (l.map Prod.fst).Nodup → (flat l).Nodup
  | [], _, _ => List.nodup_nil
  | p :: r, ho, hd => by
    have hp := ho p List.mem_cons_self
    obtain ⟨n1, n2⟩ := List.nodup_cons.mp (show (p.1 :: r.map Prod.fst).Nodup from hd)
    have hr : ∀ q ∈ r, fs[q.1]? = some q.2 ∧ q.1 < q.2 := fun q hq => ho q (List.mem_cons_of_mem _ hq)
    have ih := flat_nodup h hr n2
    have bp := (h.back hp.1).1
    have ne1 : ∀ q ∈ r, p.1 ≠ q.1 := fun q hq e => n1 (List.mem_map.mpr ⟨q, hq, e.symm⟩)
    show (p.1 :: p.2 :: flat r).Nodup
    refine List.nodup_cons.mpr ⟨fun hm => ?_, List.nodup_cons.mpr ⟨fun hm => ?_, ih⟩⟩
    · rcases List.mem_cons.mp hm with e | e
      · omega
      · obtain ⟨q, hq, e⟩ := flat_mem.mp e
        have hq' := hr q hq
        rcases e with e | e
        · exact ne1 q hq e
        · have bq := (h.back hq'.1).1
          rw [← e, hp.1] at bq
          have := Option.some.inj bq
          omega
    · obtain ⟨q, hq, e⟩ := flat_mem.mp hm
      have hq' := hr q hq
      rcases e with e | e
      · have e1 := hq'.1
        rw [← e, bp] at e1
        have := Option.some.inj e1
        omega
      · have bq := (h.back hq'.1).1
        rw [← e, bp] at bq
        exact ne1 q hq (Option.some.inj bq)
theorem jns_perm {n : Nat} {fs : List Nat} (h : IsPair (2 * n) fs) : (flat (jns fs n)).Perm (List.range (2 * n)) := by
  refine (List.perm_ext_iff_of_nodup (flat_nodup h (jns_ok h) (jns_nodup h)) List.nodup_range).mpr fun z => ?_
  rw [flat_mem, List.mem_range]
  constructor
  · rintro ⟨p, hp, e⟩
    obtain ⟨b1, b2, b3, _⟩ := h.back (jns_ok h p hp).1
    rcases e with e | e <;> omega
  · intro hz
    obtain ⟨y, ey, hy, hne, eb⟩ := h.par z hz
    by_cases c : z < y
    · exact ⟨_, jns_all h ey c, .inl rfl⟩
    · exact ⟨_, jns_all h eb (by omega), .inr rfl⟩
theorem flat_two {f : Nat → Bool} : ∀ {l : List (Nat × Nat)}, (∀ p ∈ l, f p.1 = true ∧ f p.2 = true) → (flat l).countP f = 2 * l.length
  | [], _ => rfl
  | p :: r, h => by
    have hp := h p List.mem_cons_self
    show (p.1 :: p.2 :: flat r).countP f = _
    rw [List.countP_cons_of_pos hp.1, List.countP_cons_of_pos hp.2, flat_two fun q hq => h q (List.mem_cons_of_mem _ hq), List.length_cons]
    omega
theorem flat_none {f : Nat → Bool} : ∀ {l : List (Nat × Nat)}, (∀ p ∈ l, f p.1 = false ∧ f p.2 = false) → (flat l).countP f = 0
  | [], _ => rfl
  | p :: r, h => by
    have hp := h p List.mem_cons_self
    show (p.1 :: p.2 :: flat r).countP f = _
    rw [List.countP_cons_of_neg (by rw [hp.1]; decide), List.countP_cons_of_neg (by rw [hp.2]; decide), flat_none fun q hq => h q (List.mem_cons_of_mem _ hq)]
theorem flat_one {f : Nat → Bool} : ∀ {l : List (Nat × Nat)}, (∀ p ∈ l, f p.1 = true ∧ f p.2 = false) → (flat l).countP f = l.length
  | [], _ => rfl
  | p :: r, h => by
    have hp := h p List.mem_cons_self
    show (p.1 :: p.2 :: flat r).countP f = _
    rw [List.countP_cons_of_pos hp.1, List.countP_cons_of_neg (by rw [hp.2]; decide), flat_one fun q hq => h q (List.mem_cons_of_mem _ hq), List.length_cons]
theorem range_low (n : Nat) : (List.range (2 * n)).countP (fun z => decide (z < n)) = n := by
  rw [show 2 * n = n + n by omega, List.range_add, List.countP_append, List.countP_eq_length.mpr (fun a ha => decide_eq_true (List.mem_range.mp ha)), List.countP_eq_zero.mpr (fun a ha => ?_), List.length_range, Nat.add_zero]
  obtain ⟨x, _, rfl⟩ := List.mem_map.mp ha
  rw [decide_eq_true_iff]; omega
theorem ups_los {n : Nat} {fs : List Nat} (h : IsPair (2 * n) fs) : (ups fs n).length = (los fs n).length := by
  have hp := jns_perm h
  have hl := hp.length_eq
  have hc := hp.countP_eq (fun z => decide (z < n))
  rw [range_low] at hc
  rw [flat_len, List.length_range] at hl
  unfold jns at hc hl
  rw [List.length_append, List.length_append, List.length_map, List.length_map] at hl
  have x1 : (flat (ups fs n)).countP (fun z => decide (z < n)) = 2 * (ups fs n).length := flat_two fun p hp => by
    have := ups_mem h hp
    exact ⟨decide_eq_true (by omega), decide_eq_true (by omega)⟩
  have x2 : (flat ((los fs n).map (fun p => (n + p.1, n + p.2)))).countP (fun z => decide (z < n)) = 0 := flat_none fun p hp => by
    obtain ⟨r, hr, rfl⟩ := List.mem_map.mp hp
    exact ⟨decide_eq_false (by show ¬ n + r.1 < n; omega), decide_eq_false (by show ¬ n + r.2 < n; omega)⟩
  have x3 : (flat ((sts fs n).map (fun p => (p.1, n + p.2)))).countP (fun z => decide (z < n)) = ((sts fs n).map (fun p => (p.1, n + p.2))).length := flat_one fun p hp => by
    obtain ⟨r, hr, rfl⟩ := List.mem_map.mp hp
    have := sts_mem h hr
    exact ⟨decide_eq_true (by show r.1 < n; omega), decide_eq_false (by show ¬ n + r.2 < n; omega)⟩
  rw [flat_app, flat_app, List.countP_append, List.countP_append, x1, x2, x3, List.length_map] at hc
  omega
end Pc
namespace Pc
open PySem PySem.Spec PyProof.Rows L2 RZ
/-! ### the heap without some objects -/
open Classical in
noncomputable def off (S : Addr → Prop) (H : Hp) : Hp := fun a => if S a then none else H a
theorem off_le {S : Addr → Prop} {H : Hp} : Same (off S H) H := fun a o h => by
  unfold off at h
  by_cases e : S a
  · rw [if_pos e] at h; cases h
  · rw [if_neg e] at h; exact h
theorem off_keep {S : Addr → Prop} {b : Addr} {H H' : Hp} (hb : S b) (k : Keep b H H') : Same (off S H) (off S H') := fun a o h => by
  unfold off at h ⊢
  by_cases e : S a
  · rw [if_pos e] at h; cases h
  · rw [if_neg e] at h ⊢; exact k a o (fun z => e (z ▸ hb)) h
theorem off_same {S : Addr → Prop} {H H' : Hp} (s : Same H H') : Same (off S H) (off S H') := fun a o h => by
  unfold off at h ⊢
  by_cases e : S a
  · rw [if_pos e] at h; cases h
  · rw [if_neg e] at h ⊢; exact s a o h
theorem off_get {S : Addr → Prop} {a : Addr} {H : Hp} {o : HO} (h : ¬ S a) (e : H a = some o) : off S H a = some o := by
  unfold off; rw [if_neg h]; exact e
theorem off_more {S S' : Addr → Prop} {H : Hp} (h : ∀ a, S a → S' a) : Same (off S' H) (off S H) := fun a o e => by
  unfold off at e ⊢
  by_cases z : S' a
  · rw [if_pos z] at e; cases e
  · rw [if_neg z] at e; rw [if_neg (fun y => z (h a y))]; exact e
/-- all of S is there -/
def Has (S : Addr → Prop) (H : Hp) : Prop := ∀ a, S a → ∃ o, H a = some o
theorem Has.same {S : Addr → Prop} {H H' : Hp} (h : Has S H) (s : Same H H') : Has S H' := fun a ha => let ⟨o, e⟩ := h a ha; ⟨o, s _ _ e⟩
theorem Has.new {S : Addr → Prop} {H : Hp} {p : Addr} (h : Has S H) (np : H p = none) : ¬ S p := fun z => by
  obtain ⟨o, e⟩ := h p z
  rw [np] at e; cases e
/-! ### data that is written out -/
def tD (K : PySem.W.Frag) (S : Addr → Prop) (d : PyData) : TE := fun _ H Q => Has S H ∧ ∀ v H', Same H H' → Dp K (off S H') v d → Q v H'
def tDs (K : PySem.W.Frag) (S : Addr → Prop) (ds : List PyData) : TA := fun _ H Q => Has S H ∧ ∀ vs H', Same H H' → DpAll K (off S H') vs ds → Q vs H'
section
variable {X : Cx} {S : Addr → Prop}
theorem pd_of {e : Expr} {t : TE} {v : V} {d : PyData} (h : PE X e t) (ht : ∀ σ H (Q : VK), Q v H → t σ H Q) (hd : ∀ H, Dp X.K H v d) : PE X e (tD X.K S d) := ⟨fun pins s σ H Q I q => h.run pins s σ H Q I (ht σ H Q (q.2 _ _ (fun _ _ z => z) (hd _)))⟩
theorem pd_int {i : Int} {j pos} : PE X (.Constant (.int i) j pos) (tD X.K S (.int i)) := pd_of pe_int (fun _ _ _ q => q) fun _ => .int i
theorem pd_bl {i : Bool} {j pos} : PE X (.Constant (.bool i) j pos) (tD X.K S (.bool i)) := pd_of pe_bl (fun _ _ _ q => q) fun _ => .bl i
theorem pd_non {j pos} : PE X (.Constant .none j pos) (tD X.K S .none) := pd_of pe_non (fun _ _ _ q => q) fun _ => .non
theorem pd_str {x : Str} {j pos} : PE X (.Constant (.str x) j pos) (tD X.K S (.str x)) := pd_of pe_str (fun _ _ _ q => q) fun _ => .str x
theorem pd_nil : PA X [] (tDs X.K S []) := ⟨fun pos pins s σ H Q I h => pa_nil.run pos pins s σ H Q I (h.2 _ _ (fun _ _ z => z) .nil)⟩
theorem pd_cons {e : Expr} {es : List Expr} {d : PyData} {ds : List PyData} (ha : PE X e (tD X.K S d)) (hr : PA X es (tDs X.K S ds)) (hs : starEach (e :: es) X.env = (false, eval e X.env) :: starEach es X.env := by rfl) : PA X (e :: es) (tDs X.K S (d :: ds)) :=
  ⟨fun pos pins s σ H Q I h => (pa_cons ha hr hs).run pos pins s σ H Q I ⟨h.1, fun v H1 s1 d1 => ⟨h.1.same s1, fun vs H2 s2 d2 => h.2 (v :: vs) H2 (s1.trans s2) (.cons (dp_same (off_same s2) d1) d2)⟩⟩⟩
theorem pd_tup {es : List Expr} {ds : List PyData} {x1} {pos : Pos} (h : PA X es (tDs X.K S ds)) (hl : ds.length ≤ 100000 := by decide) : PE X (.Tuple es x1 pos) (tD X.K S (.tuple ds)) :=
  ⟨fun pins s σ H Q I hq => (pe_tup h).run pins s σ H Q I ⟨hq.1, fun vs H1 s1 d1 => ⟨by rw [dpa_len d1]; exact Nat.le_of_lt (line_big hl), fun p np => hq.2 _ _ (s1.trans (same_new np)) (.tup (.inl (.inl (off_get ((hq.1.same s1).new np) upd_same))) (dpa_same (off_same (same_new np)) d1))⟩⟩⟩
theorem pd_lst {es : List Expr} {ds : List PyData} {pos : Pos} (h : PA X es (tDs X.K S ds)) (hl : ds.length ≤ 100000 := by decide) : PE X (.List es pos) (tD X.K S (.list ds)) :=
  ⟨fun pins s σ H Q I hq => (pe_lst h).run pins s σ H Q I ⟨hq.1, fun vs H1 s1 d1 => ⟨by rw [dpa_len d1]; exact Nat.le_of_lt (line_big hl), fun p np => hq.2 _ _ (s1.trans (same_new np)) (.lst (.inl (.inl (off_get ((hq.1.same s1).new np) upd_same))) (dpa_same (off_same (same_new np)) d1))⟩⟩⟩
end
/-! ### the kinds -/
def tyN : PyData → String
  | .none => "NoneType"
  | .bool _ => "bool"
  | .int _ => "int"
  | .str _ => "str"
  | .list _ => "list"
  | .tuple _ => "tuple"
  | .dict _ => "dict"
theorem dp_ty {K : PySem.W.Frag} {H : Hp} : ∀ {v : V} {d : PyData}, Dp K H v d → TyX K H v (.type (tyN d))
  | _, _, .non => .base .non
  | _, _, .bl b => .base (.bl b)
  | _, _, .int i => .base (.int i)
  | _, _, .str x => .base (.str x)
  | _, _, .lst h _ => ty_lst h
  | _, _, .tup h _ => ty_tup h
def isI : PyData → Bool
  | .int _ | .bool _ => true
  | _ => false
def isB : PyData → Bool
  | .bool _ => true
  | _ => false
def isT : PyData → Bool
  | .tuple _ => true
  | _ => false
def isL : PyData → Bool
  | .list _ => true
  | _ => false
theorem k_int {K : PySem.W.Frag} {H : Hp} {v : V} {d : PyData} (h : Dp K H v d) : PySem.W.kitOne K (.type (tyN d)) (.type "int") = some (isI d) := by
  cases h
  · exact one_none_int
  · exact one_bool_int
  · exact one_int_int
  · exact one_str_int
  · exact one_list_int
  · exact one_tuple_int
theorem k_bool {K : PySem.W.Frag} {H : Hp} {v : V} {d : PyData} (h : Dp K H v d) : PySem.W.kitOne K (.type (tyN d)) (.type "bool") = some (isB d) := by
  cases h
  · exact one_none_bool
  · exact one_bool_bool
  · exact one_int_bool
  · exact one_str_bool
  · exact one_list_bool
  · exact one_tuple_bool
theorem k_tuple {K : PySem.W.Frag} {H : Hp} {v : V} {d : PyData} (h : Dp K H v d) : PySem.W.kitOne K (.type (tyN d)) (.type "tuple") = some (isT d) := by
  cases h
  · exact one_none_tuple
  · exact one_bool_tuple
  · exact one_int_tuple
  · exact one_str_tuple
  · exact one_list_tuple
  · exact one_tuple_tuple
theorem k_list {K : PySem.W.Frag} {H : Hp} {v : V} {d : PyData} (h : Dp K H v d) : PySem.W.kitOne K (.type (tyN d)) (.type "list") = some (isL d) := by
  cases h
  · exact one_none_list
  · exact one_bool_list
  · exact one_int_list
  · exact one_str_list
  · exact one_list_list
  · exact one_tuple_list
theorem k_lt {K : PySem.W.Frag} {H : Hp} {v : V} {d : PyData} (h : Dp K H v d) : PySem.W.kitAny K (.type (tyN d)) [.type "list", .type "tuple"] = some (isL d || isT d) := by
  cases h
  · exact any_lt_none
  · exact any_lt_bool
  · exact any_lt_int
  · exact any_lt_str
  · exact any_lt_list
  · exact any_lt_tuple
/-! ### joined in pairs -/
def belowB (n : Nat) : PyData → Bool
  | .int i => decide (0 ≤ i) && decide (i < (n : Int))
  | _ => false
def natOf : PyData → Nat
  | .int i => i.toNat
  | _ => 0
def pairB (fs : List Nat) (i : Nat) : Bool := !decide (fs.getD i 0 = i) && decide (fs.getD (fs.getD i 0) 0 = i)
def joinB (ds : List PyData) : Bool := ds.all (belowB ds.length) && (List.range ds.length).all (pairB (ds.map natOf))
theorem below_nats {K : PySem.W.Frag} {H : Hp} {n : Nat} : ∀ {vs : List V} {ds : List PyData}, DpAll K H vs ds → ds.all (belowB n) = true → vs = nv (ds.map natOf) ∧ ∀ x ∈ ds.map natOf, x < n
  | _, _, .nil, _ => ⟨rfl, fun x hx => by simp at hx⟩
  | _, _, .cons (d := d) (ds := ds) h r, e => by
    rw [List.all_cons, Bool.and_eq_true] at e
    obtain ⟨e1, e2⟩ := e
    obtain ⟨g1, g2⟩ := below_nats r e2
    cases h with
    | int i =>
      unfold belowB at e1
      rw [Bool.and_eq_true, decide_eq_true_iff, decide_eq_true_iff] at e1
      refine ⟨?_, fun x hx => ?_⟩
      · rw [g1]
        show V.int i :: nv (ds.map natOf) = V.int ((i.toNat : Nat) : Int) :: nv (ds.map natOf)
        rw [show ((i.toNat : Nat) : Int) = i by omega]
      · rcases List.mem_cons.mp (show x ∈ i.toNat :: ds.map natOf from hx) with z | z
        · omega
        · exact g2 x z
    | non => cases e1
    | bl => cases e1
    | str => cases e1
    | lst => cases e1
    | tup => cases e1
def joinD : PyData → Bool
  | .tuple ds => joinB ds
  | _ => false
def isPairB : PyData → Bool
  | .tuple ds => joinB ds && decide (0 < ds.length)
  | _ => false
theorem all_take_bl {α : Type} (f : α → Bool) {l : List α} {i : Nat} {x : α} (h : l[i]? = some x) : ((l.take (i + 1)).map f).map V.bl = ((l.take i).map f).map V.bl ++ [V.bl (f x)] := by
  rw [List.take_add_one, h, List.map_append, List.map_append]
  rfl
end Pc
namespace Pc
open PySem PySem.Spec PyProof.Rows L2 RZ
/-- a comprehension over a list or a tuple that stays as it is -/
theorem lc_seq' {K : PySem.W.Frag} {a : Addr} {xs : List V} {g : TG} {tt : TT} {te : TE} {vs : List Nat} {σ : L2.St} {H0 H1 : Hp} {Qd : Addr → Hp → Prop} (hS : Sq K H0 a xs) (s0 : Same H0 H1)
    (step : ∀ D, H1 D = none → ∃ Pv : Nat → Hp → Prop, Pv 0 (upd H1 D (.lst [])) ∧ (∀ i H', Pv i H' → Same H0 H') ∧ (∀ i x H', xs[i]? = some x → Pv i H' → g x (wipe σ vs) H' fun σ2 H2 => wipe σ2 vs = wipe σ vs ∧ tt σ2 H2 fun b H3 =>
      if b = true then te σ2 H3 fun y H4 => ∃ acc, H4 D = some (.lst acc) ∧ acc.length < sizeLine ∧ Pv (i + 1) (upd H4 D (.lst (acc ++ [y]))) else Pv (i + 1) H3) ∧ ∀ H', Pv xs.length H' → Qd D H') :
    ((∃ ys, SqL K H1 a ys) ∧ ∀ D, H1 D = none → ∃ W : Nat → Nat → Hp → Prop, (∃ m, W 0 m (upd H1 D (.lst []))) ∧ ∀ i m H, W i m H → ((Itl K a).stop i H ∧ Qd D H) ∨ ((Itl K a).go i H ∧ ∃ Nx : Hp → Prop, (∀ H', Nx H' → ∃ m', m' < m ∧ W (i + 1) m' H') ∧ ∀ x H', (Itl K a).yld i H x H' → g x (wipe σ vs) H' fun σ2 H2 => wipe σ2 vs = wipe σ vs ∧ tt σ2 H2 fun b H3 =>
        if b = true then te σ2 H3 fun y H4 => ∃ acc, H4 D = some (.lst acc) ∧ acc.length < sizeLine ∧ Nx (upd H4 D (.lst (acc ++ [y]))) else Nx H3)) ∨
    ((∃ ys, SqT K H1 a ys) ∧ ∀ D, H1 D = none → ∃ W : Nat → Nat → Hp → Prop, (∃ m, W 0 m (upd H1 D (.lst []))) ∧ ∀ i m H, W i m H → ((Itt K a).stop i H ∧ Qd D H) ∨ ((Itt K a).go i H ∧ ∃ Nx : Hp → Prop, (∀ H', Nx H' → ∃ m', m' < m ∧ W (i + 1) m' H') ∧ ∀ x H', (Itt K a).yld i H x H' → g x (wipe σ vs) H' fun σ2 H2 => wipe σ2 vs = wipe σ vs ∧ tt σ2 H2 fun b H3 =>
        if b = true then te σ2 H3 fun y H4 => ∃ acc, H4 D = some (.lst acc) ∧ acc.length < sizeLine ∧ Nx (upd H4 D (.lst (acc ++ [y]))) else Nx H3)) := by
  rcases hS with h | h
  · refine .inl ⟨⟨_, s0.seq h⟩, fun D nD => ?_⟩
    obtain ⟨Pv, h0, hst, hs, hd⟩ := step D nD
    exact lc_list Pv h0 (fun i H' _ p => (hst i H' p).seq h) hs hd
  · refine .inr ⟨⟨_, same_tup s0 h⟩, fun D nD => ?_⟩
    obtain ⟨Pv, h0, hst, hs, hd⟩ := step D nD
    exact lc_tup Pv h0 (fun i H' _ p => same_tup (hst i H' p) h) hs hd
end Pc
namespace Pc
open PySem PySem.Spec PyProof.Rows L2 RZ
/-! ### data of any kind: leaves, weight -/
mutual
def okD (B : Nat) : PyData → Prop
  | .none | .bool _ => True
  | .int i => i.natAbs ≤ B
  | .str x => PyData.strOk x = true
  | .list xs | .tuple xs => okAll B xs
  | .dict _ => False
def okAll (B : Nat) : List PyData → Prop
  | [] => True
  | x :: xs => okD B x ∧ okAll B xs
end
mutual
def wt : PyData → Nat
  | .none | .bool _ => 5
  | .int _ => 130
  | .str x => 10 * x.length + 2
  | .list xs | .tuple xs => 3 + wtAll xs
  | .dict _ => 0
def wtAll : List PyData → Nat
  | [] => 0
  | x :: xs => wt x + 2 + wtAll xs
end
theorem okAll_iff {B : Nat} : ∀ {ds : List PyData}, okAll B ds ↔ ∀ x ∈ ds, okD B x
  | [] => ⟨fun _ x hx => by simp at hx, fun _ => trivial⟩
  | d :: r => by
    show okD B d ∧ okAll B r ↔ _
    rw [okAll_iff (ds := r)]
    constructor
    · rintro ⟨h1, h2⟩ x hx
      rcases List.mem_cons.mp hx with z | z
      · rw [z]; exact h1
      · exact h2 x z
    · exact fun h => ⟨h d List.mem_cons_self, fun x hx => h x (List.mem_cons_of_mem _ hx)⟩
mutual
theorem okD_mono {B C : Nat} (h : B ≤ C) : ∀ {d : PyData}, okD B d → okD C d
  | .none, _ => trivial
  | .bool _, _ => trivial
  | .int i, e => Nat.le_trans (show i.natAbs ≤ B from e) h
  | .str _, e => e
  | .list _, e => okAll_mono h (show okAll B _ from e)
  | .tuple _, e => okAll_mono h (show okAll B _ from e)
  | .dict _, e => e
theorem okAll_mono {B C : Nat} (h : B ≤ C) : ∀ {ds : List PyData}, okAll B ds → okAll C ds
  | [], _ => trivial
  | _ :: _, ⟨a, b⟩ => ⟨okD_mono h a, okAll_mono h b⟩
end
theorem wtAll_app : ∀ a b : List PyData, wtAll (a ++ b) = wtAll a + wtAll b
  | [], b => (Nat.zero_add _).symm
  | x :: r, b => by show wt x + 2 + wtAll (r ++ b) = wt x + 2 + wtAll r + wtAll b; rw [wtAll_app r b]; omega
theorem wtAll_get : ∀ {ds : List PyData} {i : Nat} {x : PyData}, ds[i]? = some x → wt x + 2 ≤ wtAll ds
  | [], _, _, h => by simp at h
  | d :: r, 0, _, h => by cases Option.some.inj h; show _ ≤ wt d + 2 + wtAll r; omega
  | d :: r, i + 1, x, h => Nat.le_trans (wtAll_get (ds := r) (i := i) h) (by show _ ≤ wt d + 2 + wtAll r; omega)
theorem wtAll_set : ∀ {ds : List PyData} {i : Nat} {x : PyData} (y : PyData), ds[i]? = some x → wtAll (ds.set i y) + wt x = wtAll ds + wt y
  | [], _, _, _, h => by simp at h
  | d :: r, 0, _, y, h => by cases Option.some.inj h; show wt y + 2 + wtAll r + wt d = wt d + 2 + wtAll r + wt y; omega
  | d :: r, i + 1, x, y, h => by
    have := wtAll_set (ds := r) (i := i) y h
    show wt d + 2 + wtAll (r.set i y) + wt x = wt d + 2 + wtAll r + wt y
    omega
theorem wtAll_len : ∀ ds : List PyData, 2 * ds.length ≤ wtAll ds
  | [] => Nat.le_refl _
  | d :: r => by have := wtAll_len r; show 2 * (r.length + 1) ≤ wt d + 2 + wtAll r; omega
theorem wtAll_nd : ∀ l : List Nat, wtAll (nd l) = 132 * l.length
  | [] => rfl
  | x :: r => by show 130 + 2 + wtAll (nd r) = 132 * (r.length + 1); rw [wtAll_nd r]; omega
theorem strOk_signs {x : Str} (h : PyData.strOk x = true) : ∀ c ∈ x.cps.toList, c < 16 ^ 8 := fun c hc => by
  unfold PyData.strOk at h
  rw [← Array.all_toList] at h
  have h2 := of_decide_eq_true (List.all_eq_true.mp h c hc)
  exact Nat.lt_of_lt_of_le h2 (by decide)
theorem strOk_of (t : String) : PyData.strOk (Str.ofString t) = true := by
  unfold PyData.strOk
  rw [← Array.all_toList]
  refine List.all_eq_true.mpr fun c hc => decide_eq_true ?_
  rw [Str.ofString_eq_toList] at hc
  have hc' : c ∈ t.toList.map Char.toNat := by simpa using hc
  obtain ⟨z, _, rfl⟩ := List.mem_map.mp hc'
  have := z.valid
  rcases this with h | h
  · exact Nat.lt_of_lt_of_le h (by decide)
  · exact h.2
mutual
theorem shown_wt {B : Nat} (hB : B < 2 ^ 126) : ∀ {d : PyData}, okD B d → d.shown.length ≤ wt d
  | .none, _ => by decide
  | .bool b, _ => by cases b <;> decide
  | .int i, e => by
    have e' : i.natAbs ≤ B := e
    show (Str.ofString (toString i)).length ≤ 130
    rw [str_len]
    exact Nat.le_trans (int_text_length_le (k := 126) (by decide) (log_lt (by omega) (by decide))) (by decide)
  | .str x, e => by
    show (reprText x).length ≤ 10 * x.length + 2
    exact StrLaws.reprText_len x (strOk_signs e)
  | .list xs, e => by
    have h := shownAll_wt hB (show okAll B xs from e)
    have h3 := listText_len_le (PyData.shownAll xs)
    show (listText (PyData.shownAll xs)).length ≤ 3 + wtAll xs
    omega
  | .tuple xs, e => by
    have h := shownAll_wt hB (show okAll B xs from e)
    have h3 := tupleText_len_le (PyData.shownAll xs)
    show (tupleText (PyData.shownAll xs)).length ≤ 3 + wtAll xs
    omega
  | .dict _, e => e.elim
theorem shownAll_wt {B : Nat} (hB : B < 2 ^ 126) : ∀ {ds : List PyData}, okAll B ds → ((PyData.shownAll ds).map (·.length)).sum + 2 * (PyData.shownAll ds).length ≤ wtAll ds
  | [], _ => Nat.le_refl _
  | d :: r, ⟨e1, e2⟩ => by
    have h1 := shown_wt hB e1
    have h2 := shownAll_wt hB e2
    show ((d.shown :: PyData.shownAll r).map (·.length)).sum + 2 * ((PyData.shownAll r).length + 1) ≤ wt d + 2 + wtAll r
    rw [List.map_cons, List.sum_cons]
    omega
end
mutual
theorem okD_lay {B : Nat} : ∀ {d : PyData}, okD B d → d.canLay0 = true
  | .none, _ => rfl
  | .bool _, _ => rfl
  | .int _, _ => rfl
  | .str _, e => e
  | .list _, e => okAll_lay (show okAll B _ from e)
  | .tuple _, e => okAll_lay (show okAll B _ from e)
  | .dict _, e => e.elim
theorem okAll_lay {B : Nat} : ∀ {ds : List PyData}, okAll B ds → PyData.canLayAll0 ds = true
  | [], _ => rfl
  | d :: r, ⟨a, b⟩ => by show (d.canLay0 && PyData.canLayAll0 r) = true; rw [okD_lay a, okAll_lay b]; rfl
end
mutual
theorem okD_show {B : Nat} (hB : B < 2 ^ 126) : ∀ {d : PyData}, okD B d → d.showable = true
  | .none, _ => rfl
  | .bool _, _ => rfl
  | .int i, e => decide_eq_true (Nat.lt_of_lt_of_le (log_lt (k := 126) (Nat.lt_of_le_of_lt (show i.natAbs ≤ B from e) hB) (by decide)) (by decide))
  | .str _, _ => rfl
  | .list _, e => okAll_show hB (show okAll B _ from e)
  | .tuple _, e => okAll_show hB (show okAll B _ from e)
  | .dict _, e => e.elim
theorem okAll_show {B : Nat} (hB : B < 2 ^ 126) : ∀ {ds : List PyData}, okAll B ds → PyData.showableAll ds = true
  | [], _ => rfl
  | d :: r, ⟨a, b⟩ => by show (d.showable && PyData.showableAll r) = true; rw [okD_show hB a, okAll_show hB b]; rfl
end
mutual
theorem nar_wt : ∀ {d : PyData}, wt d ≤ 100000 → narrow d
  | .none, _ => trivial
  | .bool _, _ => trivial
  | .int _, _ => trivial
  | .str _, _ => trivial
  | .list xs, h => by
    have h' : 3 + wtAll xs ≤ 100000 := h
    have := wtAll_len xs
    exact ⟨by omega, narAll_wt (by omega)⟩
  | .tuple xs, h => by
    have h' : 3 + wtAll xs ≤ 100000 := h
    have := wtAll_len xs
    exact ⟨by omega, narAll_wt (by omega)⟩
  | .dict _, _ => trivial
theorem narAll_wt : ∀ {ds : List PyData}, wtAll ds ≤ 100000 → narrowAll ds
  | [], _ => trivial
  | d :: r, h => by
    have h' : wt d + 2 + wtAll r ≤ 100000 := h
    exact ⟨nar_wt (by omega), narAll_wt (by omega)⟩
end
theorem okD_fine {B m k : Nat} {d : PyData} (hB : B < 2 ^ 126) (h : okD B d) (hw : wt d ≤ m) (hm : m ≤ 100000) (hd : d.depth ≤ k) : Fine k m d :=
  ⟨okD_lay h, okD_show hB h, hd, nar_wt (by omega), Nat.le_trans (shown_wt hB h) hw⟩
/-! ### parts of lists of data -/
section
variable {K : PySem.W.Frag} {H : Hp}
theorem dpa_take : ∀ {vs : List V} {ds : List PyData} (i : Nat), DpAll K H vs ds → DpAll K H (vs.take i) (ds.take i)
  | _, _, 0, _ => .nil
  | _, _, _ + 1, .nil => .nil
  | _, _, i + 1, .cons h r => .cons h (dpa_take i r)
theorem dpa_drop : ∀ {vs : List V} {ds : List PyData} (i : Nat), DpAll K H vs ds → DpAll K H (vs.drop i) (ds.drop i)
  | _, _, 0, h => h
  | _, _, _ + 1, .nil => .nil
  | _, _, i + 1, .cons _ r => dpa_drop i r
theorem dpa_app : ∀ {vs us : List V} {ds es : List PyData}, DpAll K H vs ds → DpAll K H us es → DpAll K H (vs ++ us) (ds ++ es)
  | _, _, _, _, .nil, s => s
  | _, _, _, _, .cons h r, s => .cons h (dpa_app r s)
theorem dpa_set : ∀ {vs : List V} {ds : List PyData} (i : Nat) {v : V} {d : PyData}, DpAll K H vs ds → Dp K H v d → DpAll K H (vs.set i v) (ds.set i d)
  | _, _, _, _, _, .nil, _ => .nil
  | _, _, 0, _, _, .cons _ r, h => .cons h r
  | _, _, i + 1, _, _, .cons g r, h => .cons g (dpa_set i r h)
end
theorem cut_to (vs : List V) (i : Nat) : cutV vs none (some (i : Int)) = vs.take i := by
  unfold cutV
  rw [HT.sIx_none, HT.sIx_nat, List.drop_zero, Nat.sub_zero]
  by_cases h : i ≤ vs.length
  · rw [Nat.min_eq_left h]
  · rw [Nat.min_eq_right (by omega), List.take_of_length_le (Nat.le_refl _), List.take_of_length_le (by omega)]
theorem cut_from (vs : List V) (i : Nat) : cutV vs (some (i : Int)) none = vs.drop i := by
  unfold cutV
  rw [HT.sIx_none, HT.sIx_nat]
  by_cases h : i ≤ vs.length
  · rw [Nat.min_eq_left h, List.take_of_length_le (by rw [List.length_drop]; omega)]
  · rw [Nat.min_eq_right (by omega), List.drop_of_length_le (Nat.le_refl _), List.drop_of_length_le (by omega), List.take_nil]
end Pc
namespace Pc
open PySem PySem.Spec PyProof.Rows L2 RZ
/-! ### tuple(range(i, j, c)) -/
def rgC (i c : Int) (n : Nat) : List V := (List.range n).map fun k => V.int (i + (k : Nat) * c)
def rgCD (i c : Int) (n : Nat) : List PyData := (List.range n).map fun k => PyData.int (i + (k : Nat) * c)
theorem dpa_map {K : PySem.W.Frag} {H : Hp} (g : Nat → Int) : ∀ l : List Nat, DpAll K H (l.map fun k => V.int (g k)) (l.map fun k => PyData.int (g k))
  | [] => .nil
  | _ :: r => .cons (.int _) (dpa_map g r)
theorem dpa_rgC {K : PySem.W.Frag} {H : Hp} (i c : Int) (n : Nat) : DpAll K H (rgC i c n) (rgCD i c n) := dpa_map (fun k => i + (k : Nat) * c) _
theorem wt_ints (g : Nat → Int) : ∀ l : List Nat, wtAll (l.map fun k => PyData.int (g k)) = 132 * l.length
  | [] => rfl
  | x :: r => by show 130 + 2 + wtAll (r.map fun k => PyData.int (g k)) = 132 * (r.length + 1); rw [wt_ints g r]; omega
theorem wt_rgCD (i c : Int) (n : Nat) : wtAll (rgCD i c n) = 132 * n := by unfold rgCD; rw [wt_ints, List.length_range]
theorem depth_rgCD (i c : Int) (n : Nat) : PyData.depthAll (rgCD i c n) ≤ 0 := all_depth fun d hd => by
  obtain ⟨k, _, rfl⟩ := List.mem_map.mp hd
  exact Nat.le_refl _
def tTupRgC (ta : TA) : TE := fun σ H Q => ta σ H fun vs H1 => ∃ (i j c : Int) (n : Nat), vs = [.int i, .int j, .int c] ∧ RgC i j c n ∧ n ≤ 2 ^ 20 ∧ ∀ q, H1 q = none → Q (.ref q) (upd H1 q (.tup (rgC i c n)))
theorem vals_rgC {i c : Int} {n : Nat} {acc : Array Value} (h : ItemsOf (fun k v => ∃ t, v = .int (i + k * c) t) acc n) : Vals (rgC i c n) acc.toList := by
  have e : acc.toList.length = n := by rw [Array.length_toList]; exact h.1
  unfold rgC
  rw [← e]
  refine vals_of_get acc.toList _ fun j u hj => ?_
  obtain ⟨t, rfl⟩ := h.2 j u (by rw [← hj, Array.getElem?_toList])
  exact ⟨t, rfl⟩
theorem pe_tupRgC {X : Cx} {a b c : Expr} {ta : TA} {p pos p2 pos2 : Pos} (hc : X.calm = true) (hg : Gl X "tuple") (hm : X.mg "tuple" = none) (hg2 : Gl X "range") (hm2 : X.mg "range" = none) (ha : PA X [a, b, c] ta)
    (na : starEach [.Call (.Name "range" p2) [a, b, c] [] pos2] X.env = (false, eval (.Call (.Name "range" p2) [a, b, c] [] pos2) X.env) :: starEach [] X.env := by rfl)
    (hs : starEach [a, b, c] X.env = (false, eval a X.env) :: starEach [b, c] X.env := by rfl) (hpl : (backTo pos2 (starEach [b, c] X.env)).any (·.1) = false := by rfl) :
    PE X (.Call (.Name "tuple" p) [.Call (.Name "range" p2) [a, b, c] [] pos2] [] pos) (tTupRgC ta) := by
  refine ⟨fun pins s σ H Q I h => ?_⟩
  refine Call_ (ld_blt I hg hm boot_tuple (PyProof.Rows.callWith_type1 (args_cons ?_ na) na))
  refine Call_ (ld_blt I hg2 hm2 boot_range (PyProof.Rows.callWith_type1 (thn (ha.run pos2 pins s σ H _ I h) fun us s1 ⟨vs, H1, I1, r1, q1⟩ => ?_) hs hpl))
  obtain ⟨i, j, k, n, e, ⟨c0, c1, c2, c3⟩, hn, q⟩ := q1
  subst e
  cases r1 with
  | cons r rr =>
    cases rr with
    | cons r' rr =>
      cases rr with
      | cons r'' rr =>
        cases rr
        obtain ⟨t, rfl⟩ := r
        obtain ⟨t', rfl⟩ := r'
        obtain ⟨t'', rfl⟩ := r''
        refine call_range_3 c0 ?_ (.inl (PyProof.noPylong_small c1))
        refine args_nil ?_
        have I2 : Inv X pins σ H1 { s1 with heap := s1.heap.push { cls := .type "range", data := .fields #[.int i t, .int j t', .int k t''] } } := I1.kept (t' := s1.toks) fun b o e => Heap.get?_push_of_some _ e
        refine call_tuple_range (n := n) (I2.ok.hd hc) (IsRange.new ..) c2 c3 (Nat.le_trans hn (by decide)) fun h' tk acc hk hi => ?_
        have I3 := I2.kept (t' := tk) hk
        refine ⟨.ref h'.objs.size, upd H1 h'.objs.size (.tup (rgC i k n)), I3.laid (t' := tk) (fun c o e => Heap.get?_push_of_some _ e) (Nat.le_refl _) (show ObjOk X.prog X.w _ _ _ (.tup (rgC i k n)) from ⟨?_, acc.toList, vals_rgC hi, ?_⟩), rfl, q _ (I3.hok.fresh (Nat.le_refl _))⟩
        · unfold rgC; rw [List.length_map, List.length_range, sizeLine_eq]; omega
        · rw [Array.toArray_toList]; exact IsTup.new _ _
/-! ### repr of any data -/
theorem call_reprV {X : Cx} (hgd : X.A.guards = some []) (hu : X.A.units + 64 < cLine) : CallR X (.builtin "repr") (fun xs H Q => ∃ (v : V) (d : PyData), xs = [v] ∧ Dp X.K H v d ∧ d.canLay0 = true ∧ d.showable = true ∧ d.depth ≤ 60 ∧ d.shown.length ≤ sizeLine ∧ Q (.str d.shown) H) := by
  intro pins s σ H xs us Q I r h
  obtain ⟨v, d, rfl, hd, hl, hs, hdp, hz, q⟩ := h
  obtain ⟨u, rfl, ru⟩ := vals1 r
  cases hd with
  | non => cases ru; exact PySem.P.repr_of_none ⟨.str _, H, I.tok _, ⟨_, rfl⟩, q⟩
  | bl b => cases ru; exact PySem.P.repr_of_bool ⟨.str _, H, I.tok _, ⟨_, rfl⟩, q⟩
  | int i =>
    obtain ⟨t, rfl⟩ := ru
    exact PySem.P.repr_of_int (of_decide_eq_true hs) ⟨.str _, H, I.tok _, ⟨_, rfl⟩, q⟩
  | str x =>
    obtain ⟨t, rfl⟩ := ru
    exact PySem.P.repr_of_str ⟨.str _, H, I.tok _, ⟨_, rfl⟩, q⟩ hz
  | lst hS hA =>
    exact call_reprD hgd hu pins s σ H _ _ Q I r ⟨_, _, rfl, .lst hS hA, hl, hs, hdp, hz, q⟩
  | tup hS hA =>
    exact call_reprD hgd hu pins s σ H _ _ Q I r ⟨_, _, rfl, .tup hS hA, hl, hs, hdp, hz, q⟩
end Pc
namespace Pc
open PySem PySem.Spec PyProof.Rows L2 RZ
section
variable {P : Program} {w : World} {K : PySem.W.Frag} {mg : Str → Option Value} {base : Heap}
/-! ### is it joined in pairs? whatever it is -/
def spBelowD (K : PySem.W.Frag) : Sp := fun vs H Q _ => ∃ (v : V) (d : PyData) (n : Nat), vs = [v, .int n] ∧ Dp K H v d ∧ Q (.bl (belowB n d)) H
theorem ok_p_belowD (T : Env K mg) : FnOk P w K mg base CX0 1 T.f_p_is_integer_below T.d_p_is_integer_below ["value", "limit"] (spBelowD K) := by
  refine T.F_p_is_integer_below.ok sc_p_is_integer_below (fun vs H Q E h => ?_) (fun cdv A outer s H vs Q E hr h => ?_)
  · obtain ⟨v, d, n, rfl, _⟩ := h
    rfl
  · obtain ⟨v, d, n, rfl, hd, q⟩ := h
    refine ⟨_, pss_cons (ps_if (PW.pt (pw_or (pt_not (pt_val (pe_callB call_isi (by rfl) T.n_isinstance (by decide +kernel) (pa_cons (pv 0) (pa_cons (pe_bltn (v := .ty "int") (by rfl) T.n_int (by decide +kernel) rfl) pa_nil)))))
        (pw_or1 (pt_val (pe_callB call_isi (by rfl) T.n_isinstance (by decide +kernel) (pa_cons (pv 0) (pa_cons (pe_bltn (v := .ty "bool") (by rfl) T.n_bool (by decide +kernel) rfl) pa_nil)))))))
        (pss_one (ps_ret pe_bl)) pss_nil) <|
      pss_one (ps_ret (pe_chain op_le op_lt pe_int (pv 0) (pv 1))), ?_⟩
    refine ⟨_, rfl, _, _, _, _, _, rfl, .ty _, dp_ty hd, k_int hd, _, rfl, ite2 (fun c => ?_) (fun c => ?_)⟩
    · have e : belowB n d = false := by cases hd <;> first | rfl | exact absurd (show false = true from c) Bool.false_ne_true
      rw [e] at q
      exact q
    · refine ⟨_, rfl, _, _, _, _, _, rfl, .ty _, dp_ty hd, k_bool hd, _, rfl, ite2 (fun c' => ?_) (fun c' => ?_)⟩
      · have e : belowB n d = false := by cases hd <;> first | rfl | exact absurd (show false = true from c') Bool.false_ne_true
        rw [e] at q
        exact q
      · cases hd with
        | int i =>
          refine ⟨_, rfl, _, _, rfl, rfl, _, rfl, ite2 (fun g => ⟨_, rfl, _, _, rfl, rfl, ?_⟩) (fun g => ?_)⟩
          · have e : belowB n (.int i) = decide (i < (n : Int)) := by show (decide (0 ≤ i) && decide (i < (n : Int))) = _; rw [show decide (0 ≤ i) = true from g]; rfl
            rw [e] at q; exact q
          · have e : belowB n (.int i) = false := by show (decide (0 ≤ i) && decide (i < (n : Int))) = _; rw [show decide (0 ≤ i) = false from Bool.eq_false_iff.mpr g]; rfl
            rw [e] at q; exact q
        | non => exact absurd rfl c
        | bl => exact absurd rfl c'
        | str => exact absurd rfl c
        | lst => exact absurd rfl c
        | tup => exact absurd rfl c
def spJoinsD (K : PySem.W.Frag) : Sp := fun vs H Q _ => ∃ (v : V) (d : PyData), vs = [v] ∧ Dp K H v d ∧ narrow d ∧ ∀ H', Same H H' → Q (.bl (joinD d)) H'
theorem nd_sel {xs : List V} {fs : List Nat} (h : xs = nv fs) {i : Nat} {z : Nat} (e : fs[i]? = some z) : atI xs (i : Int) = some (.int z) := by rw [h]; exact nv_at e
theorem ok_p_joinsD (T : Env K mg) : FnOk P w K mg base CX0 2 T.f_p_joins_in_pairs T.d_p_joins_in_pairs ["value"] (spJoinsD K) := by
  have G0 : FnOk P w K mg base CX0 1 T.f_p_is_integer_below T.d_p_is_integer_below ["value", "limit"] (spBelowD K) := ok_p_belowD T
  refine T.F_p_joins_in_pairs.ok sc_p_joins_in_pairs (fun vs H Q E h => ?_) (fun cdv A outer s H vs Q E hr h => ?_)
  · obtain ⟨v, d, rfl, _⟩ := h
    rfl
  · obtain ⟨v, d, rfl, hd, hw, q⟩ := h
    refine ⟨_, pss_cons (ps_if (pt_not (pt_val (pe_callB call_isi (by rfl) T.n_isinstance (by decide +kernel) (pa_cons (pv 0) (pa_cons (pe_bltn (v := .ty "tuple") (by rfl) T.n_tuple (by decide +kernel) rfl) pa_nil))))) (pss_one (ps_ret pe_bl)) pss_nil) <|
      pss_cons (ps_if (pt_not (pt_val (pe_callB (cr_all rfl) (by rfl) T.n_all (by decide +kernel) (pa_cons
        (pe_lc (own := [("item", 3)]) (g := gName 3) (tt := tYes) (te := tCall (spBelowD K) [] E0 (tCons (tVar 3) (tCons (tCB (fun xs H Q => ∃ p ys, xs = [V.ref p] ∧ (SqL K H p ys ∨ SqT K H p ys) ∧ Q (.int ys.length) H) (tCons (tVar 0) tNil)) tNil))) rfl sc_p_joins_in_pairs.nd (pi_seq (pv 0)) (blkOk_by (N := N_p_joins_in_pairs) (sc := defScope s_p_joins_in_pairs) (by decide +kernel))
          (fun _ _ _ _ _ => pg_name (i := 3) sc_p_joins_in_pairs.nd rfl (.inl rfl)) (fun _ _ _ _ _ => pts_nil)
          (fun _ _ _ _ _ => pe_call G0 hr (by rfl) T.g_p_is_integer_below T.F_p_is_integer_below.kp T.b_p_is_integer_below .nil pass0 (pa_cons (pv 3) (pa_cons (pe_callB call_len_seq (by rfl) T.n_len PySem.boot_len (pa_cons (pv 0) pa_nil)) pa_nil)))) pa_nil)))) (pss_one (ps_ret pe_bl)) pss_nil) <|
      pss_one (ps_ret (pe_callB (cr_all rfl) (by rfl) T.n_all (by decide +kernel) (pa_cons
        (pe_lc (own := [("at", 1), ("other", 2)]) (g := gTup K 2 (gCons (gName 1) (gCons (gName 2) gNil))) (tt := tYes) (te := tAndV (tOp rNe (tVar 2) (tVar 1)) (tOp rEq (tOp (rIxT K) (tVar 0) (tVar 2)) (tVar 1))) (by rfl) sc_p_joins_in_pairs.nd (pi_enumA (by rfl) T.n_enumerate (pa_cons (pv 0) pa_nil))
          (blkOk_by (N := N_p_joins_in_pairs) (sc := defScope s_p_joins_in_pairs) (by decide +kernel))
          (fun _ _ _ _ _ => pg_tup (by rfl) (pgs_cons (pg_name (i := 1) sc_p_joins_in_pairs.nd rfl (.inl rfl)) (pgs_cons (pg_name (i := 2) sc_p_joins_in_pairs.nd rfl (.inl rfl)) pgs_nil))) (fun _ _ _ _ _ => pts_nil)
          (fun _ _ _ _ _ => pe_and (pe_cmpR op_ne (pv 2) (pv 1) (nomark _)) (pe_one (pe_cmpR op_eq (pe_ix ix_tup (pv 0) (pv 2) (fun _ _ => rfl)) (pv 1) (nomark _))))) pa_nil))), ?_⟩
    refine ⟨_, rfl, _, _, _, _, _, rfl, .ty _, dp_ty hd, k_tuple hd, _, rfl, ite2 (fun c => ?_) (fun c => ?_)⟩
    · have e : joinD d = false := by cases hd <;> first | rfl | exact absurd (show false = true from c) Bool.false_ne_true
      rw [e] at q
      exact q H fun _ _ h => h
    · cases hd with
      | non => exact absurd rfl c
      | bl => exact absurd rfl c
      | int => exact absurd rfl c
      | str => exact absurd rfl c
      | lst => exact absurd rfl c
      | tup hS hA =>
      rename_i a xs ds
      have hlx := dpa_len hA
      have hw1 : ds.length ≤ 100000 := hw.1
      refine ⟨.ref a, rfl, a, rfl, lc_seq' (.inr hS) (fun _ _ h => h) fun D nD => ⟨fun i H' => Same H H' ∧ H' D = some (.lst (((ds.take i).map (belowB ds.length)).map V.bl)), ⟨same_new nD, upd_same⟩, fun i H' h => h.1, fun i x H' hx h => ?_, fun H' h => ?_⟩⟩
      · obtain ⟨sm, eD⟩ := h
        obtain ⟨d1, ed, hd1⟩ := dpa_get hA hx
        have hi := get_lt ed
        refine ⟨rfl, yes_if ⟨_, rfl, .ref a, rfl, a, _, rfl, .inr (same_tup sm hS), x, d1, xs.length, rfl, dp_same sm hd1, _, eD, ?_, fun c o hc => ?_, ?_⟩⟩
        · rw [List.length_map, List.length_map, List.length_take]; exact line_big (by omega)
        · rw [upd_ne (ne_of_none hc nD)]; exact sm _ _ hc
        · rw [upd_same, all_take_bl (belowB ds.length) ed, hlx]
      · obtain ⟨sm, eD⟩ := h
        rw [hlx, List.take_length] at eD
        refine ⟨D, ds.map (belowB ds.length), rfl, .inl (.inl eD), _, rfl, ?_⟩
        rw [List.all_map]
        refine ite2 (fun g => ?_) (fun g => ?_)
        · have e : joinB ds = false := by
            unfold joinB
            have g' : (!(ds.all (belowB ds.length))) = true := g
            have g2 : ds.all (belowB ds.length) = false := by
              cases hh : ds.all (belowB ds.length) with
              | true => rw [hh] at g'; exact absurd g' (by decide)
              | false => rfl
            rw [g2, Bool.false_and]
          have q' : Q (.bl (joinB ds)) H' := q H' sm
          rw [e] at q'
          exact q'
        · have g' : ds.all (belowB ds.length) = true := by
            have : ¬ (!(ds.all (belowB ds.length))) = true := g
            cases hh : ds.all (belowB ds.length) with
            | true => rfl
            | false => rw [hh] at this; exact absurd rfl this
          obtain ⟨exs, hfs⟩ := below_nats hA g'
          have hfl : (ds.map natOf).length = ds.length := List.length_map _
          have ej : joinB ds = (List.range ds.length).all (pairB (ds.map natOf)) := by unfold joinB; rw [g', Bool.true_and]
          generalize hfs' : ds.map natOf = fs at exs hfs hfl ej
          refine ⟨.ref a, rfl, a, _, rfl, .inr ⟨same_tup sm hS, fun D2 nD2 => ?_⟩⟩
          refine lc_it walk_enumT (fun i H2 => Same H' H2 ∧ H2 D2 = some (.lst ((((List.range ds.length).take i).map (pairB fs)).map V.bl))) ⟨same_new nD2, upd_same⟩ (fun i H2 _ h => same_tup (sm.trans h.1) hS) (fun i x H2 H3 hi h y => ?_) (fun H2 h => ?_)
          · obtain ⟨s2, eD2⟩ := h
            obtain ⟨tp, v1, v2, rfl, nt, rfl, g1, g2⟩ := y
            have ev1 : v1 = .int (i : Nat) := (Option.some.inj g1).symm
            rw [exs] at g2
            obtain ⟨z, ez, ev2⟩ := nv_get' g2
            subst ev1 ev2
            have hi' : i < ds.length := by rw [← hlx]; exact hi
            have hz : z < ds.length := hfs z (List.mem_of_getElem? ez)
            obtain ⟨y, ey⟩ := get_some (l := fs) (i := z) (by omega)
            have er : (List.range ds.length)[i]? = some i := List.getElem?_range hi'
            have s3 : Same H2 _ := same_new (o := .tup [.int (i : Nat), .int z]) nt
            have sm3 := (sm.trans s2).trans s3
            have lenb : ((((List.range ds.length).take i).map (pairB fs)).map V.bl).length < sizeLine := by
              rw [List.length_map, List.length_map, List.length_take, List.length_range]; exact line_big (by omega)
            refine ⟨tp, _, rfl, .inl (.inl upd_same), rfl, _, _, rfl, _, _, rfl, rfl, rfl, yes_if ⟨_, rfl, _, rfl, rfl, _, rfl, ite2 (fun g3 => ?_) (fun g3 => ?_)⟩⟩
            · have n3 : z ≠ i := fun e => by
                have g4 : (!decide (V.int (z : Int) = V.int (i : Nat))) = true := g3
                rw [e, decide_eq_true rfl] at g4; exact absurd g4 (by decide)
              refine ⟨.ref a, rfl, _, rfl, a, _, _, _, rfl, rfl, same_tup sm3 hS, nd_sel exs ey, _, rfl, rfl, _, s3 _ _ eD2, lenb, fun c o hc => ?_, ?_⟩
              · rw [upd_ne (ne_of_none hc nD2)]; exact s3 _ _ (s2 _ _ hc)
              · rw [upd_same, all_take_bl (pairB fs) er]
                have e5 : pairB fs i = decide (V.int (y : Int) = V.int (i : Nat)) := by
                  unfold pairB
                  rw [getD_of ez, getD_of ey, decide_eq_false n3, Bool.not_false, Bool.true_and]
                  by_cases w : y = i
                  · rw [w, decide_eq_true rfl, decide_eq_true rfl]
                  · rw [decide_eq_false w, decide_eq_false (fun e => w (by have := V.int.inj e; omega))]
                rw [e5]
            · have n3 : z = i := by
                by_cases e : z = i
                · exact e
                · exact absurd (by rw [decide_eq_false (fun e' => e (by have := V.int.inj e'; omega))]; rfl) g3
              refine ⟨_, s3 _ _ eD2, lenb, fun c o hc => ?_, ?_⟩
              · rw [upd_ne (ne_of_none hc nD2)]; exact s3 _ _ (s2 _ _ hc)
              · rw [upd_same, all_take_bl (pairB fs) er]
                have e5 : pairB fs i = false := by unfold pairB; rw [getD_of ez, decide_eq_true n3]; rfl
                rw [e5]
          · obtain ⟨s2, eD2⟩ := h
            rw [show xs.length = (List.range ds.length).length by rw [List.length_range, hlx], List.take_length] at eD2
            refine ⟨D2, (List.range ds.length).map (pairB fs), rfl, .inl (.inl eD2), ?_⟩
            rw [List.all_map]
            have q' : Q (.bl (joinB ds)) H2 := q H2 (sm.trans s2)
            rw [ej] at q'
            exact q'
end
end Pc
namespace Pc
open PySem PySem.Spec PyProof.Rows L2 RZ
section
variable {P : Program} {w : World} {K : PySem.W.Frag} {mg : Str → Option Value} {base : Heap}
def spIsPairing (K : PySem.W.Frag) : Sp := fun vs H Q _ => ∃ (v : V) (d : PyData), vs = [v] ∧ Dp K H v d ∧ narrow d ∧ ∀ H', Same H H' → Q (.bl (isPairB d)) H'
theorem ok_p_is_pairing (T : Env K mg) : FnOk P w K mg base CX0 3 T.f_p_is_pairing T.d_p_is_pairing ["value"] (spIsPairing K) := by
  have G0 : FnOk P w K mg base CX0 2 T.f_p_joins_in_pairs T.d_p_joins_in_pairs ["value"] (spJoinsD K) := ok_p_joinsD T
  refine T.F_p_is_pairing.ok sc_p_is_pairing (fun vs H Q E h => ?_) (fun cdv A outer s H vs Q E hr h => ?_)
  · obtain ⟨v, d, rfl, _⟩ := h
    rfl
  · obtain ⟨v, d, rfl, hd, hw, q⟩ := h
    refine ⟨_, pss_one (ps_ret (pe_and (pe_call G0 hr (by rfl) T.g_p_joins_in_pairs T.F_p_joins_in_pairs.kp T.b_p_joins_in_pairs .nil pass0 (pa_cons (pv 0) pa_nil))
      (pe_one (pe_cmpR op_gt (pe_callB call_len_seq (by rfl) T.n_len PySem.boot_len (pa_cons (pv 0) pa_nil)) pe_int (nomark _))))), ?_⟩
    refine ⟨v, rfl, v, d, rfl, hd, hw, fun H' s1 => ⟨_, rfl, ite2 (fun c => ?_) (fun c => ?_)⟩⟩
    · cases hd with
      | tup hS hA =>
        rename_i a xs ds
        refine ⟨_, rfl, a, _, rfl, .inr (same_tup s1 hS), _, _, rfl, rfl, ?_⟩
        have e : isPairB (.tuple ds) = decide (0 < ds.length) := by
          show (joinB ds && decide (0 < ds.length)) = _
          rw [show joinB ds = true from c, Bool.true_and]
        have e2 : decide ((0 : Int) < (xs.length : Int)) = decide (0 < ds.length) := by
          rw [dpa_len hA]
          by_cases z : 0 < ds.length
          · rw [decide_eq_true z, decide_eq_true (by omega)]
          · rw [decide_eq_false z, decide_eq_false (by omega)]
        have q' := q H' s1
        rw [e, ← e2] at q'
        exact q'
      | non => exact absurd (show false = true from c) Bool.false_ne_true
      | bl => exact absurd (show false = true from c) Bool.false_ne_true
      | int => exact absurd (show false = true from c) Bool.false_ne_true
      | str => exact absurd (show false = true from c) Bool.false_ne_true
      | lst => exact absurd (show false = true from c) Bool.false_ne_true
    · have e : isPairB d = false := by
        cases d with
        | tuple ds => show (joinB ds && decide (0 < ds.length)) = _; rw [show joinB ds = false from Bool.eq_false_iff.mpr c, Bool.false_and]
        | none => rfl
        | bool => rfl
        | int => rfl
        | str => rfl
        | list => rfl
        | dict => rfl
      rw [e] at q
      exact q H' s1
end
end Pc
namespace Pc
/-! ### ways along a sheet and a pairing -/
/-- nodup numbers below n are n at most -/
theorem few_below : ∀ (n : Nat) (l : List Nat), l.Nodup → (∀ x ∈ l, x < n) → l.length ≤ n
  | 0, l, _, h => by
    cases l with
    | nil => exact Nat.le_refl _
    | cons a r => exact absurd (h a List.mem_cons_self) (Nat.not_lt_zero _)
  | n + 1, l, hd, h => by
    by_cases hm : n ∈ l
    · have h1 : (l.erase n).length = l.length - 1 := List.length_erase_of_mem hm
      have h2 := few_below n (l.erase n) (hd.erase n) (fun x hx => by
        have hx' := (hd.mem_erase_iff).mp hx
        have := h x hx'.2
        have := hx'.1
        omega)
      omega
    · have h2 := few_below n l hd (fun x hx => by
        have := h x hx
        have : x ≠ n := fun e => hm (e ▸ hx)
        omega)
      omega
/-- a function on the first n + 1 numbers into the n first ones takes one value twice -/
theorem pigeon (n : Nat) (f : Nat → Nat) (h : ∀ i, i ≤ n → f i < n) : ∃ i j, i < j ∧ j ≤ n ∧ f i = f j := by
  apply Classical.byContradiction
  intro hn
  have hd : ((List.range (n + 1)).map f).Nodup := by
    rw [List.nodup_iff_pairwise_ne, List.pairwise_map]
    refine List.Pairwise.imp_of_mem ?_ List.pairwise_lt_range
    intro a b ha hb hab e
    exact hn ⟨a, b, hab, by have := List.mem_range.mp hb; omega, e⟩
  have := few_below n _ hd (fun x hx => by
    obtain ⟨i, hi, rfl⟩ := List.mem_map.mp hx
    exact h i (by have := List.mem_range.mp hi; omega))
  rw [List.length_map, List.length_range] at this
  omega
section
variable (fs ps : List Nat) (n : Nat)
/-- the whole way from an end: along the join, along the couple, and so on until a lower end -/
inductive Trail : Nat → List Nat → Prop
  | stop {z : Nat} : n ≤ fs.getD z 0 → Trail z [z, fs.getD z 0]
  | go {z : Nat} {l : List Nat} : fs.getD z 0 < n → Trail (ps.getD (fs.getD z 0) 0) l → Trail z (z :: fs.getD z 0 :: l)
/-- where the steps of a way begin -/
def hop (z : Nat) : Nat → Nat
  | 0 => z
  | k + 1 => ps.getD (fs.getD (hop z k) 0) 0
end
theorem IsPair.d {n : Nat} {ps : List Nat} (h : IsPair n ps) {x : Nat} (hx : x < n) : ps.getD x 0 < n ∧ ps.getD x 0 ≠ x ∧ ps.getD (ps.getD x 0) 0 = x ∧ ps[x]? = some (ps.getD x 0) := by
  obtain ⟨y, h1, h2, h3, h4⟩ := h.par x hx
  rw [getD_of h1]
  exact ⟨h2, h3, getD_of h4, h1⟩
theorem IsPair.inj {n : Nat} {ps : List Nat} (h : IsPair n ps) {x y : Nat} (hx : x < n) (hy : y < n) (e : ps.getD x 0 = ps.getD y 0) : x = y := by
  rw [← (h.d hx).2.2.1, ← (h.d hy).2.2.1, e]
theorem Trail.det {fs ps : List Nat} {n z : Nat} {l m : List Nat} (h : Trail fs ps n z l) : Trail fs ps n z m → l = m := by
  induction h generalizing m with
  | stop h1 => intro h; cases h with
    | stop _ => rfl
    | go h2 _ => omega
  | go h1 _ ih => intro h; cases h with
    | stop h2 => omega
    | go _ h3 => rw [ih h3]
theorem Trail.len {fs ps : List Nat} {n z : Nat} {l : List Nat} (h : Trail fs ps n z l) : 2 ≤ l.length ∧ l.length % 2 = 0 ∧ n ≤ l.getLastD 0 := by
  induction h with
  | stop h1 => exact ⟨Nat.le_refl _, by simp only [List.length_cons, List.length_nil], h1⟩
  | @go z l h1 _ ih =>
    refine ⟨by simp only [List.length_cons]; omega, by simp only [List.length_cons]; omega, ?_⟩
    cases l with
    | nil => exact absurd ih.1 (by decide)
    | cons a r => exact ih.2.2
theorem hop_step (fs ps : List Nat) (z k : Nat) : hop fs ps (ps.getD (fs.getD z 0) 0) k = hop fs ps z (k + 1) := by
  induction k with
  | zero => rfl
  | succ k ih => rw [hop, ih]; rfl
theorem trail_of {fs ps : List Nat} {n : Nat} : ∀ (m z : Nat), n ≤ fs.getD (hop fs ps z m) 0 → ∃ l, Trail fs ps n z l ∧ l.length ≤ 2 * m + 2
  | 0, z, h => ⟨_, .stop h, Nat.le_refl _⟩
  | m + 1, z, h => by
    by_cases c : fs.getD z 0 < n
    · obtain ⟨l, h1, h2⟩ := trail_of m (ps.getD (fs.getD z 0) 0) (by rw [hop_step]; exact h)
      exact ⟨_, .go c h1, by simp only [List.length_cons]; omega⟩
    · exact ⟨_, .stop (by omega), by simp only [List.length_cons, List.length_nil]; omega⟩
/-- every way from a lower end comes to a lower end -/
theorem trail_ex {fs ps : List Nat} {n : Nat} (hF : IsPair (2 * n) fs) (hP : IsPair n ps) {z : Nat} (hz : n ≤ z) (hz2 : z < 2 * n) : ∃ l, Trail fs ps n z l ∧ l.length ≤ 2 * n + 2 := by
  apply Classical.byContradiction
  intro hn
  have small : ∀ k, k ≤ n → fs.getD (hop fs ps z k) 0 < n := fun k hk => by
    apply Classical.byContradiction
    intro h
    obtain ⟨l, h1, h2⟩ := trail_of (fs := fs) (ps := ps) (n := n) k z (by omega)
    exact hn ⟨l, h1, by omega⟩
  have hl : ∀ k, k ≤ n → hop fs ps z k < 2 * n ∧ (0 < k → hop fs ps z k < n) := fun k hk => by
    cases k with
    | zero => exact ⟨hz2, fun h => absurd h (Nat.lt_irrefl _)⟩
    | succ k =>
      have := (hP.d (small k (by omega))).1
      exact ⟨by show ps.getD _ 0 < 2 * n; omega, fun _ => this⟩
  have diff : ∀ i j, i < j → j ≤ n → hop fs ps z i ≠ hop fs ps z j := fun i => by
    induction i with
    | zero =>
      intro j hj hn2 e
      have := (hl j hn2).2 hj
      have e' : z = hop fs ps z j := e
      omega
    | succ i ih =>
      intro j hj hn2 e
      cases j with
      | zero => omega
      | succ j =>
        have e1 : fs.getD (hop fs ps z i) 0 = fs.getD (hop fs ps z j) 0 := hP.inj (small i (by omega)) (small j (by omega)) e
        exact ih j (by omega) (by omega) (hF.inj (hl i (by omega)).1 (hl j (by omega)).1 e1)
  obtain ⟨i, j, h1, h2, h3⟩ := pigeon n (fun k => fs.getD (hop fs ps z k) 0) small
  exact diff i j h1 h2 (hF.inj (hl i (by omega)).1 (hl j h2).1 h3)
/-- the way of a lower end, and where it ends -/
noncomputable def trl (fs ps : List Nat) (n z : Nat) : List Nat := open Classical in if h : ∃ l, Trail fs ps n z l then h.choose else []
noncomputable def far (fs ps : List Nat) (n z : Nat) : Nat := (trl fs ps n z).getLastD 0
theorem Trail.eq {fs ps : List Nat} {n z : Nat} {l : List Nat} (h : Trail fs ps n z l) : trl fs ps n z = l := by
  unfold trl
  rw [dif_pos ⟨l, h⟩]
  exact (Exists.choose_spec (⟨l, h⟩ : ∃ l, Trail fs ps n z l)).det h
theorem trl_trail {fs ps : List Nat} {n : Nat} (hF : IsPair (2 * n) fs) (hP : IsPair n ps) {z : Nat} (hz : n ≤ z) (hz2 : z < 2 * n) : Trail fs ps n z (trl fs ps n z) ∧ (trl fs ps n z).length ≤ 2 * n + 2 := by
  obtain ⟨l, h1, h2⟩ := trail_ex hF hP hz hz2
  rw [h1.eq]; exact ⟨h1, h2⟩
/-- what is read -/
noncomputable def rd (fs ps : List Nat) (n : Nat) : List Nat := (List.range n).map fun x => far fs ps n (n + x) - n
end Pc
namespace Pc
theorem lastc {l : List Nat} (h : 2 ≤ l.length) (a b d : Nat) : (a :: b :: l).getLastD d = l.getLastD d := by
  cases l with
  | nil => exact absurd h (by decide)
  | cons x r => rfl
theorem Trail.last {fs ps : List Nat} {n z : Nat} {l : List Nat} (hF : IsPair (2 * n) fs) (hP : IsPair n ps) (h : Trail fs ps n z l) : z < 2 * n → l.getLastD 0 < 2 * n := by
  induction h with
  | @stop z h1 => intro hz; exact (hF.d hz).1
  | @go z l h1 h2 ih =>
    intro hz
    rw [lastc h2.len.1]
    have := (hP.d h1).1
    exact ih (by omega)
theorem Trail.rev {fs ps : List Nat} {n z : Nat} {l : List Nat} (hF : IsPair (2 * n) fs) (hP : IsPair n ps) (h : Trail fs ps n z l) : z < 2 * n → ∀ t : List Nat, (n ≤ z → t = []) → (z < n → Trail fs ps n (ps.getD z 0) t) → Trail fs ps n (l.getLastD 0) (l.reverse ++ t) := by
  have one : ∀ {z : Nat} {t : List Nat}, z < 2 * n → (n ≤ z → t = []) → (z < n → Trail fs ps n (ps.getD z 0) t) → Trail fs ps n (fs.getD z 0) (fs.getD z 0 :: z :: t) := fun {z t} hz h1 h2 => by
    have e := (hF.d hz).2.2.1
    by_cases c : z < n
    · have := Trail.go (fs := fs) (ps := ps) (n := n) (z := fs.getD z 0) (l := t) (by rw [e]; exact c) (by rw [e]; exact h2 c)
      rw [e] at this; exact this
    · rw [h1 (by omega)]
      have := Trail.stop (fs := fs) (ps := ps) (n := n) (z := fs.getD z 0) (by rw [e]; omega)
      rw [e] at this; exact this
  induction h with
  | @stop z h1 => intro hz t a b; exact one hz a b
  | @go z l h1 h2 ih =>
    intro hz t a b
    have hz' := hP.d h1
    rw [lastc h2.len.1]
    have := ih (by omega) (fs.getD z 0 :: z :: t) (fun x => by omega) (fun _ => by rw [hz'.2.2.1]; exact one hz a b)
    simp only [List.reverse_cons, List.append_assoc, List.cons_append, List.nil_append]
    exact this
theorem Trail.back {fs ps : List Nat} {n z : Nat} {l : List Nat} (hF : IsPair (2 * n) fs) (hP : IsPair n ps) (h : Trail fs ps n z l) (hz : n ≤ z) (hz2 : z < 2 * n) : Trail fs ps n (l.getLastD 0) l.reverse := by
  have := h.rev hF hP hz2 [] (fun _ => rfl) (fun h => by omega)
  rw [List.append_nil] at this; exact this
theorem Trail.head {fs ps : List Nat} {n z : Nat} {l : List Nat} (h : Trail fs ps n z l) : l[0]? = some z := by
  cases h <;> rfl
theorem Trail.adj {fs ps : List Nat} {n z : Nat} {l : List Nat} (hF : IsPair (2 * n) fs) (hP : IsPair n ps) (h : Trail fs ps n z l) : z < 2 * n → ∀ i x, l[i]? = some x → l[i + 1]? ≠ some x := by
  induction h with
  | @stop z h1 =>
    intro hz i x h1 h2
    have hi : i + 1 < 2 := get_lt h2
    have : i = 0 := by omega
    subst this
    have e1 : z = x := Option.some.inj h1
    have e2 : fs.getD z 0 = x := Option.some.inj h2
    exact (hF.d hz).2.1 (e2.trans e1.symm)
  | @go z l h1 h2 ih =>
    intro hz i x g1 g2
    have hz' := hP.d h1
    cases i with
    | zero =>
      have e1 : z = x := Option.some.inj g1
      have e2 : fs.getD z 0 = x := Option.some.inj g2
      exact (hF.d hz).2.1 (e2.trans e1.symm)
    | succ i =>
      cases i with
      | zero =>
        have e1 : fs.getD z 0 = x := Option.some.inj g1
        have e2 : some (ps.getD (fs.getD z 0) 0) = some x := h2.head.symm.trans g2
        exact hz'.2.1 ((Option.some.inj e2).trans e1.symm)
      | succ i => exact ih (by omega) i x g1 g2
theorem last_get {l : List Nat} (h : 0 < l.length) : l[l.length - 1]? = some (l.getLastD 0) := by
  cases l with
  | nil => exact absurd h (by decide)
  | cons a r => rw [← List.getLast?_eq_getElem?, List.getLast?_eq_some_getLast (List.cons_ne_nil a r), List.getLastD_cons, ← List.getLast_eq_getLastD (h := List.cons_ne_nil a r)]
theorem far_is {fs ps : List Nat} {n z : Nat} {l : List Nat} (h : Trail fs ps n z l) : far fs ps n z = l.getLastD 0 := by
  unfold far; rw [h.eq]
theorem far_d {fs ps : List Nat} {n : Nat} (hF : IsPair (2 * n) fs) (hP : IsPair n ps) {z : Nat} (hz : n ≤ z) (hz2 : z < 2 * n) : n ≤ far fs ps n z ∧ far fs ps n z < 2 * n ∧ far fs ps n (far fs ps n z) = z ∧ far fs ps n z ≠ z := by
  obtain ⟨l, h1, _⟩ := trail_ex hF hP hz hz2
  have hb := h1.back hF hP hz hz2
  have hl := h1.len
  have e := far_is h1
  have e2 := far_is hb
  rw [e, e2]
  refine ⟨hl.2.2, h1.last hF hP hz2, ?_, fun c => ?_⟩
  · have g := last_get (l := l.reverse) (by rw [List.length_reverse]; omega)
    rw [List.length_reverse, List.getElem?_reverse (by omega), show l.length - 1 - (l.length - 1) = 0 by omega, h1.head] at g
    exact (Option.some.inj g).symm
  · rw [c] at hb
    have e3 : l = l.reverse := h1.det hb
    obtain ⟨k, hk⟩ : ∃ k, l.length = 2 * k := ⟨l.length / 2, by omega⟩
    have g1 : l[k - 1]? = l[k]? := by
      have g : l[k - 1]? = l.reverse[k - 1]? := congrArg (fun (m : List Nat) => m[k - 1]?) e3
      rw [List.getElem?_reverse (by omega), show l.length - 1 - (k - 1) = k by omega] at g
      exact g
    have lt : k - 1 < l.length := by omega
    exact h1.adj hF hP hz2 (k - 1) l[k - 1] (List.getElem?_eq_getElem lt) (by rw [show k - 1 + 1 = k by omega, ← g1]; exact List.getElem?_eq_getElem lt)
theorem rd_len (fs ps : List Nat) (n : Nat) : (rd fs ps n).length = n := by unfold rd; rw [List.length_map, List.length_range]
theorem rd_get (fs ps : List Nat) {n x : Nat} (h : x < n) : (rd fs ps n)[x]? = some (far fs ps n (n + x) - n) := by
  unfold rd; rw [List.getElem?_map, List.getElem?_range h]; rfl
theorem rd_pair {fs ps : List Nat} {n : Nat} (hF : IsPair (2 * n) fs) (hP : IsPair n ps) : IsPair n (rd fs ps n) := by
  refine ⟨rd_len _ _ _, fun x hx => ?_⟩
  obtain ⟨h1, h2, h3, h4⟩ := far_d hF hP (z := n + x) (by omega) (by omega)
  refine ⟨_, rd_get fs ps hx, by omega, by omega, ?_⟩
  rw [rd_get fs ps (by omega), show n + (far fs ps n (n + x) - n) = far fs ps n (n + x) by omega, h3, show n + x - n = x by omega]
/-- a sheet that differs only at four ends -/
structure Near (fs gs : List Nat) (n A B c d : Nat) : Prop where
  la : n ≤ A
  lb : n ≤ B
  ab : A ≠ B
  fc : fs.getD c 0 = A
  un : ∀ z, fs.getD z 0 = A → z = c
  fd : fs.getD d 0 = B
  fb : fs.getD B 0 = d
  gc : gs.getD c 0 = d
  eq : ∀ z, z ≠ A → z ≠ B → z ≠ c → z ≠ d → gs.getD z 0 = fs.getD z 0
theorem Trail.near {fs gs ps : List Nat} {n A B c d z : Nat} {l : List Nat} (hP : IsPair n ps) (N : Near fs gs n A B c d) (h : Trail fs ps n z l) : z ≠ A → z ≠ B → l.getLastD 0 ≠ A → l.getLastD 0 ≠ B → Trail gs ps n z l := by
  have la := N.la
  have lb := N.lb
  induction h with
  | @stop z h1 =>
    intro hA hB eA eB
    have e : gs.getD z 0 = fs.getD z 0 := N.eq z hA hB (fun e => eA (by rw [e]; exact N.fc)) (fun e => eB (by rw [e]; exact N.fd))
    rw [← e]; exact .stop (by rw [e]; exact h1)
  | @go z l h1 h2 ih =>
    intro hA hB eA eB
    rw [lastc h2.len.1] at eA eB
    have e : gs.getD z 0 = fs.getD z 0 := N.eq z hA hB (fun e => by rw [e, N.fc] at h1; omega) (fun e => by rw [e, N.fd] at h1; omega)
    have hz' := (hP.d h1).1
    have t := ih (by omega) (by omega) eA eB
    rw [← e] at h1 t ⊢
    exact .go h1 t
theorem Trail.over {fs gs ps : List Nat} {n A B c d z : Nat} {l m : List Nat} (hP : IsPair n ps) (N : Near fs gs n A B c d) (hm : Trail fs ps n B m) (mA : m.getLastD 0 ≠ A) (mB : m.getLastD 0 ≠ B) (h : Trail fs ps n z l) : z ≠ A → z ≠ B → l.getLastD 0 = A → ∃ k, Trail gs ps n z k ∧ k.getLastD 0 = m.getLastD 0 := by
  have la := N.la
  have lb := N.lb
  have fb := N.fb
  induction h with
  | @stop z h1 =>
    intro hA hB eA
    by_cases zc : z = c
    · subst zc
      cases hm with
      | stop h => 
        refine ⟨_, .stop (by rw [N.gc, ← fb]; exact h), ?_⟩
        rw [N.gc, ← fb]; rfl
      | @go _ m h h2 =>
        rw [lastc h2.len.1] at mA mB ⊢
        rw [fb] at h h2
        have := hP.d h
        refine ⟨_, .go (by rw [N.gc]; exact h) (by rw [N.gc]; exact h2.near hP N (by omega) (by omega) mA mB), ?_⟩
        rw [lastc h2.len.1]
    · exact absurd (N.un z eA) zc
  | @go z l h1 h2 ih =>
    intro hA hB eA
    rw [lastc h2.len.1] at eA
    have e : gs.getD z 0 = fs.getD z 0 := N.eq z hA hB (fun e => by rw [e, N.fc] at h1; omega) (fun e => by rw [e, N.fd] at h1; omega)
    have hz' := (hP.d h1).1
    obtain ⟨k, t1, t2⟩ := ih (by omega) (by omega) eA
    rw [← e] at h1 t1
    refine ⟨_, .go h1 t1, ?_⟩
    rw [lastc t1.len.1]; exact t2

theorem jn_near {fs : List Nat} {n A B : Nat} (hF : IsPair (2 * n) fs) (hA : n ≤ A) (hB : n ≤ B) (hA2 : A < 2 * n) (hB2 : B < 2 * n) (hab : A ≠ B) (hc : fs.getD A 0 ≠ B) : Near fs (jn fs A B) n A B (fs.getD A 0) (fs.getD B 0) ∧ Near fs (jn fs A B) n B A (fs.getD B 0) (fs.getD A 0) ∧ (jn fs A B).getD A 0 = B ∧ (jn fs A B).getD B 0 = A := by
  obtain ⟨a1, a2, a3, a4⟩ := hF.d hA2
  obtain ⟨b1, b2, b3, b4⟩ := hF.d hB2
  have G := jn_get hF hab a4 b4 hc
  obtain ⟨x1, x2, x3, x4, _⟩ := four hF hab a4 b4 hc
  have D : ∀ z, (jn fs A B).getD z 0 = ((jn fs A B)[z]?).getD 0 := fun z => List.getD_eq_getElem?_getD
  have un : ∀ {X : Nat}, n ≤ X → X < 2 * n → ∀ z, fs.getD z 0 = X → z = fs.getD X 0 := fun {X} h1 h2 z e => by
    by_cases hz : z < 2 * n
    · rw [← e, (hF.d hz).2.2.1]
    · rw [List.getD_eq_getElem?_getD, List.getElem?_eq_none (by rw [hF.len]; omega)] at e
      have e' : 0 = X := e
      omega
  have E : ∀ z, z ≠ A → z ≠ B → z ≠ fs.getD A 0 → z ≠ fs.getD B 0 → (jn fs A B).getD z 0 = fs.getD z 0 := fun z h1 h2 h3 h4 => by
    rw [D, G, if_neg h1, if_neg h2, if_neg h3, if_neg h4, ← List.getD_eq_getElem?_getD]
  refine ⟨⟨hA, hB, hab, a3, un hA hA2, b3, rfl, ?_, E⟩, ⟨hB, hA, hab.symm, b3, un hB hB2, a3, rfl, ?_, fun z h1 h2 h3 h4 => E z h2 h1 h4 h3⟩, ?_, ?_⟩
  · rw [D, G, if_neg x1, if_neg hc, if_pos rfl]; rfl
  · rw [D, G, if_neg x3, if_neg x2, if_neg (Ne.symm x4), if_pos rfl]; rfl
  · rw [D, G, if_pos rfl]; rfl
  · rw [D, G, if_neg hab.symm, if_pos rfl]; rfl
theorem IsPair.ofd {fs : List Nat} {n x y : Nat} (h : IsPair n fs) (hx : x < n) (e : fs.getD x 0 = y) : fs[x]? = some y := by
  rw [← e]; exact (h.d hx).2.2.2
/-- a call added to a sheet is a call behind what is read -/
theorem rd_jn {fs ps : List Nat} {n a b : Nat} (hF : IsPair (2 * n) fs) (hP : IsPair n ps) (hab : a ≠ b) (ha : a < n) (hb : b < n) : rd (jn fs (n + a) (n + b)) ps n = jn (rd fs ps n) a b := by
  have hR := rd_pair hF hP
  by_cases hc : fs.getD (n + a) 0 = n + b
  · rw [jn_same (hF.ofd (by omega) hc)]
    have t : Trail fs ps n (n + a) [n + a, n + b] := by
      have := Trail.stop (fs := fs) (ps := ps) (n := n) (z := n + a) (by rw [hc]; omega)
      rw [hc] at this; exact this
    refine (jn_same ?_).symm
    rw [rd_get fs ps ha, far_is t]
    show some (n + b - n) = some b
    rw [Nat.add_sub_cancel_left]
  · obtain ⟨N1, N2, gA, gB⟩ := jn_near hF (A := n + a) (B := n + b) (by omega) (by omega) (by omega) (by omega) (by omega) hc
    have hF' : IsPair (2 * n) (jn fs (n + a) (n + b)) := jn_pair hF (by omega) (by omega) (by omega)
    have fA := far_d hF hP (z := n + a) (by omega) (by omega)
    have fB := far_d hF hP (z := n + b) (by omega) (by omega)
    have tA : Trail (jn fs (n + a) (n + b)) ps n (n + a) [n + a, n + b] := by
      have := Trail.stop (fs := jn fs (n + a) (n + b)) (ps := ps) (n := n) (z := n + a) (by rw [gA]; omega)
      rw [gA] at this; exact this
    have tB : Trail (jn fs (n + a) (n + b)) ps n (n + b) [n + b, n + a] := by
      have := Trail.stop (fs := jn fs (n + a) (n + b)) (ps := ps) (n := n) (z := n + b) (by rw [gB]; omega)
      rw [gB] at this; exact this
    obtain ⟨lA, hlA, _⟩ := trail_ex hF hP (z := n + a) (by omega) (by omega)
    obtain ⟨lB, hlB, _⟩ := trail_ex hF hP (z := n + b) (by omega) (by omega)
    have eA := far_is hlA
    have eB := far_is hlB
    have ga := rd_get fs ps ha
    have gb := rd_get fs ps hb
    refine List.ext_getElem? fun x => ?_
    by_cases hx : x < n
    · rw [rd_get _ ps hx]
      have fX := far_d hF hP (z := n + x) (by omega) (by omega)
      obtain ⟨lX, hlX, _⟩ := trail_ex hF hP (z := n + x) (by omega) (by omega)
      have eX := far_is hlX
      by_cases xa : x = a
      · subst xa
        rw [far_is tA, show [n + x, n + b].getLastD 0 - n = b by show n + b - n = b; omega]
        by_cases c : far fs ps n (n + x) - n = b
        · rw [jn_same (by rw [rd_get fs ps hx, c]), rd_get fs ps hx, c]
        · rw [jn_get hR hab ga gb c, if_pos rfl]
      · by_cases xb : x = b
        · subst xb
          rw [far_is tB, show [n + x, n + a].getLastD 0 - n = a by show n + a - n = a; omega]
          by_cases c : far fs ps n (n + a) - n = x
          · rw [jn_same (by rw [rd_get fs ps ha, c]), rd_get fs ps hx, show n + x = far fs ps n (n + a) by omega, fA.2.2.1, Nat.add_sub_cancel_left]
          · rw [jn_get hR hab ga gb c, if_neg (Ne.symm hab), if_pos rfl]
        · by_cases yA : far fs ps n (n + x) = n + a
          · -- the way of x came to a
            have e1 : far fs ps n (n + a) = n + x := by rw [← yA]; exact fX.2.2.1
            have e2 : far fs ps n (n + b) ≠ n + a := fun z => by
              have := fB.2.2.1
              rw [z, e1] at this; omega
            obtain ⟨k, k1, k2⟩ := Trail.over hP N1 hlB (by rw [← eB]; exact e2) (by rw [← eB]; exact fB.2.2.2) hlX (by omega) (by omega) (by rw [← eX]; exact yA)
            rw [far_is k1, k2, ← eB, jn_get hR hab ga gb (by omega), if_neg xa, if_neg xb, if_pos (by omega)]
          · by_cases yB : far fs ps n (n + x) = n + b
            · have e1 : far fs ps n (n + b) = n + x := by rw [← yB]; exact fX.2.2.1
              have e2 : far fs ps n (n + a) ≠ n + b := fun z => by
                have := fA.2.2.1
                rw [z, e1] at this; omega
              obtain ⟨k, k1, k2⟩ := Trail.over hP N2 hlA (by rw [← eA]; exact e2) (by rw [← eA]; exact fA.2.2.2) hlX (by omega) (by omega) (by rw [← eX]; exact yB)
              have e3 : far fs ps n (n + a) ≠ n + x := fun z => by
                have := fA.2.2.1
                rw [z, yB] at this; omega
              rw [far_is k1, k2, ← eA, jn_get hR hab ga gb (by omega), if_neg xa, if_neg xb, if_neg (by omega), if_pos (by omega)]
            · have t := hlX.near hP N1 (by omega) (by omega) (by rw [← eX]; exact yA) (by rw [← eX]; exact yB)
              rw [far_is t, ← eX, ← rd_get fs ps hx]
              by_cases c : far fs ps n (n + a) - n = b
              · rw [jn_same (by rw [rd_get fs ps ha, c])]
              · have e1 : far fs ps n (n + a) ≠ n + x := fun z => by
                  have := fA.2.2.1
                  rw [z] at this; exact yA this
                have e2 : far fs ps n (n + b) ≠ n + x := fun z => by
                  have := fB.2.2.1
                  rw [z] at this; exact yB this
                rw [jn_get hR hab ga gb c, if_neg xa, if_neg xb, if_neg (by omega), if_neg (by omega)]
    · rw [List.getElem?_eq_none (by rw [rd_len]; omega), List.getElem?_eq_none (by rw [jn_len, rd_len]; omega)]
end Pc
namespace Pc
theorem rd_emp {ps : List Nat} {n : Nat} (hn : 0 < n) (hP : IsPair n ps) : rd (emp n) ps n = ps := by
  refine List.ext_getElem? fun x => ?_
  by_cases hx : x < n
  · obtain ⟨h1, _, _, h4⟩ := hP.d hx
    have e1 : (emp n).getD (n + x) 0 = x := getD_of (emp_hi hx)
    have e2 : (emp n).getD (ps.getD x 0) 0 = n + ps.getD x 0 := getD_of (emp_lo h1)
    have t2 := Trail.stop (fs := emp n) (ps := ps) (n := n) (z := ps.getD x 0) (by rw [e2]; omega)
    have t := Trail.go (fs := emp n) (ps := ps) (n := n) (z := n + x) (by rw [e1]; exact hx) (by rw [e1]; exact t2)
    rw [rd_get _ ps hx, far_is t, h4]
    show some ((emp n).getD (ps.getD x 0) 0 - n) = _
    rw [e2, Nat.add_sub_cancel_left]
  · rw [List.getElem?_eq_none (by rw [rd_len]; omega), List.getElem?_eq_none (by rw [hP.len]; omega)]
theorem rd_runs {n : Nat} {ps : List Nat} (hP : IsPair n ps) : ∀ (qs : List (Nat × Nat)) {fs : List Nat}, IsPair (2 * n) fs → Calls n qs → rd (shw n qs fs) ps n = runs qs (rd fs ps n)
  | [], _, _, _ => rfl
  | q :: r, fs, hF, hc => by
    have h1 := hc q List.mem_cons_self
    have h2 := rd_runs hP r (jn_pair hF (a := n + q.1) (b := n + q.2) (by omega) (by omega) (by omega)) (fun x hx => hc x (List.mem_cons_of_mem _ hx))
    rw [rd_jn hF hP (by omega) (by omega) h1.2] at h2
    exact h2
/-- guarantee (a) -/
theorem rd_word {n : Nat} {ps : List Nat} {qs : List (Nat × Nat)} (hn : 0 < n) (hP : IsPair n ps) (hc : Calls n qs) : rd (shw n qs (emp n)) ps n = runs qs ps := by
  rw [rd_runs hP qs (emp_pair hn) hc, rd_emp hn hP]
end Pc
namespace Pc
/-! ### walks along layers: a layer of m upper and n lower ends joins them in pairs -/
section
variable {S Y : Type} (step : S → S ⊕ Y)
inductive Ends : S → Y → Prop
  | stop {s : S} {y : Y} : step s = .inr y → Ends s y
  | go {s t : S} {y : Y} : step s = .inl t → Ends t y → Ends s y
/-- where a walk is after i steps -/
def itr (s : S) : Nat → S
  | 0 => s
  | i + 1 => match step (itr s i) with
    | .inl t => t
    | .inr _ => itr s i
end
theorem Ends.det {S Y : Type} {step : S → S ⊕ Y} {s : S} {x y : Y} (h : Ends step s x) : Ends step s y → x = y := by
  induction h with
  | stop h1 => intro h; cases h with
    | stop h2 => rw [h1] at h2; exact Sum.inr.inj h2
    | go h2 _ => rw [h1] at h2; cases h2
  | go h1 _ ih => intro h; cases h with
    | stop h2 => rw [h1] at h2; cases h2
    | go h2 h3 => rw [h1] at h2; cases h2; exact ih h3
theorem itr_step {S Y : Type} {step : S → S ⊕ Y} {s t : S} (h : step s = .inl t) : ∀ i, itr step t i = itr step s (i + 1)
  | 0 => by show t = (match step s with | .inl t => t | .inr _ => s); rw [h]
  | i + 1 => by
    show (match step (itr step t i) with | .inl t => t | .inr _ => itr step t i) = (match step (itr step s (i + 1)) with | .inl t => t | .inr _ => itr step s (i + 1))
    rw [itr_step h i]
theorem itr_succ {S Y : Type} {step : S → S ⊕ Y} {s t : S} {i : Nat} (h : step (itr step s i) = .inl t) : itr step s (i + 1) = t := by
  show (match step (itr step s i) with | .inl t => t | .inr _ => itr step s i) = t
  rw [h]
theorem Ends.nth {S Y : Type} {step : S → S ⊕ Y} {s : S} {y : Y} (h : Ends step s y) : ∃ m, (∀ i, i < m → step (itr step s i) = .inl (itr step s (i + 1))) ∧ step (itr step s m) = .inr y := by
  induction h with
  | stop h => exact ⟨0, fun i hi => absurd hi (Nat.not_lt_zero _), h⟩
  | go h _ ih =>
    obtain ⟨m, h1, h2⟩ := ih
    refine ⟨m + 1, fun i hi => ?_, by rw [← itr_step h]; exact h2⟩
    cases i with
    | zero => rw [← itr_step h 0]; exact h
    | succ i =>
      have := h1 i (by omega)
      rw [itr_step h, itr_step h] at this; exact this
theorem ends_of {S Y : Type} {step : S → S ⊕ Y} : ∀ (m : Nat) (s : S) (y : Y), step (itr step s m) = .inr y → ∃ z, Ends step s z
  | 0, s, y, h => ⟨y, .stop h⟩
  | m + 1, s, y, h => by
    cases e : step s with
    | inr z => exact ⟨z, .stop e⟩
    | inl t =>
      obtain ⟨z, hz⟩ := ends_of m t y (by rw [itr_step e]; exact h)
      exact ⟨z, .go e hz⟩
/-- the step of a walk along a layer f, of m and n ends, and a layer g behind it -/
def cstep (f g : List Nat) (m n : Nat) : Bool × Nat → (Bool × Nat) ⊕ Nat
  | (true, z) => if f.getD z 0 < m then .inr (f.getD z 0) else .inl (false, f.getD z 0 - m)
  | (false, z) => if g.getD z 0 < n then .inl (true, m + g.getD z 0) else .inr (m + (g.getD z 0 - n))
def cst (m n e : Nat) : Bool × Nat := if e < m then (true, e) else (false, n + (e - m))
theorem cs_tl {f g : List Nat} {m n z : Nat} (h : f.getD z 0 < m) : cstep f g m n (true, z) = .inr (f.getD z 0) := if_pos h
theorem cs_tg {f g : List Nat} {m n z : Nat} (h : m ≤ f.getD z 0) : cstep f g m n (true, z) = .inl (false, f.getD z 0 - m) := if_neg (by omega)
theorem cs_fl {f g : List Nat} {m n z : Nat} (h : g.getD z 0 < n) : cstep f g m n (false, z) = .inl (true, m + g.getD z 0) := if_pos h
theorem cs_fg {f g : List Nat} {m n z : Nat} (h : n ≤ g.getD z 0) : cstep f g m n (false, z) = .inr (m + (g.getD z 0 - n)) := if_neg (by omega)
def opp (f g : List Nat) : Bool × Nat → Bool × Nat
  | (true, z) => (true, f.getD z 0)
  | (false, z) => (false, g.getD z 0)
/-- the states of a walk -/
def Val (m n k : Nat) : Bool × Nat → Prop
  | (true, z) => z < m + n
  | (false, z) => z < n + k
section
variable {f g : List Nat} {m n k : Nat} (hf : IsPair (m + n) f) (hg : IsPair (n + k) g)
include hf hg
theorem cs_val {s t : Bool × Nat} (hs : Val m n k s) (h : cstep f g m n s = .inl t) : Val m n k t ∧ (t = (true, t.2) ∧ m ≤ t.2 ∨ t = (false, t.2) ∧ t.2 < n) ∧ t.1 = !s.1 ∧ cstep f g m n (opp f g t) = .inl (opp f g s) := by
  obtain ⟨b, z⟩ := s
  cases b with
  | true =>
    have hz : z < m + n := hs
    by_cases c : f.getD z 0 < m
    · rw [cs_tl c] at h; cases h
    · rw [cs_tg (by omega)] at h
      cases h
      have := hf.d hz
      have hx : f.getD z 0 - m < n + k := by omega
      have gx := hg.d hx
      refine ⟨hx, .inr ⟨rfl, by show f.getD z 0 - m < n; omega⟩, rfl, ?_⟩
      show cstep f g m n (false, g.getD (f.getD z 0 - m) 0) = .inl (true, f.getD z 0)
      rw [cs_fl (by rw [gx.2.2.1]; omega), gx.2.2.1, show m + (f.getD z 0 - m) = f.getD z 0 by omega]
  | false =>
    have hz : z < n + k := hs
    by_cases c : g.getD z 0 < n
    · rw [cs_fl c] at h
      cases h
      have hx : m + g.getD z 0 < m + n := by omega
      have fx := hf.d hx
      refine ⟨hx, .inl ⟨rfl, by show m ≤ m + g.getD z 0; omega⟩, rfl, ?_⟩
      show cstep f g m n (true, f.getD (m + g.getD z 0) 0) = .inl (false, g.getD z 0)
      rw [cs_tg (by rw [fx.2.2.1]; omega), fx.2.2.1, show m + g.getD z 0 - m = g.getD z 0 by omega]
    · rw [cs_fg (by omega)] at h; cases h
theorem opp_opp {s : Bool × Nat} (hs : Val m n k s) : opp f g (opp f g s) = s ∧ opp f g s ≠ s ∧ (opp f g s).1 = s.1 ∧ Val m n k (opp f g s) := by
  obtain ⟨b, z⟩ := s
  cases b with
  | true =>
    have := hf.d (show z < m + n from hs)
    exact ⟨by show (true, f.getD (f.getD z 0) 0) = (true, z); rw [this.2.2.1], fun e => this.2.1 (congrArg Prod.snd e), rfl, this.1⟩
  | false =>
    have := hg.d (show z < n + k from hs)
    exact ⟨by show (false, g.getD (g.getD z 0) 0) = (false, z); rw [this.2.2.1], fun e => this.2.1 (congrArg Prod.snd e), rfl, this.1⟩
theorem cs_inj {s t u : Bool × Nat} (hs : Val m n k s) (ht : Val m n k t) (h1 : cstep f g m n s = .inl u) (h2 : cstep f g m n t = .inl u) : s = t := by
  have a := (cs_val hf hg hs h1).2.2.2
  have b := (cs_val hf hg ht h2).2.2.2
  rw [a] at b
  have e : opp f g s = opp f g t := Sum.inl.inj b
  rw [← (opp_opp hf hg hs).1, e, (opp_opp hf hg ht).1]
theorem cs_end {s : Bool × Nat} {y : Nat} (hs : Val m n k s) (h : cstep f g m n s = .inr y) : cst m n y = opp f g s ∧ y < m + k := by
  obtain ⟨b, z⟩ := s
  cases b with
  | true =>
    by_cases c : f.getD z 0 < m
    · rw [cs_tl c] at h; cases h
      refine ⟨?_, by omega⟩
      unfold cst; rw [if_pos c]; rfl
    · rw [cs_tg (by omega)] at h; cases h
  | false =>
    have := hg.d (show z < n + k from hs)
    by_cases c : g.getD z 0 < n
    · rw [cs_fl c] at h; cases h
    · rw [cs_fg (by omega)] at h; cases h
      refine ⟨?_, by omega⟩
      unfold cst; rw [if_neg (by omega), show n + (m + (g.getD z 0 - n) - m) = g.getD z 0 by omega]; rfl
theorem cst_val {e : Nat} (he : e < m + k) : Val m n k (cst m n e) ∧ cstep f g m n (opp f g (cst m n e)) = .inr e := by
  unfold cst
  by_cases c : e < m
  · rw [if_pos c]
    have := hf.d (show e < m + n by omega)
    refine ⟨show e < m + n by omega, ?_⟩
    show cstep f g m n (true, f.getD e 0) = .inr e
    rw [cs_tl (by rw [this.2.2.1]; exact c), this.2.2.1]
  · rw [if_neg c]
    have := hg.d (show n + (e - m) < n + k by omega)
    refine ⟨show n + (e - m) < n + k by omega, ?_⟩
    show cstep f g m n (false, g.getD (n + (e - m)) 0) = .inr e
    rw [cs_fg (by rw [this.2.2.1]; omega), this.2.2.1, show m + (n + (e - m) - n) = e by omega]
theorem cs_out {e : Nat} (he : e < m + k) {s : Bool × Nat} (hs : Val m n k s) : cstep f g m n s ≠ .inl (cst m n e) := fun h => by
  have h1 := (cs_val hf hg hs h).2.2.2
  rw [(cst_val hf hg he).2] at h1
  cases h1
theorem walk_ends {e : Nat} (he : e < m + k) : ∃ y, Ends (cstep f g m n) (cst m n e) y := by
  apply Classical.byContradiction
  intro hn
  have go : ∀ i, cstep f g m n (itr (cstep f g m n) (cst m n e) i) = .inl (itr (cstep f g m n) (cst m n e) (i + 1)) := fun i => by
    cases h : cstep f g m n (itr (cstep f g m n) (cst m n e) i) with
    | inr y => exact absurd (ends_of i _ y h) hn
    | inl t => rw [itr_succ h]
  have val : ∀ i, Val m n k (itr (cstep f g m n) (cst m n e) i) := fun i => by
    induction i with
    | zero => exact (cst_val hf hg he).1
    | succ i ih => exact (cs_val hf hg ih (go i)).1
  have diff : ∀ i j, i < j → itr (cstep f g m n) (cst m n e) i ≠ itr (cstep f g m n) (cst m n e) j := fun i => by
    induction i with
    | zero =>
      intro j hj h
      cases j with
      | zero => omega
      | succ j => exact cs_out hf hg he (val j) ((go j).trans (congrArg Sum.inl h.symm))
    | succ i ih =>
      intro j hj h
      cases j with
      | zero => omega
      | succ j => exact ih j (by omega) (cs_inj hf hg (val i) (val j) (go i) ((go j).trans (congrArg Sum.inl h.symm)))
  let code : Bool × Nat → Nat := fun s => if s.1 = true then s.2 - m else n + s.2
  obtain ⟨i, j, h1, h2, h3⟩ := pigeon (2 * n) (fun i => code (itr (cstep f g m n) (cst m n e) (i + 1))) (fun i _ => by
    have v := val (i + 1)
    have := (cs_val hf hg (val i) (go i)).2.1
    generalize itr (cstep f g m n) (cst m n e) (i + 1) = s at v this
    obtain ⟨b, z⟩ := s
    cases b with
    | true =>
      rcases this with h | h
      · have hv : z < m + n := v
        have hz : m ≤ z := h.2
        show (if true = true then z - m else n + z) < 2 * n
        rw [if_pos rfl]; omega
      · cases h.1
    | false =>
      rcases this with h | h
      · cases h.1
      · have hz : z < n := h.2
        show (if false = true then z - m else n + z) < 2 * n
        rw [if_neg Bool.false_ne_true]; omega)
  refine diff (i + 1) (j + 1) (by omega) ?_
  have v1 := (cs_val hf hg (val i) (go i)).2.1
  have v2 := (cs_val hf hg (val j) (go j)).2.1
  have w1 := val (i + 1)
  have w2 := val (j + 1)
  have h3' : code (itr (cstep f g m n) (cst m n e) (i + 1)) = code (itr (cstep f g m n) (cst m n e) (j + 1)) := h3
  clear h3 diff val go hn
  generalize itr (cstep f g m n) (cst m n e) (i + 1) = s at v1 h3' w1
  generalize itr (cstep f g m n) (cst m n e) (j + 1) = t at v2 h3' w2
  obtain ⟨b, z⟩ := s
  obtain ⟨b', z'⟩ := t
  have T : ∀ z, code (true, z) = z - m := fun z => if_pos rfl
  have F : ∀ z, code (false, z) = n + z := fun z => if_neg Bool.false_ne_true
  cases b <;> cases b'
  · rw [F, F] at h3'
    have : z = z' := by omega
    rw [this]
  · rw [F, T] at h3'
    rcases v2 with h | h
    · have : z' < m + n := w2
      have : m ≤ z' := h.2
      omega
    · cases h.1
  · rw [T, F] at h3'
    rcases v1 with h | h
    · have : z < m + n := w1
      have : m ≤ z := h.2
      omega
    · cases h.1
  · rw [T, T] at h3'
    rcases v1 with h | h
    · rcases v2 with h' | h'
      · have : m ≤ z := h.2
        have : m ≤ z' := h'.2
        have : z = z' := by omega
        rw [this]
      · cases h'.1
    · cases h.1
theorem ends_back {s : Bool × Nat} {y : Nat} (h : Ends (cstep f g m n) s y) : Val m n k s → y < m + k ∧ ∀ y0, Ends (cstep f g m n) (opp f g s) y0 → Ends (cstep f g m n) (cst m n y) y0 := by
  induction h with
  | stop h1 =>
    intro hs
    have := cs_end hf hg hs h1
    exact ⟨this.2, fun y0 h0 => by rw [this.1]; exact h0⟩
  | go h1 _ ih =>
    intro hs
    obtain ⟨v1, _, _, v2⟩ := cs_val hf hg hs h1
    obtain ⟨i1, i2⟩ := ih v1
    exact ⟨i1, fun y0 h0 => i2 y0 (.go v2 h0)⟩
theorem ends_inv {e y : Nat} (he : e < m + k) (h : Ends (cstep f g m n) (cst m n e) y) : y < m + k ∧ Ends (cstep f g m n) (cst m n y) e ∧ y ≠ e := by
  obtain ⟨v, o⟩ := cst_val hf hg he
  obtain ⟨h1, h2⟩ := ends_back hf hg h v
  refine ⟨h1, h2 e (.stop o), fun c => ?_⟩
  subst c
  obtain ⟨t, g1, g2⟩ := h.nth
  have val : ∀ i, i ≤ t → Val m n k (itr (cstep f g m n) (cst m n y) i) := fun i => by
    induction i with
    | zero => exact fun _ => v
    | succ i ih => exact fun hi => (cs_val hf hg (ih (by omega)) (g1 i (by omega))).1
  have mir : ∀ j, j ≤ t → opp f g (itr (cstep f g m n) (cst m n y) (t - j)) = itr (cstep f g m n) (cst m n y) j := fun j => by
    induction j with
    | zero => intro _; exact (cs_end hf hg (val t (Nat.le_refl _)) g2).1.symm
    | succ j ih =>
      intro hj
      have a1 := ih (by omega)
      have a2 := g1 (t - (j + 1)) (by omega)
      rw [show t - (j + 1) + 1 = t - j by omega] at a2
      have a3 := (cs_val hf hg (val _ (by omega)) a2).2.2.2
      rw [a1, g1 j (by omega)] at a3
      exact (Sum.inl.inj a3).symm
  by_cases p : t % 2 = 0
  · have := mir (t / 2) (by omega)
    rw [show t - t / 2 = t / 2 by omega] at this
    exact (opp_opp hf hg (val (t / 2) (by omega))).2.1 this
  · have a := mir (t / 2) (by omega)
    rw [show t - t / 2 = t / 2 + 1 by omega] at a
    have b := (opp_opp hf hg (val (t / 2 + 1) (by omega))).2.2.1
    have c := (cs_val hf hg (val (t / 2) (by omega)) (g1 (t / 2) (by omega))).2.2.1
    rw [a] at b
    rw [← b] at c
    exact absurd c (by cases (itr (cstep f g m n) (cst m n y) (t / 2)).1 <;> decide)
end
/-- two layers one behind the other -/
noncomputable def cfar (f g : List Nat) (m n e : Nat) : Nat := open Classical in if h : ∃ y, Ends (cstep f g m n) (cst m n e) y then h.choose else 0
noncomputable def cmp (f g : List Nat) (m n k : Nat) : List Nat := (List.range (m + k)).map fun e => cfar f g m n e
theorem cfar_is {f g : List Nat} {m n e y : Nat} (h : Ends (cstep f g m n) (cst m n e) y) : cfar f g m n e = y := by
  unfold cfar
  rw [dif_pos ⟨y, h⟩]
  exact (Exists.choose_spec (⟨y, h⟩ : ∃ y, Ends (cstep f g m n) (cst m n e) y)).det h
theorem cmp_len (f g : List Nat) (m n k : Nat) : (cmp f g m n k).length = m + k := by unfold cmp; rw [List.length_map, List.length_range]
theorem cmp_get (f g : List Nat) {m n k e : Nat} (h : e < m + k) : (cmp f g m n k)[e]? = some (cfar f g m n e) := by unfold cmp; rw [List.getElem?_map, List.getElem?_range h]; rfl
theorem cmp_d (f g : List Nat) {m n k e : Nat} (h : e < m + k) : (cmp f g m n k).getD e 0 = cfar f g m n e := by
  rw [List.getD_eq_getElem?_getD, cmp_get f g h]; rfl
theorem cmp_ends {f g : List Nat} {m n k e : Nat} (hf : IsPair (m + n) f) (hg : IsPair (n + k) g) (he : e < m + k) : Ends (cstep f g m n) (cst m n e) ((cmp f g m n k).getD e 0) := by
  obtain ⟨y, h⟩ := walk_ends hf hg he
  rw [cmp_d f g he, cfar_is h]; exact h
theorem cmp_pair {f g : List Nat} {m n k : Nat} (hf : IsPair (m + n) f) (hg : IsPair (n + k) g) : IsPair (m + k) (cmp f g m n k) := by
  refine ⟨cmp_len .., fun e he => ?_⟩
  obtain ⟨y, h⟩ := walk_ends hf hg he
  obtain ⟨h1, h2, h3⟩ := ends_inv hf hg he h
  exact ⟨y, by rw [cmp_get f g he, cfar_is h], h1, h3, by rw [cmp_get f g h1, cfar_is h2]⟩
theorem cmp_ext {f g x : List Nat} {m n k : Nat} (hx : x.length = m + k) (h : ∀ e, e < m + k → Ends (cstep f g m n) (cst m n e) (x.getD e 0)) : cmp f g m n k = x := by
  refine List.ext_getElem? fun e => ?_
  by_cases he : e < m + k
  · rw [cmp_get f g he, cfar_is (h e he), List.getD_eq_getElem?_getD, List.getElem?_eq_getElem (by omega)]; rfl
  · rw [List.getElem?_eq_none (by rw [cmp_len]; omega), List.getElem?_eq_none (by omega)]
end Pc
namespace Pc
/-! ### three layers -/
def step3 (f g h : List Nat) (m n k : Nat) : Nat × Nat → (Nat × Nat) ⊕ Nat
  | (0, z) => if f.getD z 0 < m then .inr (f.getD z 0) else .inl (1, f.getD z 0 - m)
  | (1, z) => if g.getD z 0 < n then .inl (0, m + g.getD z 0) else .inl (2, g.getD z 0 - n)
  | (_, z) => if h.getD z 0 < k then .inl (1, n + h.getD z 0) else .inr (m + (h.getD z 0 - k))
section
variable {f g h : List Nat} {m n k l : Nat}
/-- the first two -/
def em1 : Bool × Nat → Nat × Nat
  | (true, z) => (0, z)
  | (false, z) => (1, z)
theorem first_two {s : Bool × Nat} {e : Nat} (w : Ends (cstep f g m n) s e) : (e < m → Ends (step3 f g h m n k) (em1 s) e) ∧ (m ≤ e → ∀ y, Ends (step3 f g h m n k) (2, e - m) y → Ends (step3 f g h m n k) (em1 s) y) := by
  induction w with
  | @stop s e h1 =>
    obtain ⟨b, z⟩ := s
    cases b with
    | true =>
      by_cases c : f.getD z 0 < m
      · rw [cs_tl c] at h1; cases h1
        exact ⟨fun _ => .stop (if_pos c), fun q => absurd c (by omega)⟩
      · rw [cs_tg (by omega)] at h1; cases h1
    | false =>
      by_cases c : g.getD z 0 < n
      · rw [cs_fl c] at h1; cases h1
      · rw [cs_fg (by omega)] at h1; cases h1
        refine ⟨fun q => by omega, fun _ y hy => .go (t := (2, g.getD z 0 - n)) (if_neg c) ?_⟩
        rw [show m + (g.getD z 0 - n) - m = g.getD z 0 - n by omega] at hy
        exact hy
  | @go s t e h1 _ ih =>
    have st : step3 f g h m n k (em1 s) = .inl (em1 t) := by
      obtain ⟨b, z⟩ := s
      cases b with
      | true =>
        by_cases c : f.getD z 0 < m
        · rw [cs_tl c] at h1; cases h1
        · rw [cs_tg (by omega)] at h1; cases h1
          exact if_neg c
      | false =>
        by_cases c : g.getD z 0 < n
        · rw [cs_fl c] at h1; cases h1
          exact if_pos c
        · rw [cs_fg (by omega)] at h1; cases h1
    exact ⟨fun q => .go st (ih.1 q), fun q y hy => .go st (ih.2 q y hy)⟩
/-- the last two -/
def em2 : Bool × Nat → Nat × Nat
  | (true, z) => (1, z)
  | (false, z) => (2, z)
theorem last_two {s : Bool × Nat} {e : Nat} (w : Ends (cstep g h n k) s e) : (n ≤ e → Ends (step3 f g h m n k) (em2 s) (m + (e - n))) ∧ (e < n → ∀ y, Ends (step3 f g h m n k) (0, m + e) y → Ends (step3 f g h m n k) (em2 s) y) := by
  induction w with
  | @stop s e h1 =>
    obtain ⟨b, z⟩ := s
    cases b with
    | true =>
      by_cases c : g.getD z 0 < n
      · rw [cs_tl c] at h1; cases h1
        exact ⟨fun q => absurd c (by omega), fun _ y hy => .go (t := (0, m + g.getD z 0)) (if_pos c) hy⟩
      · rw [cs_tg (by omega)] at h1; cases h1
    | false =>
      by_cases c : h.getD z 0 < k
      · rw [cs_fl c] at h1; cases h1
      · rw [cs_fg (by omega)] at h1; cases h1
        refine ⟨fun _ => .stop ?_, fun q => by omega⟩
        rw [show m + (n + (h.getD z 0 - k) - n) = m + (h.getD z 0 - k) by omega]
        exact if_neg c
  | @go s t e h1 _ ih =>
    have st : step3 f g h m n k (em2 s) = .inl (em2 t) := by
      obtain ⟨b, z⟩ := s
      cases b with
      | true =>
        by_cases c : g.getD z 0 < n
        · rw [cs_tl c] at h1; cases h1
        · rw [cs_tg (by omega)] at h1; cases h1
          exact if_neg c
      | false =>
        by_cases c : h.getD z 0 < k
        · rw [cs_fl c] at h1; cases h1
          exact if_pos c
        · rw [cs_fg (by omega)] at h1; cases h1
    exact ⟨fun q => .go st (ih.1 q), fun q y hy => .go st (ih.2 q y hy)⟩
def em3 (m n : Nat) : Bool × Nat → Nat × Nat
  | (true, z) => if z < m then (0, z) else (1, n + (z - m))
  | (false, z) => (2, z)
def em4 (n k : Nat) : Bool × Nat → Nat × Nat
  | (true, z) => (0, z)
  | (false, z) => if z < n then (1, z) else (2, k + (z - n))
theorem em3_cst (z : Nat) : em3 m n (true, z) = em1 (cst m n z) := by
  unfold cst
  by_cases c : z < m
  · rw [if_pos c]; exact if_pos c
  · rw [if_neg c]; exact if_neg c
theorem em4_cst (z : Nat) : em4 n k (false, z) = em2 (cst n k z) := by
  unfold cst
  by_cases c : z < n
  · rw [if_pos c]; exact if_pos c
  · rw [if_neg c]; exact if_neg c
theorem left_three (hf : IsPair (m + n) f) (hg : IsPair (n + k) g) (hh : IsPair (k + l) h) {s : Bool × Nat} {y : Nat} (w : Ends (cstep (cmp f g m n k) h m k) s y) : Val m k l s → Ends (step3 f g h m n k) (em3 m n s) y := by
  have hfg := cmp_pair hf hg
  induction w with
  | @stop s e h1 =>
    intro hs
    obtain ⟨b, z⟩ := s
    cases b with
    | true =>
      have W := first_two (h := h) (k := k) (cmp_ends hf hg (show z < m + k from hs))
      by_cases c : (cmp f g m n k).getD z 0 < m
      · rw [cs_tl c] at h1; cases h1
        rw [em3_cst]; exact W.1 c
      · rw [cs_tg (by omega)] at h1; cases h1
    | false =>
      by_cases c : h.getD z 0 < k
      · rw [cs_fl c] at h1; cases h1
      · rw [cs_fg (by omega)] at h1; cases h1
        exact .stop (if_neg c)
  | @go s t e h1 _ ih =>
    intro hs
    have ht := (cs_val hfg hh hs h1).1
    obtain ⟨b, z⟩ := s
    cases b with
    | true =>
      have W := first_two (h := h) (k := k) (cmp_ends hf hg (show z < m + k from hs))
      by_cases c : (cmp f g m n k).getD z 0 < m
      · rw [cs_tl c] at h1; cases h1
      · rw [cs_tg (by omega)] at h1; cases h1
        rw [em3_cst]; exact W.2 (by omega) _ (ih ht)
    | false =>
      by_cases c : h.getD z 0 < k
      · rw [cs_fl c] at h1; cases h1
        refine .go (t := (1, n + h.getD z 0)) (if_pos c) ?_
        have q := ih ht
        have e : em3 m n (true, m + h.getD z 0) = (1, n + h.getD z 0) := by
          show (if m + h.getD z 0 < m then _ else _) = _
          rw [if_neg (by omega), show m + h.getD z 0 - m = h.getD z 0 by omega]
        rw [e] at q; exact q
      · rw [cs_fg (by omega)] at h1; cases h1
theorem right_three (hf : IsPair (m + n) f) (hg : IsPair (n + k) g) (hh : IsPair (k + l) h) {s : Bool × Nat} {y : Nat} (w : Ends (cstep f (cmp g h n k l) m n) s y) : Val m n l s → Ends (step3 f g h m n k) (em4 n k s) y := by
  have hgh := cmp_pair hg hh
  induction w with
  | @stop s e h1 =>
    intro hs
    obtain ⟨b, z⟩ := s
    cases b with
    | true =>
      by_cases c : f.getD z 0 < m
      · rw [cs_tl c] at h1; cases h1
        exact .stop (if_pos c)
      · rw [cs_tg (by omega)] at h1; cases h1
    | false =>
      have W := last_two (f := f) (m := m) (cmp_ends hg hh (show z < n + l from hs))
      by_cases c : (cmp g h n k l).getD z 0 < n
      · rw [cs_fl c] at h1; cases h1
      · rw [cs_fg (by omega)] at h1; cases h1
        rw [em4_cst]; exact W.1 (by omega)
  | @go s t e h1 _ ih =>
    intro hs
    have ht := (cs_val hf hgh hs h1).1
    obtain ⟨b, z⟩ := s
    cases b with
    | true =>
      by_cases c : f.getD z 0 < m
      · rw [cs_tl c] at h1; cases h1
      · rw [cs_tg (by omega)] at h1; cases h1
        refine .go (t := (1, f.getD z 0 - m)) (if_neg c) ?_
        have q := ih ht
        have fz := hf.d (show z < m + n from hs)
        have e : em4 n k (false, f.getD z 0 - m) = (1, f.getD z 0 - m) := if_pos (by omega)
        rw [e] at q; exact q
    | false =>
      have W := last_two (f := f) (m := m) (cmp_ends hg hh (show z < n + l from hs))
      by_cases c : (cmp g h n k l).getD z 0 < n
      · rw [cs_fl c] at h1; cases h1
        rw [em4_cst]; exact W.2 c _ (ih ht)
      · rw [cs_fg (by omega)] at h1; cases h1
/-- the order of joining does not matter -/
theorem cmp_assoc (hf : IsPair (m + n) f) (hg : IsPair (n + k) g) (hh : IsPair (k + l) h) : cmp (cmp f g m n k) h m k l = cmp f (cmp g h n k l) m n l := by
  have hfg := cmp_pair hf hg
  have hgh := cmp_pair hg hh
  refine cmp_ext (by rw [cmp_len]) fun e he => ?_
  obtain ⟨y, w⟩ := walk_ends hfg hh he
  have a := left_three hf hg hh w (cst_val hfg hh he).1
  have b := right_three hf hg hh (cmp_ends hf hgh he) (cst_val hf hgh he).1
  have e1 : em3 m n (cst m k e) = em4 n k (cst m n e) := by
    unfold cst
    by_cases c : e < m
    · rw [if_pos c, if_pos c]; exact if_pos c
    · rw [if_neg c, if_neg c]
      show (2, k + (e - m)) = if n + (e - m) < n then _ else _
      rw [if_neg (by omega), show n + (e - m) - n = e - m by omega]
  rw [e1] at a
  rw [← a.det b]; exact w
end
/-! ### what is read is a layer behind a pairing -/
theorem trail_ends {fs ps : List Nat} {n z : Nat} {l : List Nat} (hP : IsPair n ps) (h : Trail fs ps n z l) : Ends (cstep ps fs 0 n) (false, z) (l.getLastD 0 - n) := by
  induction h with
  | @stop z h1 =>
    have := cs_fg (f := ps) (g := fs) (m := 0) (n := n) (z := z) h1
    rw [Nat.zero_add] at this
    exact .stop this
  | @go z l h1 h2 ih =>
    have a := cs_fl (f := ps) (g := fs) (m := 0) (n := n) (z := z) h1
    rw [Nat.zero_add] at a
    have b := cs_tg (f := ps) (g := fs) (m := 0) (n := n) (z := fs.getD z 0) (Nat.zero_le _)
    rw [Nat.sub_zero] at b
    rw [lastc h2.len.1]
    exact .go a (.go b ih)
theorem rd_cmp {fs ps : List Nat} {n : Nat} (hF : IsPair (2 * n) fs) (hP : IsPair n ps) : rd fs ps n = cmp ps fs 0 n n := by
  refine (cmp_ext (by rw [rd_len, Nat.zero_add]) fun e he => ?_).symm
  obtain ⟨l, h1, _⟩ := trail_ex hF hP (z := n + e) (by omega) (by omega)
  have := trail_ends hP h1
  rw [← far_is h1] at this
  have e1 : (rd fs ps n).getD e 0 = far fs ps n (n + e) - n := by
    rw [List.getD_eq_getElem?_getD, rd_get fs ps (by omega)]; rfl
  rw [e1]
  unfold cst
  rw [if_neg (Nat.not_lt_zero _), Nat.sub_zero]
  exact this
/-! ### a call added to the second layer -/
section
variable {f g g' : List Nat} {m n k A B c d : Nat}
theorem Ends.near (hf : IsPair (m + n) f) (hg : IsPair (n + k) g) (hN : Near g g' n A B c d) {s : Bool × Nat} {y : Nat} (w : Ends (cstep f g m n) s y) : Val m n k s → s ≠ (false, A) → s ≠ (false, B) → y ≠ m + (A - n) → y ≠ m + (B - n) → Ends (cstep f g' m n) s y := by
  have la := hN.la
  have lb := hN.lb
  induction w with
  | @stop s y h1 =>
    intro vs s1 s2 y1 y2
    obtain ⟨b, z⟩ := s
    cases b with
    | true =>
      by_cases q : f.getD z 0 < m
      · rw [cs_tl q] at h1; cases h1; exact .stop (cs_tl q)
      · rw [cs_tg (by omega)] at h1; cases h1
    | false =>
      by_cases q : g.getD z 0 < n
      · rw [cs_fl q] at h1; cases h1
      · rw [cs_fg (by omega)] at h1; cases h1
        have e : g'.getD z 0 = g.getD z 0 := hN.eq z (fun e => s1 (by rw [e])) (fun e => s2 (by rw [e])) (fun e => y1 (by rw [e, hN.fc])) (fun e => y2 (by rw [e, hN.fd]))
        have := cs_fg (f := f) (g := g') (m := m) (n := n) (z := z) (by rw [e]; omega)
        rw [e] at this; exact .stop this
  | @go s t y h1 _ ih =>
    intro vs s1 s2 y1 y2
    have cv := cs_val hf hg vs h1
    obtain ⟨b, z⟩ := s
    cases b with
    | true =>
      by_cases q : f.getD z 0 < m
      · rw [cs_tl q] at h1; cases h1
      · rw [cs_tg (by omega)] at h1; cases h1
        have hz := (hf.d (show z < m + n from vs)).1
        exact .go (cs_tg (by omega)) (ih cv.1 (fun h => by have := congrArg Prod.snd h; have e : f.getD z 0 - m = A := this; omega) (fun h => by have := congrArg Prod.snd h; have e : f.getD z 0 - m = B := this; omega) y1 y2)
    | false =>
      by_cases q : g.getD z 0 < n
      · rw [cs_fl q] at h1; cases h1
        have e : g'.getD z 0 = g.getD z 0 := hN.eq z (fun e => s1 (by rw [e])) (fun e => s2 (by rw [e])) (fun e => by rw [e, hN.fc] at q; omega) (fun e => by rw [e, hN.fd] at q; omega)
        have := cs_fl (f := f) (g := g') (m := m) (n := n) (z := z) (by rw [e]; exact q)
        rw [e] at this
        exact .go this (ih cv.1 (fun h => by cases h) (fun h => by cases h) y1 y2)
      · rw [cs_fg (by omega)] at h1; cases h1
theorem Ends.over (hf : IsPair (m + n) f) (hg : IsPair (n + k) g) (hN : Near g g' n A B c d) (hB : B < n + k) {y' : Nat} (wB : Ends (cstep f g m n) (false, B) y') (yA : y' ≠ m + (A - n)) (yB : y' ≠ m + (B - n)) {s : Bool × Nat} {y : Nat} (w : Ends (cstep f g m n) s y) :
    Val m n k s → s ≠ (false, A) → s ≠ (false, B) → y = m + (A - n) → Ends (cstep f g' m n) s y' := by
  have la := hN.la
  have lb := hN.lb
  have fb := hN.fb
  induction w with
  | @stop s y h1 =>
    intro vs s1 s2 y1
    obtain ⟨b, z⟩ := s
    cases b with
    | true =>
      by_cases q : f.getD z 0 < m
      · rw [cs_tl q] at h1; cases h1; omega
      · rw [cs_tg (by omega)] at h1; cases h1
    | false =>
      by_cases q : g.getD z 0 < n
      · rw [cs_fl q] at h1; cases h1
      · rw [cs_fg (by omega)] at h1; cases h1
        have zc : z = c := hN.un z (by omega)
        subst zc
        -- the way of B goes on from here
        cases wB with
        | stop h2 =>
          by_cases p : g.getD B 0 < n
          · rw [cs_fl p] at h2; cases h2
          · rw [cs_fg (by omega)] at h2; cases h2
            have := cs_fg (f := f) (g := g') (m := m) (n := n) (z := z) (by rw [hN.gc, ← fb]; omega)
            rw [hN.gc, ← fb] at this; exact .stop this
        | @go _ t _ h2 h3 =>
          have cv := cs_val hf hg (show Val m n k (false, B) from hB) h2
          by_cases p : g.getD B 0 < n
          · rw [cs_fl p] at h2; cases h2
            have := cs_fl (f := f) (g := g') (m := m) (n := n) (z := z) (by rw [hN.gc, ← fb]; exact p)
            rw [hN.gc, ← fb] at this
            exact .go this (h3.near hf hg hN cv.1 (fun h => by cases h) (fun h => by cases h) yA yB)
          · rw [cs_fg (by omega)] at h2; cases h2
  | @go s t y h1 _ ih =>
    intro vs s1 s2 y1
    have cv := cs_val hf hg vs h1
    obtain ⟨b, z⟩ := s
    cases b with
    | true =>
      by_cases q : f.getD z 0 < m
      · rw [cs_tl q] at h1; cases h1
      · rw [cs_tg (by omega)] at h1; cases h1
        have hz := (hf.d (show z < m + n from vs)).1
        exact .go (cs_tg (by omega)) (ih cv.1 (fun h => by have := congrArg Prod.snd h; have e : f.getD z 0 - m = A := this; omega) (fun h => by have := congrArg Prod.snd h; have e : f.getD z 0 - m = B := this; omega) y1)
    | false =>
      by_cases q : g.getD z 0 < n
      · rw [cs_fl q] at h1; cases h1
        have e : g'.getD z 0 = g.getD z 0 := hN.eq z (fun e => s1 (by rw [e])) (fun e => s2 (by rw [e])) (fun e => by rw [e, hN.fc] at q; omega) (fun e => by rw [e, hN.fd] at q; omega)
        have := cs_fl (f := f) (g := g') (m := m) (n := n) (z := z) (by rw [e]; exact q)
        rw [e] at this
        exact .go this (ih cv.1 (fun h => by cases h) (fun h => by cases h) y1)
      · rw [cs_fg (by omega)] at h1; cases h1
end
/-- a call at the lower ends of the second layer is one at the lower ends of both -/
theorem cmp_jn {f g : List Nat} {m n k a b : Nat} (hn : k = n) (h0 : 0 < n) (hf : IsPair (m + n) f) (hg : IsPair (n + k) g) (hab : a ≠ b) (ha : a < k) (hb : b < k) : cmp f (jn g (n + a) (n + b)) m n k = jn (cmp f g m n k) (m + a) (m + b) := by
  subst hn
  have hR := cmp_pair hf hg
  have hg2 : IsPair (2 * k) g := by rw [show 2 * k = k + k by omega]; exact hg
  by_cases hc : g.getD (k + a) 0 = k + b
  · rw [jn_same (hg.ofd (by omega) hc)]
    have w : Ends (cstep f g m k) (cst m k (m + a)) (m + b) := by
      have := cs_fg (f := f) (g := g) (m := m) (n := k) (z := k + a) (by rw [hc]; omega)
      rw [hc, show k + b - k = b by omega] at this
      unfold cst
      rw [if_neg (by omega), show m + a - m = a by omega]
      exact .stop this
    refine (jn_same ?_).symm
    rw [cmp_get f g (by omega), cfar_is w]
  · obtain ⟨N1, N2, gA, gB⟩ := jn_near hg2 (A := k + a) (B := k + b) (by omega) (by omega) (by omega) (by omega) (by omega) hc
    have hg' : IsPair (k + k) (jn g (k + a) (k + b)) := jn_pair hg (by omega) (by omega) (by omega)
    have ga := hR.d (show m + a < m + k by omega)
    have gb := hR.d (show m + b < m + k by omega)
    have sA : cst m k (m + a) = (false, k + a) := by unfold cst; rw [if_neg (by omega), show m + a - m = a by omega]
    have sB : cst m k (m + b) = (false, k + b) := by unfold cst; rw [if_neg (by omega), show m + b - m = b by omega]
    have wA := cmp_ends hf hg (show m + a < m + k by omega)
    have wB := cmp_ends hf hg (show m + b < m + k by omega)
    have JS : (cmp f g m k k).getD (m + a) 0 = m + b → jn (cmp f g m k k) (m + a) (m + b) = cmp f g m k k := fun c => jn_same (hR.ofd (by omega) c)
    rw [sA] at wA
    rw [sB] at wB
    refine cmp_ext (by rw [jn_len, cmp_len]) fun e he => ?_
    have G : ∀ {v : Nat}, (jn (cmp f g m k k) (m + a) (m + b))[e]? = some v → (jn (cmp f g m k k) (m + a) (m + b)).getD e 0 = v := fun h => getD_of h
    have we := cmp_ends hf hg he
    have ve := (cst_val hf hg he).1
    have ge := hR.d he
    have ne : ∀ {x : Nat}, x < k → e ≠ m + x → cst m k e ≠ (false, k + x) := fun {x} hx h z => by
      unfold cst at z
      by_cases c : e < m
      · rw [if_pos c] at z; cases z
      · rw [if_neg c] at z
        have : k + (e - m) = k + x := congrArg Prod.snd z
        omega
    by_cases ea : e = m + a
    · subst ea
      have w : Ends (cstep f (jn g (k + a) (k + b)) m k) (cst m k (m + a)) (m + b) := by
        have := cs_fg (f := f) (g := jn g (k + a) (k + b)) (m := m) (n := k) (z := k + a) (by rw [gA]; omega)
        rw [gA, show k + b - k = b by omega] at this
        rw [sA]; exact .stop this
      by_cases c : (cmp f g m k k).getD (m + a) 0 = m + b
      · rw [JS c, c]; exact w
      · rw [G (by rw [jn_get hR (by omega) ga.2.2.2 gb.2.2.2 c, if_pos rfl])]; exact w
    · by_cases eb : e = m + b
      · subst eb
        have w : Ends (cstep f (jn g (k + a) (k + b)) m k) (cst m k (m + b)) (m + a) := by
          have := cs_fg (f := f) (g := jn g (k + a) (k + b)) (m := m) (n := k) (z := k + b) (by rw [gB]; omega)
          rw [gB, show k + a - k = a by omega] at this
          rw [sB]; exact .stop this
        by_cases c : (cmp f g m k k).getD (m + a) 0 = m + b
        · rw [JS c, show (cmp f g m k k).getD (m + b) 0 = m + a by rw [← c]; exact ga.2.2.1]; exact w
        · rw [G (by rw [jn_get hR (by omega) ga.2.2.2 gb.2.2.2 c, if_neg (by omega), if_pos rfl])]; exact w
      · have s1 := ne ha ea
        have s2 := ne hb eb
        by_cases yA : (cmp f g m k k).getD e 0 = m + a
        · have e1 : (cmp f g m k k).getD (m + a) 0 = e := by rw [← yA]; exact ge.2.2.1
          have e2 : (cmp f g m k k).getD (m + b) 0 ≠ m + a := fun z => by
            have := gb.2.2.1
            rw [z, e1] at this; omega
          have w := Ends.over hf hg N1 (by omega) wB (by rw [show k + a - k = a by omega]; exact e2) (by rw [show k + b - k = b by omega]; exact gb.2.1) we ve s1 s2 (by rw [show k + a - k = a by omega]; exact yA)
          rw [G (by rw [jn_get hR (by omega) ga.2.2.2 gb.2.2.2 (by rw [e1]; omega), if_neg ea, if_neg eb, if_pos e1.symm])]; exact w
        · by_cases yB : (cmp f g m k k).getD e 0 = m + b
          · have e1 : (cmp f g m k k).getD (m + b) 0 = e := by rw [← yB]; exact ge.2.2.1
            have e2 : (cmp f g m k k).getD (m + a) 0 ≠ m + b := fun z => by
              have := ga.2.2.1
              rw [z, e1] at this; omega
            have e3 : (cmp f g m k k).getD (m + a) 0 ≠ e := fun z => by
              have := ga.2.2.1
              rw [z, yB] at this; omega
            have w := Ends.over hf hg N2 (by omega) wA (by rw [show k + b - k = b by omega]; exact e2) (by rw [show k + a - k = a by omega]; exact ga.2.1) we ve s2 s1 (by rw [show k + b - k = b by omega]; exact yB)
            rw [G (by rw [jn_get hR (by omega) ga.2.2.2 gb.2.2.2 e2, if_neg ea, if_neg eb, if_neg (fun z => e3 z.symm), if_pos e1.symm])]; exact w
          · have w := we.near hf hg N1 ve s1 s2 (by rw [show k + a - k = a by omega]; exact yA) (by rw [show k + b - k = b by omega]; exact yB)
            by_cases c : (cmp f g m k k).getD (m + a) 0 = m + b
            · rw [JS c]; exact w
            · have e1 : (cmp f g m k k).getD (m + a) 0 ≠ e := fun z => by
                have := ga.2.2.1
                rw [z] at this; exact yA this
              have e2 : (cmp f g m k k).getD (m + b) 0 ≠ e := fun z => by
                have := gb.2.2.1
                rw [z] at this; exact yB this
              rw [G (by rw [jn_get hR (by omega) ga.2.2.2 gb.2.2.2 c, if_neg ea, if_neg eb, if_neg (fun z => e1 z.symm), if_neg (fun z => e2 z.symm)]; exact ge.2.2.2)]; exact w
end Pc
namespace Pc
/-! ### sheets one after another -/
theorem IsPair.two {n : Nat} {f : List Nat} (h : IsPair (2 * n) f) : IsPair (n + n) f := by rw [← Nat.two_mul]; exact h
theorem IsPair.one {n : Nat} {f : List Nat} (h : IsPair (n + n) f) : IsPair (2 * n) f := by rw [Nat.two_mul]; exact h
noncomputable def fol (f g : List Nat) (n : Nat) : List Nat := cmp f g n n n
theorem fol_pair {f g : List Nat} {n : Nat} (hf : IsPair (2 * n) f) (hg : IsPair (2 * n) g) : IsPair (2 * n) (fol f g n) := (cmp_pair hf.two hg.two).one
theorem fol_assoc {f g h : List Nat} {n : Nat} (hf : IsPair (2 * n) f) (hg : IsPair (2 * n) g) (hh : IsPair (2 * n) h) : fol (fol f g n) h n = fol f (fol g h n) n := cmp_assoc hf.two hg.two hh.two
theorem rd_fol {f g ps : List Nat} {n : Nat} (hf : IsPair (2 * n) f) (hg : IsPair (2 * n) g) (hP : IsPair n ps) : rd (fol f g n) ps n = rd g (rd f ps n) n := by
  have hR := rd_pair hf hP
  have hP0 : IsPair (0 + n) ps := by rw [Nat.zero_add]; exact hP
  rw [rd_cmp (fol_pair hf hg) hP, rd_cmp hg hR, rd_cmp hf hP]
  exact (cmp_assoc hP0 hf.two hg.two).symm
theorem fol_emp {f : List Nat} {n : Nat} (hn : 0 < n) (hf : IsPair (2 * n) f) : fol f (emp n) n = f := by
  refine cmp_ext (by rw [hf.len]; omega) fun e he => ?_
  have fe := hf.d (show e < 2 * n by omega)
  have em : ∀ {x : Nat}, x < n → (emp n).getD x 0 = n + x := fun h => getD_of (emp_lo h)
  have em2 : ∀ {x : Nat}, x < n → (emp n).getD (n + x) 0 = x := fun h => getD_of (emp_hi h)
  -- from the first layer
  have T : ∀ {z : Nat}, z < 2 * n → Ends (cstep f (emp n) n n) (true, z) (f.getD z 0) := fun {z} hz => by
    have fz := hf.d hz
    by_cases c : f.getD z 0 < n
    · exact .stop (cs_tl c)
    · refine .go (cs_tg (by omega)) (.stop ?_)
      have e1 := em (x := f.getD z 0 - n) (by omega)
      rw [cs_fg (by rw [e1]; omega), e1, show n + (n + (f.getD z 0 - n) - n) = f.getD z 0 by omega]
  unfold cst
  by_cases c : e < n
  · rw [if_pos c]; exact T (by omega)
  · rw [if_neg c]
    have e1 := em2 (x := e - n) (by omega)
    refine .go (t := (true, e)) ?_ (T (by omega))
    rw [cs_fl (by rw [e1]; omega), e1, show n + (e - n) = e by omega]
theorem emp_fol {f : List Nat} {n : Nat} (hn : 0 < n) (hf : IsPair (2 * n) f) : fol (emp n) f n = f := by
  refine cmp_ext (by rw [hf.len]; omega) fun e he => ?_
  have em : ∀ {x : Nat}, x < n → (emp n).getD x 0 = n + x := fun h => getD_of (emp_lo h)
  have em2 : ∀ {x : Nat}, x < n → (emp n).getD (n + x) 0 = x := fun h => getD_of (emp_hi h)
  have T : ∀ {z : Nat}, z < 2 * n → Ends (cstep (emp n) f n n) (false, z) (f.getD z 0) := fun {z} hz => by
    have fz := hf.d hz
    by_cases c : f.getD z 0 < n
    · refine .go (cs_fl c) (.stop ?_)
      have e1 := em2 c
      rw [cs_tl (by rw [e1]; exact c), e1]
    · refine .stop ?_
      rw [cs_fg (by omega), show n + (f.getD z 0 - n) = f.getD z 0 by omega]
  unfold cst
  by_cases c : e < n
  · rw [if_pos c]
    have e1 := em c
    refine .go (t := (false, e)) ?_ (T (by omega))
    rw [cs_tg (by rw [e1]; omega), e1, show n + e - n = e by omega]
  · rw [if_neg c, show n + (e - n) = e by omega]; exact T (by omega)
theorem fol_shw {f : List Nat} {n : Nat} (hn : 0 < n) (hf : IsPair (2 * n) f) : ∀ (qs : List (Nat × Nat)) {g : List Nat}, IsPair (2 * n) g → Calls n qs → fol f (shw n qs g) n = shw n qs (fol f g n)
  | [], _, _, _ => rfl
  | q :: r, g, hg, hc => by
    have h1 := hc q List.mem_cons_self
    have h2 := fol_shw hn hf r (jn_pair hg (a := n + q.1) (b := n + q.2) (by omega) (by omega) (by omega)) (fun x hx => hc x (List.mem_cons_of_mem _ hx))
    have e : fol f (jn g (n + q.1) (n + q.2)) n = jn (fol f g n) (n + q.1) (n + q.2) := cmp_jn rfl hn hf.two hg.two (by omega) (by omega) h1.2
    rw [e] at h2
    exact h2
/-- the sheet of a word behind a sheet is the word added to it -/
theorem fol_word {f : List Nat} {n : Nat} {qs : List (Nat × Nat)} (hn : 0 < n) (hf : IsPair (2 * n) f) (hc : Calls n qs) : fol f (shw n qs (emp n)) n = shw n qs f := by
  rw [fol_shw hn hf qs (emp_pair hn) hc, fol_emp hn hf]
theorem shw_app (n : Nat) (qs rs : List (Nat × Nat)) (f : List Nat) : shw n (qs ++ rs) f = shw n rs (shw n qs f) := by
  unfold shw runs low
  rw [List.map_append, List.foldl_append]
/-! ### again and again -/
noncomputable def pw (f : List Nat) (n : Nat) : Nat → List Nat
  | 0 => emp n
  | k + 1 => fol (pw f n k) f n
theorem pw_pair {f : List Nat} {n : Nat} (hn : 0 < n) (hf : IsPair (2 * n) f) : ∀ k, IsPair (2 * n) (pw f n k)
  | 0 => emp_pair hn
  | k + 1 => fol_pair (pw_pair hn hf k) hf
theorem pw_add {f : List Nat} {n : Nat} (hn : 0 < n) (hf : IsPair (2 * n) f) (a : Nat) : ∀ b, fol (pw f n a) (pw f n b) n = pw f n (a + b)
  | 0 => fol_emp hn (pw_pair hn hf a)
  | b + 1 => by
    show fol (pw f n a) (fol (pw f n b) f n) n = fol (pw f n (a + b)) f n
    rw [← fol_assoc (pw_pair hn hf a) (pw_pair hn hf b) hf, pw_add hn hf a b]
theorem pw_one {f : List Nat} {n : Nat} (hn : 0 < n) (hf : IsPair (2 * n) f) : pw f n 1 = f := emp_fol hn hf
/-! ### upside down -/
def os (n e : Nat) : Nat := if e < n then e + n else e - n
theorem os_lt {n e : Nat} (h : e < 2 * n) : os n e < 2 * n := by unfold os; split <;> omega
theorem os_os {n e : Nat} (h : e < 2 * n) : os n (os n e) = e := by
  unfold os
  by_cases c : e < n
  · rw [if_pos c, if_neg (by omega)]; omega
  · rw [if_neg c, if_pos (by omega)]; omega
def mir (f : List Nat) (n : Nat) : List Nat := (List.range (2 * n)).map fun e => os n (f.getD (os n e) 0)
theorem mir_len (f : List Nat) (n : Nat) : (mir f n).length = 2 * n := by unfold mir; rw [List.length_map, List.length_range]
theorem mir_get (f : List Nat) {n e : Nat} (h : e < 2 * n) : (mir f n)[e]? = some (os n (f.getD (os n e) 0)) := by unfold mir; rw [List.getElem?_map, List.getElem?_range h]; rfl
theorem mir_d (f : List Nat) {n e : Nat} (h : e < 2 * n) : (mir f n).getD e 0 = os n (f.getD (os n e) 0) := getD_of (mir_get f h)
theorem mir_pair {f : List Nat} {n : Nat} (hf : IsPair (2 * n) f) : IsPair (2 * n) (mir f n) := by
  refine ⟨mir_len f n, fun e he => ?_⟩
  have fo := hf.d (os_lt he)
  refine ⟨_, mir_get f he, os_lt fo.1, fun z => ?_, ?_⟩
  · have := congrArg (os n) z
    rw [os_os fo.1] at this
    exact fo.2.1 this
  · rw [mir_get f (os_lt fo.1), os_os fo.1, fo.2.2.1, os_os he]
theorem list_d {x y : List Nat} (h : x.length = y.length) (e : ∀ i, i < x.length → x.getD i 0 = y.getD i 0) : x = y := by
  refine List.ext_getElem? fun i => ?_
  by_cases hi : i < x.length
  · have := e i hi
    rw [List.getD_eq_getElem?_getD, List.getD_eq_getElem?_getD, List.getElem?_eq_getElem hi, List.getElem?_eq_getElem (by omega)] at this
    rw [List.getElem?_eq_getElem hi, List.getElem?_eq_getElem (by omega)]
    exact congrArg some this
  · rw [List.getElem?_eq_none (by omega), List.getElem?_eq_none (by omega)]
theorem mir_mir {f : List Nat} {n : Nat} (hf : IsPair (2 * n) f) : mir (mir f n) n = f := by
  refine list_d (by rw [mir_len, hf.len]) fun e he => ?_
  rw [mir_len] at he
  rw [mir_d _ he, mir_d _ (os_lt he), os_os he, os_os (hf.d he).1]
theorem mir_emp {n : Nat} : mir (emp n) n = emp n := by
  refine list_d (by rw [mir_len, emp_len]) fun e he => ?_
  rw [mir_len] at he
  rw [mir_d _ he]
  by_cases c : e < n
  · have e1 : os n e = n + e := by unfold os; rw [if_pos c]; omega
    rw [e1, getD_of (emp_hi c), getD_of (emp_lo c), e1]
  · have e1 : os n e = e - n := by unfold os; rw [if_neg c]
    have h2 := emp_hi (n := n) (e := e - n) (by omega)
    rw [show n + (e - n) = e by omega] at h2
    rw [e1, getD_of (emp_lo (by omega)), getD_of h2]
    unfold os; rw [if_neg (by omega)]; omega
/-- a walk seen from below -/
theorem mir_ends {f g : List Nat} {n : Nat} (hf : IsPair (2 * n) f) (hg : IsPair (2 * n) g) {s : Bool × Nat} {y : Nat} (w : Ends (cstep f g n n) s y) : Val n n n s → Ends (cstep (mir g n) (mir f n) n n) (!s.1, os n s.2) (os n y) := by
  induction w with
  | @stop s y h1 =>
    intro hs
    obtain ⟨b, z⟩ := s
    have hz : z < 2 * n := by cases b <;> (have : z < n + n := hs; omega)
    cases b with
    | true =>
      have fz := hf.d hz
      by_cases c : f.getD z 0 < n
      · rw [cs_tl c] at h1; cases h1
        have e1 : (mir f n).getD (os n z) 0 = os n (f.getD z 0) := by rw [mir_d _ (os_lt hz), os_os hz]
        have e2 : os n (f.getD z 0) = f.getD z 0 + n := by unfold os; rw [if_pos c]
        refine .stop ?_
        show cstep (mir g n) (mir f n) n n (false, os n z) = _
        rw [cs_fg (by rw [e1, e2]; omega), e1, e2, show n + (f.getD z 0 + n - n) = f.getD z 0 + n by omega]
      · rw [cs_tg (by omega)] at h1; cases h1
    | false =>
      have gz := hg.d hz
      by_cases c : g.getD z 0 < n
      · rw [cs_fl c] at h1; cases h1
      · rw [cs_fg (by omega)] at h1; cases h1
        have e1 : (mir g n).getD (os n z) 0 = os n (g.getD z 0) := by rw [mir_d _ (os_lt hz), os_os hz]
        have e2 : os n (g.getD z 0) = g.getD z 0 - n := by unfold os; rw [if_neg c]
        refine .stop ?_
        show cstep (mir g n) (mir f n) n n (true, os n z) = _
        rw [cs_tl (by rw [e1, e2]; omega), e1, show n + (g.getD z 0 - n) = g.getD z 0 by omega]
  | @go s t y h1 _ ih =>
    intro hs
    have cv := cs_val hf.two hg.two hs h1
    have IH := ih cv.1
    obtain ⟨b, z⟩ := s
    have hz : z < 2 * n := by cases b <;> (have : z < n + n := hs; omega)
    cases b with
    | true =>
      have fz := hf.d hz
      by_cases c : f.getD z 0 < n
      · rw [cs_tl c] at h1; cases h1
      · rw [cs_tg (by omega)] at h1; cases h1
        have e1 : (mir f n).getD (os n z) 0 = os n (f.getD z 0) := by rw [mir_d _ (os_lt hz), os_os hz]
        have e2 : os n (f.getD z 0) = f.getD z 0 - n := by unfold os; rw [if_neg c]
        have e3 : os n (f.getD z 0 - n) = n + (f.getD z 0 - n) := by unfold os; rw [if_pos (by omega)]; omega
        refine .go (t := (true, n + (f.getD z 0 - n))) ?_ (by rw [← e3]; exact IH)
        show cstep (mir g n) (mir f n) n n (false, os n z) = _
        rw [cs_fl (by rw [e1, e2]; omega), e1, e2]
    | false =>
      have gz := hg.d hz
      by_cases c : g.getD z 0 < n
      · rw [cs_fl c] at h1; cases h1
        have e1 : (mir g n).getD (os n z) 0 = os n (g.getD z 0) := by rw [mir_d _ (os_lt hz), os_os hz]
        have e2 : os n (g.getD z 0) = g.getD z 0 + n := by unfold os; rw [if_pos c]
        have e3 : os n (n + g.getD z 0) = g.getD z 0 := by unfold os; rw [if_neg (by omega)]; omega
        refine .go (t := (false, g.getD z 0)) ?_ (by have := IH; rw [show os n (true, n + g.getD z 0).2 = g.getD z 0 from e3] at this; exact this)
        show cstep (mir g n) (mir f n) n n (true, os n z) = _
        rw [cs_tg (by rw [e1, e2]; omega), e1, e2, show g.getD z 0 + n - n = g.getD z 0 by omega]
      · rw [cs_fg (by omega)] at h1; cases h1
theorem mir_fol {f g : List Nat} {n : Nat} (hf : IsPair (2 * n) f) (hg : IsPair (2 * n) g) : mir (fol f g n) n = fol (mir g n) (mir f n) n := by
  refine (cmp_ext (by rw [mir_len]; omega) fun e he => ?_).symm
  have he2 : e < 2 * n := by omega
  have w := mir_ends hf hg (cmp_ends hf.two hg.two (show os n e < n + n by have := os_lt he2; omega)) (cst_val hf.two hg.two (by have := os_lt he2; omega)).1
  rw [mir_d _ he2]
  have e1 : ((!(cst n n (os n e)).1, os n (cst n n (os n e)).2) : Bool × Nat) = cst n n e := by
    unfold cst
    by_cases c : e < n
    · have e2 : os n e = e + n := by unfold os; rw [if_pos c]
      rw [e2, if_neg (by omega), if_pos c, show n + (e + n - n) = e + n by omega]
      show (true, os n (e + n)) = _
      unfold os; rw [if_neg (by omega), Nat.add_sub_cancel]
    · have e2 : os n e = e - n := by unfold os; rw [if_neg c]
      rw [e2, if_pos (by omega), if_neg c]
      show (false, os n (e - n)) = _
      unfold os; rw [if_pos (by omega), Nat.add_comm]
  rw [e1] at w
  exact w
/-- forth, back and forth again -/
theorem fol_mir {f : List Nat} {n : Nat} (hf : IsPair (2 * n) f) : fol (fol f (mir f n) n) f n = f := by
  have hm := mir_pair hf
  have hfm := fol_pair hf hm
  have up : ∀ {x : Nat}, x < n → n ≤ f.getD x 0 → (fol f (mir f n) n).getD x 0 = n + x := fun {x} hx h => by
    have fx := hf.d (show x < 2 * n by omega)
    have w : Ends (cstep f (mir f n) n n) (cst n n x) (n + x) := by
      unfold cst; rw [if_pos hx]
      refine .go (cs_tg h) (.stop ?_)
      have e1 : (mir f n).getD (f.getD x 0 - n) 0 = x + n := by
        rw [mir_d _ (by omega), show os n (f.getD x 0 - n) = f.getD x 0 by unfold os; rw [if_pos (by omega)]; omega, fx.2.2.1]
        unfold os; rw [if_pos hx]
      rw [cs_fg (by rw [e1]; omega), e1, show n + (x + n - n) = n + x by omega]
    show (cmp f (mir f n) n n n).getD x 0 = _
    rw [cmp_d _ _ (by omega), cfar_is w]
  have upp : ∀ {x : Nat}, x < n → f.getD x 0 < n → (fol f (mir f n) n).getD x 0 = f.getD x 0 := fun {x} hx h => by
    have w : Ends (cstep f (mir f n) n n) (cst n n x) (f.getD x 0) := by
      unfold cst; rw [if_pos hx]; exact .stop (cs_tl h)
    show (cmp f (mir f n) n n n).getD x 0 = _
    rw [cmp_d _ _ (by omega), cfar_is w]
  have dn : ∀ {x : Nat}, x < n → n ≤ f.getD x 0 → (fol f (mir f n) n).getD (n + x) 0 = x := fun {x} hx h => by
    have := hfm.d (show x < 2 * n by omega)
    rw [up hx h] at this
    exact this.2.2.1
  refine cmp_ext (by rw [hf.len]; omega) fun e he => ?_
  have fe := hf.d (show e < 2 * n by omega)
  unfold cst
  by_cases c : e < n
  · rw [if_pos c]
    by_cases q : f.getD e 0 < n
    · have := cs_tl (f := fol f (mir f n) n) (g := f) (m := n) (n := n) (z := e) (by rw [upp c q]; exact q)
      rw [upp c q] at this; exact .stop this
    · have u := up c (by omega)
      refine .go (t := (false, e)) ?_ (.stop ?_)
      · rw [cs_tg (by rw [u]; omega), u, show n + e - n = e by omega]
      · rw [cs_fg (by omega), show n + (f.getD e 0 - n) = f.getD e 0 by omega]
  · rw [if_neg c, show n + (e - n) = e by omega]
    by_cases q : f.getD e 0 < n
    · have u := dn q (by rw [fe.2.2.1]; omega)
      refine .go (cs_fl q) (.stop ?_)
      rw [cs_tl (by rw [u]; exact q), u]
    · refine .stop ?_
      rw [cs_fg (by omega), show n + (f.getD e 0 - n) = f.getD e 0 by omega]
/-! ### a walk counted -/
inductive EndsN {S Y : Type} (step : S → S ⊕ Y) : Nat → S → Y → Prop
  | stop {s : S} {y : Y} : step s = .inr y → EndsN step 0 s y
  | go {t : Nat} {s u : S} {y : Y} : step s = .inl u → EndsN step t u y → EndsN step (t + 1) s y
theorem Ends.count {S Y : Type} {step : S → S ⊕ Y} {s : S} {y : Y} (h : Ends step s y) : ∃ t, EndsN step t s y := by
  induction h with
  | stop h => exact ⟨0, .stop h⟩
  | go h _ ih =>
    obtain ⟨t, ht⟩ := ih
    exact ⟨t + 1, .go h ht⟩
end Pc
namespace Pc
open PySem PySem.Spec PyProof.Rows L2 RZ
/-- x //= c -/
def ipHalf : TIp := fun x y H Q => ∃ i j, x = .int i ∧ y = .int j ∧ (0 < j ∧ j < 1073741824) ∧ Q (.int (i / j)) H
theorem ip_half {X : Cx} : PIp X .FloorDiv ipHalf := by
  intro pins s σ H x y v u Q I r1 r2 h
  obtain ⟨i, j, e1, e2, hj, q⟩ := h
  subst e1 e2
  obtain ⟨t, rfl⟩ := r1
  obtain ⟨t', rfl⟩ := r2
  refine PyProof.Rows.ifloordiv_int (by omega) ?_ (.inl (PyProof.noPylong_small (by omega)))
  rw [Int.fdiv_eq_ediv_of_nonneg i (by omega)]
  exact ⟨.int _, H, I.tok _, ⟨_, rfl⟩, q⟩
theorem bl_dec (a b : Bool) : decide (V.bl a = V.bl b) = (a == b) := by cases a <;> cases b <;> rfl
end Pc
namespace Pc
theorem iteY {b : Bool} {A B : Prop} (h : b = true) (a : A) : if b = true then A else B := by rw [if_pos h]; exact a
theorem iteX {b : Bool} {A B : Prop} (h : b = false) (a : B) : if b = true then A else B := by rw [h, if_neg Bool.false_ne_true]; exact a
end Pc
namespace Pc
/-! ### how many strands -/
theorem sts_ups {n : Nat} {fs : List Nat} (h : IsPair (2 * n) fs) : 2 * (ups fs n).length + (sts fs n).length = n := by
  have hp := jns_perm h
  have hc := hp.countP_eq (fun z => decide (z < n))
  rw [range_low] at hc
  unfold jns at hc
  have x1 : (flat (ups fs n)).countP (fun z => decide (z < n)) = 2 * (ups fs n).length := flat_two fun p hp => by
    have := ups_mem h hp
    exact ⟨decide_eq_true (by omega), decide_eq_true (by omega)⟩
  have x2 : (flat ((los fs n).map (fun p => (n + p.1, n + p.2)))).countP (fun z => decide (z < n)) = 0 := flat_none fun p hp => by
    obtain ⟨r, hr, rfl⟩ := List.mem_map.mp hp
    exact ⟨decide_eq_false (by show ¬ n + r.1 < n; omega), decide_eq_false (by show ¬ n + r.2 < n; omega)⟩
  have x3 : (flat ((sts fs n).map (fun p => (p.1, n + p.2)))).countP (fun z => decide (z < n)) = ((sts fs n).map (fun p => (p.1, n + p.2))).length := flat_one fun p hp => by
    obtain ⟨r, hr, rfl⟩ := List.mem_map.mp hp
    have := sts_mem h hr
    exact ⟨decide_eq_true (by show r.1 < n; omega), decide_eq_false (by show ¬ n + r.2 < n; omega)⟩
  rw [flat_app, flat_app, List.countP_append, List.countP_append, x1, x2, x3, List.length_map] at hc
  omega
theorem sel_len {c d : Nat → Bool} {g k : Nat → Nat × Nat} {n : Nat} (h : ∀ x, x < n → c x = d x) : (selN c g n).length = (selN d k n).length := by
  unfold selN
  rw [List.length_map, List.length_map]
  exact congrArg List.length (List.filter_congr fun x hx => h x (List.mem_range.mp hx))
theorem sel_le {c d : Nat → Bool} {g k : Nat → Nat × Nat} {n : Nat} (h : ∀ x, x < n → c x = true → d x = true) : (selN c g n).length ≤ (selN d k n).length := by
  unfold selN
  rw [List.length_map, List.length_map, ← List.countP_eq_length_filter, ← List.countP_eq_length_filter]
  exact List.countP_mono_left fun x hx => h x (List.mem_range.mp hx)
theorem ups_mir {n : Nat} {f : List Nat} (hf : IsPair (2 * n) f) : (ups (mir f n) n).length = (los f n).length := by
  refine sel_len fun x hx => ?_
  have fx := hf.d (show n + x < 2 * n by omega)
  have e : (mir f n).getD x 0 = os n (f.getD (n + x) 0) := by rw [mir_d f (by omega), show os n x = n + x by unfold os; rw [if_pos hx]; omega]
  unfold upC loC
  rw [e]
  by_cases c : f.getD (n + x) 0 < n
  · rw [show os n (f.getD (n + x) 0) = f.getD (n + x) 0 + n by unfold os; rw [if_pos c], decide_eq_false (show ¬ f.getD (n + x) 0 + n < n by omega), decide_eq_false (show ¬ n + x < f.getD (n + x) 0 by omega), Bool.and_false]
  · rw [show os n (f.getD (n + x) 0) = f.getD (n + x) 0 - n by unfold os; rw [if_neg c], decide_eq_true (show f.getD (n + x) 0 - n < n by omega), Bool.and_true]
    by_cases q : n + x < f.getD (n + x) 0
    · rw [decide_eq_true q, decide_eq_true (by omega)]
    · rw [decide_eq_false q, decide_eq_false (by omega)]
theorem sts_mir {n : Nat} {f : List Nat} (hf : IsPair (2 * n) f) : (sts (mir f n) n).length = (sts f n).length := by
  have a := sts_ups hf
  have b := sts_ups (mir_pair hf)
  rw [ups_mir hf, ← ups_los hf] at b
  omega
theorem sts_fol {n : Nat} {f g : List Nat} : (sts (fol f g n) n).length ≤ (sts f n).length := by
  refine sel_le fun x hx h => ?_
  unfold stC at h ⊢
  by_cases c : f.getD x 0 < n
  · have w : Ends (cstep f g n n) (cst n n x) (f.getD x 0) := by unfold cst; rw [if_pos hx]; exact .stop (cs_tl c)
    have e : (fol f g n).getD x 0 = f.getD x 0 := by show (cmp f g n n n).getD x 0 = _; rw [cmp_d _ _ (by omega), cfar_is w]
    rw [e, decide_eq_false (by omega)] at h; cases h
  · exact decide_eq_true (by omega)
theorem sts_fol' {n : Nat} {f g : List Nat} (hf : IsPair (2 * n) f) (hg : IsPair (2 * n) g) : (sts (fol f g n) n).length ≤ (sts g n).length := by
  rw [← sts_mir (fol_pair hf hg), mir_fol hf hg, ← sts_mir hg]
  exact sts_fol
end Pc
namespace Pc
open PySem PySem.Spec PyProof.Rows L2 RZ
theorem room65 {k : Nat} {A : Around} (r : Room k A) : A.units + 65 < cLine := by have := r.un; omega
/-- x *= c, both small -/
def ipMul : TIp := fun x y H Q => ∃ i j, x = .int i ∧ y = .int j ∧ CMul i j ∧ Q (.int (i * j)) H
theorem ip_mul {X : Cx} : PIp X .Mult ipMul := by
  intro pins s σ H x y v u Q I r1 r2 h
  obtain ⟨i, j, e1, e2, hj, q⟩ := h
  subst e1 e2
  obtain ⟨t, rfl⟩ := r1
  obtain ⟨t', rfl⟩ := r2
  exact PyProof.Rows.imul_int ⟨.int _, H, I.tok _, ⟨_, rfl⟩, q⟩ hj.ok
end Pc
namespace Pc
/-! ### counting -/
theorem cnt_same {p q : Nat → Bool} {n : Nat} (h : ∀ y, y < n → q y = p y) : (List.range n).countP q = (List.range n).countP p :=
  List.countP_congr fun x hx => by rw [h x (List.mem_range.mp hx)]
theorem cnt_off {p q : Nat → Bool} {a : Nat} : ∀ {n : Nat}, (∀ y, y < n → y ≠ a → q y = p y) → a < n → p a = true → q a = false → (List.range n).countP q + 1 = (List.range n).countP p
  | 0, _, h, _, _ => absurd h (Nat.not_lt_zero _)
  | n + 1, h, ha, h1, h2 => by
    rw [List.range_succ, List.countP_append, List.countP_append]
    by_cases e : a = n
    · subst e
      rw [cnt_same (p := p) (q := q) (fun y hy => h y (by omega) (by omega)), List.countP_cons_of_neg (by rw [h2]; decide), List.countP_cons_of_pos h1]
      rfl
    · have ih := cnt_off (p := p) (q := q) (a := a) (n := n) (fun y hy hn => h y (by omega) hn) (by omega) h1 h2
      have e1 : [n].countP q = [n].countP p := by
        have := h n (by omega) (fun z => e z.symm)
        by_cases c : p n = true
        · rw [List.countP_cons_of_pos c, List.countP_cons_of_pos (by rw [this]; exact c)]; rfl
        · rw [List.countP_cons_of_neg c, List.countP_cons_of_neg (by rw [this]; exact c)]; rfl
      rw [e1]
      omega
/-! ### the people at the lower ends of strands -/
def lsC (f : List Nat) (n y : Nat) : Bool := decide (f.getD (n + y) 0 < n)
def lse (f : List Nat) (n : Nat) : List Nat := (List.range n).filter (lsC f n)
theorem lse_len {f : List Nat} {n : Nat} (hf : IsPair (2 * n) f) : (lse f n).length = (sts f n).length := by
  rw [← sts_mir hf]
  unfold lse sts selN
  rw [List.length_map]
  refine congrArg List.length (List.filter_congr fun x hx => ?_)
  have hx := List.mem_range.mp hx
  have fx := hf.d (show n + x < 2 * n by omega)
  have e : (mir f n).getD x 0 = os n (f.getD (n + x) 0) := by rw [mir_d f (by omega), show os n x = n + x by unfold os; rw [if_pos hx]; omega]
  unfold lsC stC
  rw [e]
  by_cases c : f.getD (n + x) 0 < n
  · rw [decide_eq_true c, show os n (f.getD (n + x) 0) = f.getD (n + x) 0 + n by unfold os; rw [if_pos c], decide_eq_true (by omega)]
  · rw [decide_eq_false c, show os n (f.getD (n + x) 0) = f.getD (n + x) 0 - n by unfold os; rw [if_neg c], decide_eq_false (by omega)]
theorem lse_cnt (f : List Nat) (n : Nat) : (lse f n).length = (List.range n).countP (lsC f n) := (List.countP_eq_length_filter ..).symm
/-- a call takes two strands if both people's lower ends are strands, else none -/
theorem lse_jn {f : List Nat} {n a b : Nat} (hf : IsPair (2 * n) f) (hab : a ≠ b) (ha : a < n) (hb : b < n) : (lse (jn f (n + a) (n + b)) n).length + (if (lsC f n a && lsC f n b) = true then 2 else 0) = (lse f n).length := by
  rw [lse_cnt, lse_cnt]
  have fa := hf.d (show n + a < 2 * n by omega)
  have fb := hf.d (show n + b < 2 * n by omega)
  by_cases hc : f.getD (n + a) 0 = n + b
  · rw [jn_same (hf.ofd (by omega) hc), if_neg, Nat.add_zero]
    unfold lsC
    rw [hc, decide_eq_false (show ¬ n + b < n by omega), Bool.false_and]
    decide
  · have G := jn_get hf (show n + a ≠ n + b by omega) fa.2.2.2 fb.2.2.2 hc
    have D : ∀ z, (jn f (n + a) (n + b)).getD z 0 = ((jn f (n + a) (n + b))[z]?).getD 0 := fun z => List.getD_eq_getElem?_getD
    obtain ⟨x1, x2, x3, x4, _⟩ := four hf (show n + a ≠ n + b by omega) fa.2.2.2 fb.2.2.2 hc
    have pa : lsC (jn f (n + a) (n + b)) n a = false := by
      unfold lsC; rw [D, G, if_pos rfl]; exact decide_eq_false (by show ¬ n + b < n; omega)
    have pb : lsC (jn f (n + a) (n + b)) n b = false := by
      unfold lsC; rw [D, G, if_neg (by omega), if_pos rfl]; exact decide_eq_false (by show ¬ n + a < n; omega)
    have same : ∀ y, y ≠ a → y ≠ b → n + y ≠ f.getD (n + a) 0 → n + y ≠ f.getD (n + b) 0 → lsC (jn f (n + a) (n + b)) n y = lsC f n y := fun y h1 h2 h3 h4 => by
      unfold lsC; rw [D, G, if_neg (by omega), if_neg (by omega), if_neg h3, if_neg h4, ← List.getD_eq_getElem?_getD]
    by_cases ca : f.getD (n + a) 0 < n
    · by_cases cb : f.getD (n + b) 0 < n
      · have qa : lsC f n a = true := decide_eq_true ca
        have qb : lsC f n b = true := decide_eq_true cb
        rw [qa, qb, Bool.and_true, if_pos rfl]
        have s1 := cnt_off (p := lsC f n) (q := fun y => if y = a then false else lsC f n y) (a := a) (n := n) (fun y _ h => if_neg h) ha qa (if_pos rfl)
        have s2 := cnt_off (p := fun y => if y = a then false else lsC f n y) (q := lsC (jn f (n + a) (n + b)) n) (a := b) (n := n) (fun y _ h => by
          by_cases e : y = a
          · rw [e, if_pos rfl]; exact pa
          · rw [if_neg e]; exact same y e h (by omega) (by omega)) hb (by rw [if_neg (Ne.symm hab)]; exact qb) pb
        omega
      · have qb : lsC f n b = false := decide_eq_false cb
        have qa : lsC f n a = true := decide_eq_true ca
        rw [qa, qb, if_neg (by decide), Nat.add_zero]
        -- the one at the other end of b's pair gets the strand
        have hv : f.getD (n + b) 0 - n < n := by omega
        have ev : n + (f.getD (n + b) 0 - n) = f.getD (n + b) 0 := by omega
        have qv : lsC f n (f.getD (n + b) 0 - n) = false := by unfold lsC; rw [ev, fb.2.2.1]; exact decide_eq_false (by omega)
        have pv : lsC (jn f (n + a) (n + b)) n (f.getD (n + b) 0 - n) = true := by
          unfold lsC; rw [ev, D, G, if_neg x3, if_neg x2, if_neg (Ne.symm x4), if_pos rfl]; exact decide_eq_true ca
        have s1 := cnt_off (p := lsC f n) (q := fun y => if y = a then false else lsC f n y) (a := a) (n := n) (fun y _ h => if_neg h) ha qa (if_pos rfl)
        have va : f.getD (n + b) 0 - n ≠ a := fun z => by rw [z, qa] at qv; cases qv
        have s2 := cnt_off (q := fun y => if y = a then false else lsC f n y) (p := lsC (jn f (n + a) (n + b)) n) (a := f.getD (n + b) 0 - n) (n := n) (fun y _ h => by
          by_cases e : y = a
          · rw [e, if_pos rfl]; exact pa.symm
          · rw [if_neg e]
            by_cases e2 : y = b
            · rw [e2, pb, qb]
            · exact (same y e e2 (by omega) (by omega)).symm) hv pv (by rw [if_neg va]; exact qv)
        omega
    · have qa : lsC f n a = false := decide_eq_false ca
      by_cases cb : f.getD (n + b) 0 < n
      · have qb : lsC f n b = true := decide_eq_true cb
        rw [qa, qb, if_neg (by decide), Nat.add_zero]
        have hv : f.getD (n + a) 0 - n < n := by omega
        have ev : n + (f.getD (n + a) 0 - n) = f.getD (n + a) 0 := by omega
        have qv : lsC f n (f.getD (n + a) 0 - n) = false := by unfold lsC; rw [ev, fa.2.2.1]; exact decide_eq_false (by omega)
        have pv : lsC (jn f (n + a) (n + b)) n (f.getD (n + a) 0 - n) = true := by
          unfold lsC; rw [ev, D, G, if_neg x1, if_neg hc, if_pos rfl]; exact decide_eq_true cb
        have s1 := cnt_off (p := lsC f n) (q := fun y => if y = b then false else lsC f n y) (a := b) (n := n) (fun y _ h => if_neg h) hb qb (if_pos rfl)
        have vb : f.getD (n + a) 0 - n ≠ b := fun z => by rw [z, qb] at qv; cases qv
        have s2 := cnt_off (q := fun y => if y = b then false else lsC f n y) (p := lsC (jn f (n + a) (n + b)) n) (a := f.getD (n + a) 0 - n) (n := n) (fun y _ h => by
          by_cases e : y = b
          · rw [e, if_pos rfl]; exact pb.symm
          · rw [if_neg e]
            by_cases e2 : y = a
            · rw [e2, pa, qa]
            · exact (same y e2 e (by omega) (by omega)).symm) hv pv (by rw [if_neg vb]; exact qv)
        omega
      · have qb : lsC f n b = false := decide_eq_false cb
        rw [qa, qb, if_neg (by decide), Nat.add_zero]
        refine cnt_same fun y hy => ?_
        by_cases e1 : y = a
        · rw [e1, pa, qa]
        · by_cases e2 : y = b
          · rw [e2, pb, qb]
          · by_cases e3 : n + y = f.getD (n + a) 0
            · have h1 : lsC f n y = false := by unfold lsC; rw [e3, fa.2.2.1]; exact decide_eq_false (by omega)
              have h2 : lsC (jn f (n + a) (n + b)) n y = false := by unfold lsC; rw [e3, D, G, if_neg x1, if_neg hc, if_pos rfl]; exact decide_eq_false cb
              rw [h1, h2]
            · by_cases e4 : n + y = f.getD (n + b) 0
              · have h1 : lsC f n y = false := by unfold lsC; rw [e4, fb.2.2.1]; exact decide_eq_false (by omega)
                have h2 : lsC (jn f (n + a) (n + b)) n y = false := by unfold lsC; rw [e4, D, G, if_neg x3, if_neg x2, if_neg (Ne.symm x4), if_pos rfl]; exact decide_eq_false ca
                rw [h1, h2]
              · exact same y e1 e2 e3 e4
/-! ### how many pairings -/
def dfac : Nat → Nat
  | 0 => 1
  | r + 1 => dfac r * (2 * r + 1)
theorem dfac_pos : ∀ r, 0 < dfac r
  | 0 => Nat.one_pos
  | r + 1 => Nat.mul_pos (dfac_pos r) (by omega)
theorem dfac_dvd (r : Nat) : ∀ k, dfac r ∣ dfac (r + k)
  | 0 => Nat.dvd_refl _
  | k + 1 => Nat.dvd_trans (dfac_dvd r k) ⟨2 * (r + k) + 1, rfl⟩
end Pc
namespace Pc
open PySem PySem.Spec PyProof.Rows L2 RZ
/-! ### pairs that have everybody once make a pairing -/
def prt (qs : List (Nat × Nat)) (z : Nat) : Nat := match qs.find? (fun p => decide (p.1 = z) || decide (p.2 = z)) with
  | some p => if p.1 = z then p.2 else p.1
  | none => 0
def mkp (qs : List (Nat × Nat)) : List Nat := (List.range (2 * qs.length)).map (prt qs)
theorem mkp_len (qs : List (Nat × Nat)) : (mkp qs).length = 2 * qs.length := by unfold mkp; rw [List.length_map, List.length_range]
theorem mkp_get {qs : List (Nat × Nat)} {z : Nat} (h : z < 2 * qs.length) : (mkp qs)[z]? = some (prt qs z) := by unfold mkp; rw [List.getElem?_map, List.getElem?_range h]; rfl
theorem prt_of : ∀ {qs : List (Nat × Nat)}, (flat qs).Nodup → ∀ {p : Nat × Nat}, p ∈ qs → prt qs p.1 = p.2 ∧ prt qs p.2 = p.1
  | [], _, _, h => absurd h List.not_mem_nil
  | q :: qs, hn, p, h => by
    have hn' : (q.1 :: q.2 :: flat qs).Nodup := hn
    rw [List.nodup_cons, List.nodup_cons] at hn'
    obtain ⟨n1, n2, n3⟩ := hn'
    have n12 : q.1 ≠ q.2 := fun e => n1 (by rw [e]; exact List.mem_cons_self)
    have m1 : q.1 ∉ flat qs := fun e => n1 (List.mem_cons_of_mem _ e)
    rcases List.mem_cons.mp h with e | h'
    · subst e
      unfold prt
      rw [List.find?_cons_of_pos (by simp), List.find?_cons_of_pos (by simp)]
      exact ⟨if_pos rfl, if_neg n12⟩
    · have a1 : p.1 ∈ flat qs := flat_mem.mpr ⟨p, h', .inl rfl⟩
      have a2 : p.2 ∈ flat qs := flat_mem.mpr ⟨p, h', .inr rfl⟩
      have c : ∀ z, z ∈ flat qs → prt (q :: qs) z = prt qs z := fun z hz => by
        unfold prt
        rw [List.find?_cons_of_neg]
        intro e
        rw [Bool.or_eq_true, decide_eq_true_eq, decide_eq_true_eq] at e
        rcases e with e | e
        · exact m1 (by rw [e]; exact hz)
        · exact n2 (by rw [e]; exact hz)
      rw [c _ a1, c _ a2]
      exact prt_of n3 h'
theorem makes_mkp {qs : List (Nat × Nat)} (h : (flat qs).Perm (List.range (2 * qs.length))) : Makes qs (mkp qs) where
  half := (mkp_len qs).symm
  ok p hp := by
    have hn : (flat qs).Nodup := h.nodup_iff.mpr List.nodup_range
    have l1 : p.1 < 2 * qs.length := List.mem_range.mp (h.mem_iff.mp (flat_mem.mpr ⟨p, hp, .inl rfl⟩))
    have l2 : p.2 < 2 * qs.length := List.mem_range.mp (h.mem_iff.mp (flat_mem.mpr ⟨p, hp, .inr rfl⟩))
    rw [mkp_get l1, mkp_get l2, (prt_of hn hp).1, (prt_of hn hp).2]
    exact ⟨rfl, rfl⟩
  all z hz := by
    rw [mkp_len] at hz
    obtain ⟨p, hp, e⟩ := flat_mem.mp (h.mem_iff.mpr (List.mem_range.mpr hz))
    exact ⟨p, hp, e.imp Eq.symm Eq.symm⟩
theorem flat_ne {qs : List (Nat × Nat)} (h : (flat qs).Nodup) {p : Nat × Nat} (hp : p ∈ qs) : p.1 ≠ p.2 := by
  induction qs with
  | nil => exact absurd hp List.not_mem_nil
  | cons q r ih =>
    have hn' : (q.1 :: q.2 :: flat r).Nodup := h
    rw [List.nodup_cons, List.nodup_cons] at hn'
    rcases List.mem_cons.mp hp with e | e
    · subst e; exact fun e => hn'.1 (by rw [e]; exact List.mem_cons_self)
    · exact ih hn'.2.2 e
theorem Makes.pair {qs : List (Nat × Nat)} {ps : List Nat} (m : Makes qs ps) (h : ∀ p ∈ qs, p.1 ≠ p.2) : IsPair ps.length ps where
  len := rfl
  par x hx := by
    obtain ⟨p, hp, e⟩ := m.all x hx
    obtain ⟨o1, o2⟩ := m.ok p hp
    have ne := h p hp
    rcases e with e | e
    · subst e; exact ⟨p.2, o1, get_lt o2, fun z => ne z.symm, o2⟩
    · subst e; exact ⟨p.1, o2, get_lt o1, ne, o1⟩
theorem mkp_pair {qs : List (Nat × Nat)} (h : (flat qs).Perm (List.range (2 * qs.length))) : IsPair (2 * qs.length) (mkp qs) := by
  have := (makes_mkp h).pair fun p hp => flat_ne (h.nodup_iff.mpr List.nodup_range) hp
  rw [mkp_len] at this
  exact this
/-- what the same pairs make is one -/
theorem Makes.one {qs : List (Nat × Nat)} {ps rs : List Nat} (m : Makes qs ps) (k : Makes qs rs) : ps = rs := by
  have hl : ps.length = rs.length := by rw [← m.half, k.half]
  refine List.ext_getElem? fun z => ?_
  by_cases hz : z < ps.length
  · obtain ⟨p, hp, e⟩ := m.all z hz
    rcases e with e | e
    · rw [← e, (m.ok p hp).1, (k.ok p hp).1]
    · rw [← e, (m.ok p hp).2, (k.ok p hp).2]
  · rw [List.getElem?_eq_none (by omega), List.getElem?_eq_none (by omega)]
/-! ### the pairing with a number -/
def una : Nat → List Nat → Nat → List (Nat × Nat)
  | 0, _, _ => []
  | j + 1, l, k => (l.getD 0 0, l.tail.getD (k / dfac j) 0) :: una j (l.tail.eraseIdx (k / dfac j)) (k % dfac j)
theorem una_len : ∀ (j : Nat) (l : List Nat) (k : Nat), (una j l k).length = j
  | 0, _, _ => rfl
  | j + 1, l, k => by
    show (una j _ _).length + 1 = j + 1
    rw [una_len j]
theorem choice_lt {j k : Nat} (h : k < dfac (j + 1)) : k / dfac j < 2 * j + 1 := by
  rw [Nat.div_lt_iff_lt_mul (dfac_pos j), Nat.mul_comm]
  exact h
theorem flat_una : ∀ (j : Nat) {l : List Nat} {k : Nat}, l.length = 2 * j → k < dfac j → (flat (una j l k)).Perm l
  | 0, l, k, hl, _ => by
    have : l = [] := List.length_eq_zero_iff.mp (by omega)
    subst this
    exact List.Perm.refl _
  | j + 1, [], k, hl, _ => by simp at hl
  | j + 1, x :: t, k, hl, hk => by
    have ht : t.length = 2 * j + 1 := by rw [List.length_cons] at hl; omega
    have hc := choice_lt hk
    have e : t.getD (k / dfac j) 0 = t[k / dfac j]'(by omega) := by rw [List.getD_eq_getElem?_getD, List.getElem?_eq_getElem (by omega)]; rfl
    show (x :: t.getD (k / dfac j) 0 :: flat (una j (t.eraseIdx (k / dfac j)) (k % dfac j))).Perm (x :: t)
    rw [e]
    refine List.Perm.cons x (((flat_una j (by rw [List.length_eraseIdx, if_pos (by omega)]; omega) (Nat.mod_lt _ (dfac_pos j))).cons _).trans (perm_erase (by omega)))
def pat (r k : Nat) : List Nat := mkp (una r (List.range (2 * r)) k)
theorem una_flat {r k : Nat} (hk : k < dfac r) : (flat (una r (List.range (2 * r)) k)).Perm (List.range (2 * (una r (List.range (2 * r)) k).length)) := by
  rw [una_len]
  exact flat_una r (by rw [List.length_range]) hk
theorem pat_pair {r k : Nat} (hk : k < dfac r) : IsPair (2 * r) (pat r k) := by
  have := mkp_pair (una_flat hk)
  rw [una_len] at this
  exact this
theorem pat_makes {r k : Nat} (hk : k < dfac r) : Makes (una r (List.range (2 * r)) k) (pat r k) := makes_mkp (una_flat hk)
end Pc
namespace Pc
open PySem PySem.Spec PyProof.Rows L2 RZ
/-! ### data of small size, by its depth -/
def Sz : Nat → Nat
  | 0 => 61
  | 1 => 6303
  | 2 => 630503
  | _ => 15762628
abbrev Fi (j : Nat) (d : PyData) : Prop := Fine j (Sz j) d
theorem Sz_le : ∀ j, Sz j ≤ Sz (j + 1)
  | 0 => by decide
  | 1 => by decide
  | 2 => by decide
  | _ + 3 => Nat.le_refl _
theorem Fine.up {j : Nat} {d : PyData} (h : Fi j d) : Fi (j + 1) d := h.mono (Nat.le_succ _) (Sz_le j)
theorem Fine.sh {j : Nat} {d : PyData} (h : Fi j d) (hj : j ≤ 60 := by decide) : SeqAt.shaped d = true := Fine.shaped h (by omega)
theorem fi_int {i : Int} (h : i.natAbs < 2 ^ 60) : Fi 0 (.int i) := fine_int h
theorem fi_bl {b : Bool} : Fi 0 (.bool b) := ⟨rfl, rfl, Nat.le_refl _, trivial, by cases b <;> decide⟩
theorem fi_non : Fi 0 .none := ⟨rfl, rfl, Nat.le_refl _, trivial, by decide⟩
theorem fi_tup {l : List Nat} {m : Nat} (hl : IsPair m l) (hm : m ≤ 100) : Fi 1 (td l) := (fine_tup (n := 100) (fun i hi => by have := hl.lt i hi; omega) (by rw [hl.len]; omega) (by decide)).mono (Nat.le_refl _) (by decide)
/-- numbers of small size, not many -/
def Fw (l : List Nat) : Prop := l.length ≤ 100 ∧ ∀ i ∈ l, i < 2 ^ 60
theorem fb {l : List Nat} {m : Nat} (hl : IsPair m l) (hm : m ≤ 100) : Fw l := ⟨by rw [hl.len]; exact hm, fun i hi => by have := hl.lt i hi; omega⟩
theorem fi_tup' {l : List Nat} (h : Fw l) : Fi 1 (td l) := (fine_tup (n := 100) h.2 h.1 (by decide)).mono (Nat.le_refl _) (by decide)
theorem fi_lst {l : List Nat} (h : Fw l) : Fi 1 (.list (nd l)) := (fine_list (k := 0) (m := 61) (n := 100) (fine_nd h.2) (by rw [nd_length]; exact h.1) (by decide)).mono (Nat.le_refl _) (by decide)
theorem fi_prs {qs : List (Nat × Nat)} (h : qs.length ≤ 1000 ∧ ∀ p ∈ qs, p.1 < 2 ^ 60 ∧ p.2 < 2 ^ 60) : Fi 2 (.list (qs.map pd)) := (fine_pds (n := 1000) h.2 h.1 (by decide)).mono (Nat.le_refl _) (by decide)
theorem fa_nil {j : Nat} : ∀ d ∈ ([] : List PyData), Fi j d := fun _ h => absurd h List.not_mem_nil
theorem fa_cons {j : Nat} {d : PyData} {ds : List PyData} (h : Fi j d) (r : ∀ x ∈ ds, Fi j x) : ∀ x ∈ d :: ds, Fi j x := fun x hx => (List.mem_cons.mp hx).elim (fun e => by rw [e]; exact h) (r x)
def Few (j n : Nat) : Prop := n * (Sz j + 2) + 3 ≤ Sz (j + 1) ∧ n ≤ 100000
instance (j n : Nat) : Decidable (Few j n) := by unfold Few; infer_instance
theorem fi_list {j : Nat} {ds : List PyData} (h : ∀ d ∈ ds, Fi j d) (hn : n = ds.length := by rfl) (hf : Few j n := by decide) : Fi (j + 1) (.list ds) := (fine_list (k := j) (m := Sz j) (n := n) h (by rw [hn]; exact Nat.le_refl _) hf.2).mono (Nat.le_refl _) hf.1
theorem fi_tuple {j : Nat} {ds : List PyData} (h : ∀ d ∈ ds, Fi j d) (hn : n = ds.length := by rfl) (hf : Few j n := by decide) : Fi (j + 1) (.tuple ds) := (fine_tuple (k := j) (m := Sz j) (n := n) h (by rw [hn]; exact Nat.le_refl _) hf.2).mono (Nat.le_refl _) hf.1
theorem fi_ne {j : Nat} {d : PyData} (h : Fi j d) : (!PyData.eqv d d) = false := by
  rw [PySem.SeqAt.eqv_refl _ h.lay]; rfl
theorem fi_eq {j : Nat} {d : PyData} (h : Fi j d) : PyData.eqv d d = true := PySem.SeqAt.eqv_refl _ h.lay
/-! ### arguments by name, in another order -/
def pm10 {α : Type} : List α → List α
  | [a, b] => [b, a]
  | l => l
theorem rel_pm10 {zs : List V} {ws : List Value} (_ : zs.length = 2) (r : Vals zs ws) : Vals (pm10 zs) (pm10 ws) := by
  match zs, ws, r with
  | [], _, .nil => exact .nil
  | [_], _, .cons h .nil => exact .cons h .nil
  | [_, _], _, .cons h1 (.cons h2 .nil) => exact .cons h2 (.cons h1 .nil)
  | _ :: _ :: _ :: _, _, .cons h1 (.cons h2 (.cons h3 r)) => exact .cons h1 (.cons h2 (.cons h3 r))
def pm0 {α : Type} (l : List α) : List α := l
theorem rel_pm0 {zs : List V} {ws : List Value} (_ : zs.length = 1) (r : Vals zs ws) : Vals (pm0 zs) (pm0 ws) := r
end Pc
namespace Pc
open PySem PySem.Spec PyProof.Rows L2 RZ
theorem calls_app {n : Nat} {qs rs : List (Nat × Nat)} (h : Calls n qs) (g : Calls n rs) : Calls n (qs ++ rs) := fun q hq => (List.mem_append.mp hq).elim (h q) (g q)
end Pc
namespace Pc
open PySem PySem.Spec PyProof.Rows L2 RZ
/-- the slots, written out -/
theorem st_eq {t : TS} {D : L2.Ends} {σ : L2.St} {H : Hp} (σ' : L2.St) (h : t D σ' H) (e : σ = σ') : t D σ H := by rw [e]; exact h
end Pc
namespace Pc
open PySem PySem.Spec PyProof.Rows L2 RZ
theorem st_set {i : Nat} {v : V} {σ : L2.St} {H : Hp} {Q : L2.St → Hp → Prop} (σ' : L2.St) (h : Q σ' H) (e : σ.set i (some v) = σ') : gName i v σ H Q := by
  unfold gName
  rw [e]; exact h
end Pc
namespace Pc
open PySem PySem.Spec PyProof.Rows L2 RZ
theorem fi_same {x y : V} (e : x = y) : (!decide (x = y)) = false := by rw [decide_eq_true e]; rfl
theorem fi_is {x y : V} (e : x = y) : decide (x = y) = true := decide_eq_true e
end Pc
namespace Pc
open PySem PySem.Spec PyProof.Rows L2 RZ
theorem st_kept {D : L2.Ends} {i : Nat} {a C d : Addr} {σ1 : L2.St} {H : Hp} (σ' : L2.St) (h : D.nx σ' (upd H a (exk a (.ref C) (some d)))) (e : σ1.set i none = σ') :
    ({ nx := fun σ'' H'' => D.nx (σ''.set i none) (upd H'' a (exk a (.ref C) (some d))), rt := fun _ _ => False } : L2.Ends).nx σ1 H := by
  show D.nx (σ1.set i none) _
  rw [e]; exact h
end Pc
namespace Pc
open PySem PySem.Spec PyProof.Rows L2 RZ
theorem st_setH {i : Nat} {v : V} {σ : L2.St} {H : Hp} {Q : L2.St → Hp → Prop} (σ' : L2.St) (H' : Hp) (h : Q σ' H') (e : σ.set i (some v) = σ') (eh : H = H') : gName i v σ H Q := by
  unfold gName
  rw [e, eh]; exact h
end Pc
namespace Pc
open PySem PySem.Spec PyProof.Rows L2 RZ
section
variable {P : Program} {w : World} {K : PySem.W.Frag} {mg : Str → Option Value} {base : Heap}
/-! ### pairing_of -/
def spPairingOf (K : PySem.W.Frag) : Sp := fun vs H Q _ => ∃ (a : Addr) (us : List V) (qs : List (Nat × Nat)) (ps : List Nat), vs = [.ref a] ∧ Sq K H a us ∧ Items K H us qs ∧ Makes qs ps ∧ ps.length ≤ 1000 ∧
  ∀ (H' : Hp) (t : Addr), Same H H' → H t = none → H' t = some (.tup (nv ps)) → Q (.ref t) H'
theorem ok_p_pairing_of (T : Env K mg) : FnOk P w K mg base CX0 1 T.f_p_pairing_of T.d_p_pairing_of ["couples"] (spPairingOf K) := by
  refine T.F_p_pairing_of.ok sc_p_pairing_of (fun vs H Q E h => ?_) (fun cdv A outer s H vs Q E hr h => ?_)
  · obtain ⟨a, us, qs, ps, rfl, _⟩ := h
    rfl
  · obtain ⟨a, us, qs, ps, rfl, hS, hI, hM, hn, q⟩ := h
    refine ⟨_, pss_cons (ps_set (i := 1) sc_p_pairing_of.nd rfl (.inl rfl) (pe_op op_rep (pe_lst (pa_cons pe_int pa_nil)) (pe_op op_mul pe_int (pe_callB call_len_seq (by rfl) T.n_len PySem.boot_len (pa_cons (pv 0) pa_nil)))))
      (pss_cons (ps_for PassesOwn.never rfl (pi_seq (pv 0)) (pg_seq (by rfl) (pgs_cons (pg_name (i := 2) sc_p_pairing_of.nd rfl (.inl rfl)) (pgs_cons (pg_name (i := 3) sc_p_pairing_of.nd rfl (.inl rfl)) pgs_nil)))
        (pss_cons (ps_asg (pv 3) (pg_sub (pv 1) (pv 2) set_list)) (pss_one (ps_asg (pv 2) (pg_sub (pv 1) (pv 3) set_list)))))
      (pss_one (ps_ret (pe_callTy call_tuple_of (by rfl) T.n_tuple (by decide +kernel) (pa_cons (pv 1) pa_nil))))), ?_⟩
    have hlen : us.length = qs.length := hI.1
    have hhalf := hM.half
    refine ⟨by show 1 ≤ sizeLine; decide, fun e ne => ?_⟩
    have s0 : Same H (upd H e (.lst [.int 0])) := same_new ne
    have hlq : SqL K (upd H e (.lst [.int 0])) a us ∨ SqT K (upd H e (.lst [.int 0])) a us := hS.same s0
    refine ⟨.ref a, rfl, a, us, rfl, hlq, 2, _, rfl, rfl, .inl ⟨by decide, by decide⟩, e, _, [.int 0], rfl, rfl, upd_same, by omega, by omega, ?_, fun f nf => ?_⟩
    · show 1 * Int.toNat (2 * (us.length : Int)) ≤ sizeLine
      exact Nat.le_of_lt (small1000 (by omega))
    have e0 : (List.replicate (2 * (us.length : Int)).toNat [V.int 0]).flatten = nv (List.replicate ps.length 0) := by
      rw [rep_flat, show (2 * (us.length : Int)).toNat = ps.length by omega]
      unfold nv
      rw [List.map_replicate]; rfl
    have s1 : Same H _ := s0.trans (same_new (o := .lst (List.replicate (2 * (us.length : Int)).toNat [V.int 0]).flatten) nf)
    have nf0 : H f = none := s0.free nf
    -- one turn
    have turn : ∀ (i : Nat) (x : V) (σ : L2.St) (H1 : Hp), us[i]? = some x → (Same H H1 ∧ ∃ (y2 y3 : Option V) (fs : List Nat), σ = [some (.ref a), some (.ref f), y2, y3] ∧ H1 f = some (.lst (nv fs)) ∧ CInv ps qs fs i) →
        ∀ N : L2.St → Hp → Prop, (∀ σ' H', (Same H H' ∧ ∃ (y2 y3 : Option V) (fs : List Nat), σ' = [some (.ref a), some (.ref f), y2, y3] ∧ H' f = some (.lst (nv fs)) ∧ CInv ps qs fs (i + 1)) → N σ' H') →
        gSeq K 2 (gCons (gName 2) (gCons (gName 3) gNil)) x σ H1 fun σ2 H2 => ∃ v3, σ2[3]? = some (some v3) ∧ ∃ v1, σ2[1]? = some (some v1) ∧ ∃ v2, σ2[2]? = some (some v2) ∧ rSetL v1 v2 v3 H2 fun H3 => ∃ w2, σ2[2]? = some (some w2) ∧ ∃ w1, σ2[1]? = some (some w1) ∧ ∃ w3, σ2[3]? = some (some w3) ∧ rSetL w1 w3 w2 H3 fun H4 => N σ2 H4 := by
      intro i x σ H1 hx hP N hN
      obtain ⟨sm, y2, y3, fs, rfl, ef, ci⟩ := hP
      obtain ⟨c, p, rfl, hp, hc⟩ := hI.2 i x hx
      obtain ⟨o1, o2⟩ := hM.ok p (List.mem_of_getElem? hp)
      have l1 : p.1 < fs.length := by rw [ci.1]; exact get_lt o1
      have l2 : p.2 < fs.length := by rw [ci.1]; exact get_lt o2
      refine ⟨c, _, rfl, hc.same sm, rfl, _, _, rfl, _, _, rfl, rfl, _, rfl, _, rfl, _, rfl, f, _, _, p.1, rfl, rfl, ef, ixN_nat (by rw [nv_length]; exact l1), _, rfl, _, rfl, _, rfl, f, _, _, p.2, rfl, rfl, upd_same, ?_, hN _ _ ⟨fun b o hb => ?_, _, _, (fs.set p.1 p.2).set p.2 p.1, rfl, ?_, ci.step hM hp⟩⟩
      · rw [List.length_set]; exact ixN_nat (by rw [nv_length]; exact l2)
      · rw [upd_ne (ne_of_none hb nf0), upd_ne (ne_of_none hb nf0)]; exact sm _ _ hb
      · rw [upd_same, nv_set, nv_set]
    have start : Same H (upd (upd H e (.lst [.int 0])) f (.lst (List.replicate (2 * (us.length : Int)).toNat [V.int 0]).flatten)) ∧ ∃ (y2 y3 : Option V) (fs : List Nat), ([some (.ref a), some (.ref f), none, none] : L2.St) = [some (.ref a), some (.ref f), y2, y3] ∧ (upd (upd H e (.lst [.int 0])) f (.lst (List.replicate (2 * (us.length : Int)).toNat [V.int 0]).flatten)) f = some (.lst (nv fs)) ∧ CInv ps qs fs 0 :=
      ⟨s1, none, none, List.replicate ps.length 0, rfl, by rw [upd_same, e0], by rw [List.length_replicate], fun j hj => absurd hj (Nat.not_lt_zero _)⟩
    have fin : ∀ (σ : L2.St) (H' : Hp), (Same H H' ∧ ∃ (y2 y3 : Option V) (fs : List Nat), σ = [some (.ref a), some (.ref f), y2, y3] ∧ H' f = some (.lst (nv fs)) ∧ CInv ps qs fs us.length) → ∃ v, σ[1]? = some (some v) ∧ ∃ (p : Addr) (ys : List V), [v] = [.ref p] ∧ ((SqL K H' p ys ∧ ∀ l, H' l = none → Q (.ref l) (upd H' l (.tup ys))) ∨ (SqT K H' p ys ∧ Q (.ref p) H')) := by
      rintro σ H' ⟨sm, y2, y3, fs, rfl, ef, ci⟩
      rw [hlen] at ci
      have e := ci.done hM
      subst e
      exact ⟨_, rfl, f, _, rfl, .inl ⟨.inl (.inl ef), fun l nl => q _ l (sm.trans (same_new nl)) (sm.free nl) upd_same⟩⟩
    rcases hS with hS | hS
    · refine ⟨.ref a, rfl, a, rfl, .inl ⟨⟨_, s1.seq hS⟩, ?_⟩⟩
      exact for_list (xs := us) _ start (fun i σ H' _ h => h.1.seq hS) (fun i x σ H1 hx hP => turn i x σ H1 hx hP _ fun _ _ z => z) fin
    · refine ⟨.ref a, rfl, a, rfl, .inr ⟨⟨_, same_tup s1 hS⟩, ?_⟩⟩
      exact for_tup (xs := us) _ start (fun i σ H' _ h => same_tup h.1 hS) (fun i x σ H1 hx hP => turn i x σ H1 hx hP _ fun _ _ z => z) fin
end
end Pc
namespace Pc
open PySem PySem.Spec PyProof.Rows L2 RZ
theorem rgc_odd {r : Nat} (h : r ≤ 100000) : RgC 1 ((2 * r : Nat) : Int) 2 r := by
  have e : Builtin.Range.rangeSize 1 ((2 * r : Nat) : Int) 2 = (r : Int) := by
    unfold Builtin.Range.rangeSize
    rw [if_pos (by decide)]
    split <;> omega
  refine ⟨by decide, by decide, ?_, e⟩
  unfold Builtin.Range.small
  rw [e, fits_long (i := 1) (by decide) (by decide), fits_long (i := ((2 * r : Nat) : Int)) (by omega) (by omega), fits_long (i := 2) (by decide) (by decide), fits_long (i := (r : Int)) (by omega) (by omega), if_pos (by decide), fits_long (i := ((2 * r : Nat) : Int) + (2 - 1)) (by omega) (by omega), Bool.or_true]
  rfl
theorem dfac_small {r : Nat} (h : r ≤ 10) : dfac r ≤ 654729075 := by
  have := Nat.le_of_dvd (dfac_pos (r + (10 - r))) (dfac_dvd r (10 - r))
  rw [show r + (10 - r) = 10 by omega] at this
  exact Nat.le_trans this (by decide)
section
variable {P : Program} {w : World} {K : PySem.W.Frag} {mg : Str → Option Value} {base : Heap}
/-! ### how many pairings, how many results -/
def spMany : Sp := fun vs H Q _ => ∃ r : Nat, vs = [.int ((2 * r : Nat) : Int)] ∧ r ≤ 10 ∧ Q (.int (dfac r : Nat)) H
theorem ok_p_pairings_many (T : Env K mg) : FnOk P w K mg base CX0 1 T.f_p_pairings_many T.d_p_pairings_many ["size"] spMany := by
  refine T.F_p_pairings_many.ok sc_p_pairings_many (fun vs H Q E h => ?_) (fun cdv A outer s H vs Q E hr h => ?_)
  · obtain ⟨r, rfl, _⟩ := h
    rfl
  · obtain ⟨r, rfl, hr', q⟩ := h
    refine ⟨_, pss_cons (ps_set (i := 1) sc_p_pairings_many.nd rfl (.inl rfl) pe_int) <|
      pss_cons (ps_for PassesOwn.never rfl (pi_range3 rfl T.n_range (pa_cons pe_int (pa_cons (pv 0) (pa_cons pe_int pa_nil)))) (pg_name (i := 2) sc_p_pairings_many.nd rfl (.inl rfl))
        (pss_one (ps_aug (i := 1) sc_p_pairings_many.nd rfl (.inl rfl) (pv 2) ip_mul))) <|
      pss_one (ps_ret (pv 1)), ?_⟩
    refine ⟨_, rfl, 1, _, 2, r, rfl, rgc_odd (by omega), ?_⟩
    refine for_rangeC (fun t σ H' => H' = H ∧ ∃ y : Option V, σ = [some (.int ((2 * r : Nat) : Int)), some (.int (dfac t : Nat)), y]) ⟨rfl, none, rfl⟩ (fun t σ H' ht h => ?_) (fun σ H' h => ?_)
    · obtain ⟨rfl, y, rfl⟩ := h
      have hd := dfac_small (r := t) (by omega)
      refine ⟨_, rfl, _, rfl, _, _, rfl, rfl, .inl ⟨by omega, by omega⟩, rfl, some (.int (1 + (t : Nat) * 2)), ?_⟩
      show [some (V.int ((2 * r : Nat) : Int)), some (V.int ((dfac t : Int) * (1 + (t : Nat) * 2))), some (V.int (1 + (t : Nat) * 2))] = _
      rw [show ((dfac t : Nat) : Int) * (1 + (t : Nat) * 2) = ((dfac (t + 1) : Nat) : Int) by
        show _ = ((dfac t * (2 * t + 1) : Nat) : Int)
        rw [Int.natCast_mul, show ((2 * t + 1 : Nat) : Int) = 1 + (t : Nat) * 2 by omega]]
    · obtain ⟨rfl, y, rfl⟩ := h
      exact ⟨_, rfl, q⟩
end
end Pc
namespace Pc
open PySem PySem.Spec PyProof.Rows L2 RZ
theorem nv_erase : ∀ (l : List Nat) (k : Nat), (nv l).eraseIdx k = nv (l.eraseIdx k)
  | [], _ => rfl
  | _ :: _, 0 => rfl
  | x :: l, k + 1 => congrArg (V.int (x : Int) :: ·) (nv_erase l k)
section
variable {P : Program} {w : World} {K : PySem.W.Frag} {mg : Str → Option Value} {base : Heap}
/-! ### the pairing with a number -/
def spPairingAt : Sp := fun vs H Q _ => ∃ r k : Nat, vs = [.int ((2 * r : Nat) : Int), .int k] ∧ r ≤ 10 ∧ k < dfac r ∧
  ∀ (H' : Hp) (t : Addr), Same H H' → H t = none → H' t = some (.tup (nv (pat r k))) → Q (.ref t) H'
theorem ok_p_pairing_at (T : Env K mg) : FnOk P w K mg base CX0 2 T.f_p_pairing_at T.d_p_pairing_at ["size", "number"] spPairingAt := by
  have G1 : FnOk P w K mg base CX0 1 T.f_p_pairings_many T.d_p_pairings_many ["size"] spMany := ok_p_pairings_many T
  have G2 : FnOk P w K mg base CX0 1 T.f_p_pairing_of T.d_p_pairing_of ["couples"] (spPairingOf K) := ok_p_pairing_of T
  refine T.F_p_pairing_at.ok sc_p_pairing_at (fun vs H Q E h => ?_) (fun cdv A outer s H vs Q E hr h => ?_)
  · obtain ⟨r, k, rfl, _⟩ := h
    rfl
  · obtain ⟨r, k0, rfl, hr10, hk0, q⟩ := h
    refine ⟨_, pss_cons (ps_set (i := 2) sc_p_pairing_at.nd rfl (.inl rfl) (pe_call G1 hr (by rfl) T.g_p_pairings_many T.F_p_pairings_many.kp T.b_p_pairings_many .nil pass0 (pa_cons (pv 0) pa_nil))) <|
      pss_cons (ps_if (pt_not (pt_chain op_le op_lt pe_int (pv 1) (pv 2))) pss_never pss_nil) <|
      pss_cons (ps_set (i := 3) sc_p_pairing_at.nd rfl (.inl rfl) (pe_lst pa_nil)) <|
      pss_cons (ps_set (i := 4) sc_p_pairing_at.nd rfl (.inl rfl) (pe_listRg rfl (by rfl) T.n_list (prg_1 (by rfl) T.n_range (pv 0)))) <|
      pss_cons (ps_set (i := 5) sc_p_pairing_at.nd rfl (.inl rfl) (pv 1)) <|
      pss_cons (ps_while PassesOwn.never (pt_truth (pv 4) (by intro _; rfl))
        (pss_cons (ps_set (i := 6) sc_p_pairing_at.nd rfl (.inl rfl) (pe_bm PySem.F.plainAttrs_list PySem.F.slot_list_pop PySem.F.type_list_pop mt_popAt (pv 4) (pa_cons pe_int pa_nil))) <|
        pss_cons (ps_aug (i := 2) sc_p_pairing_at.nd rfl (.inl rfl) (pe_callB call_len_seq (by rfl) T.n_len PySem.boot_len (pa_cons (pv 4) pa_nil)) ip_half) <|
        pss_cons (ps_asg (pe_callB call_divmod (by rfl) T.n_divmod (by decide +kernel) (pa_cons (pv 5) (pa_cons (pv 2) pa_nil))) (pg_tup rfl (pgs_cons (pg_name (i := 7) sc_p_pairing_at.nd rfl (.inl rfl)) (pgs_cons (pg_name (i := 5) sc_p_pairing_at.nd rfl (.inl rfl)) pgs_nil)))) <|
        pss_one (ps_expr (pe_bm PySem.F.plainAttrs_list PySem.F.slot_list_append PySem.F.type_list_append mt_append (pv 3) (pa_cons
          (pe_tup (pa_cons (pv 6) (pa_cons (pe_bm PySem.F.plainAttrs_list PySem.F.slot_list_pop PySem.F.type_list_pop mt_popAt (pv 4) (pa_cons (pv 7) pa_nil)) pa_nil))) pa_nil))))) <|
      pss_one (ps_ret (pe_call G2 hr (by rfl) T.g_p_pairing_of T.F_p_pairing_of.kp T.b_p_pairing_of .nil pass0 (pa_cons (pv 3) pa_nil))), ?_⟩
    refine ⟨_, rfl, r, rfl, hr10, ?_⟩
    refine ⟨_, rfl, 0, k0, rfl, rfl, _, rfl, ?_⟩
    rw [decide_eq_true (show (0 : Int) ≤ (k0 : Int) by omega)]
    refine iteT ⟨_, rfl, k0, (dfac r : Nat), rfl, rfl, _, rfl, ?_⟩
    rw [decide_eq_true (show (k0 : Int) < ((dfac r : Nat) : Int) by omega)]
    refine iteN ⟨Nat.zero_le _, fun f nf => ?_⟩
    refine ⟨_, rfl, _, rfl, RgOk.of_le (by decide) (by omega) (by decide) (by omega), fun l nl => ?_⟩
    rw [rg_nv]
    have lf : l ≠ f := fun e => by rw [e, upd_same] at nl; cases nl
    have nl0 : H l = none := (same_new nf).free nl
    have s0 : Same H (upd (upd H f (.lst [])) l (.lst (nv (List.range (2 * r))))) := (same_new nf).trans (same_new nl)
    refine ⟨_, rfl, ?_⟩
    have hd10 : dfac 10 = 654729075 := by decide
    refine ⟨fun m σ Hx => ∃ (fr : List Nat) (k : Nat) (as : List Addr) (dn : List (Nat × Nat)) (y6 y7 : Option V), σ = [some (.int ((2 * r : Nat) : Int)), some (.int (k0 : Nat)), some (.int (dfac m : Nat)), some (.ref f), some (.ref l), some (.int (k : Nat)), y6, y7] ∧ Hx l = some (.lst (nv fr)) ∧ Hx f = some (.lst (as.map V.ref)) ∧ Prs Hx as dn ∧
        fr.length = 2 * m ∧ k < dfac m ∧ m ≤ r ∧ dn.length + m = r ∧ dn ++ una m fr k = una r (List.range (2 * r)) k0 ∧ Same H Hx,
      ⟨r, List.range (2 * r), k0, [], [], none, none, rfl, upd_same, by rw [upd_ne (Ne.symm lf), upd_same]; rfl, .nil, by rw [List.length_range], hk0, Nat.le_refl _, by simp, rfl, s0⟩, fun m σ Hx hW => ?_⟩
    obtain ⟨fr, k, as, dn, y6, y7, rfl, el, ef, hA, hfr, hk, hmr, hdn, hun, sm⟩ := hW
    refine ⟨_, rfl, _, .inl ⟨_, .inl (.inl el), rfl⟩, ite2 (fun c => ?_) (fun c => ?_)⟩
    · cases m with
      | zero =>
        have : fr = [] := List.length_eq_zero_iff.mp (by omega)
        subst this
        exact absurd c (by decide)
      | succ j =>
        cases fr with
        | nil => simp at hfr
        | cons x t =>
          have ht : t.length = 2 * j + 1 := by rw [List.length_cons] at hfr; omega
          have hc := choice_lt hk
          have hdj := dfac_small (r := j) (by omega)
          have hdp := dfac_pos j
          refine ⟨fun σ' H2 => ∃ (fr : List Nat) (k : Nat) (as : List Addr) (dn : List (Nat × Nat)) (y6 y7 : Option V), σ' = [some (.int ((2 * r : Nat) : Int)), some (.int (k0 : Nat)), some (.int (dfac j : Nat)), some (.ref f), some (.ref l), some (.int (k : Nat)), y6, y7] ∧ H2 l = some (.lst (nv fr)) ∧ H2 f = some (.lst (as.map V.ref)) ∧ Prs H2 as dn ∧
            fr.length = 2 * j ∧ k < dfac j ∧ j ≤ r ∧ dn.length + j = r ∧ dn ++ una j fr k = una r (List.range (2 * r)) k0 ∧ Same H H2, fun σ' H2 h2 => ⟨j, Nat.lt_succ_self _, h2⟩, ?_⟩
          refine ⟨_, rfl, .inl ⟨rfl, _, .inl (.inl el)⟩, l, _, 0, 0, .int (x : Nat), rfl, rfl, el, by decide, by decide, seq_ix (by decide) (by rw [nv_length, List.length_cons]; omega), rfl, ?_⟩
          have el1 : (upd Hx l (.lst (nv t))) l = some (.lst (nv t)) := upd_same
          have ef1 : (upd Hx l (.lst (nv t))) f = some (.lst (as.map V.ref)) := by rw [upd_ne (Ne.symm lf)]; exact ef
          have k1 : Keep l Hx (upd Hx l (.lst (nv t))) := keep_upd
          have hA1 : Prs (upd Hx l (.lst (nv t))) as dn := prs_keep k1 el hA
          have sm1 : Same H (upd Hx l (.lst (nv t))) := fun z o hz => by rw [upd_ne (ne_of_none hz nl0)]; exact sm _ _ hz
          rw [show (nv (x :: t)).eraseIdx 0 = nv t from rfl]
          revert el1 ef1 hA1 sm1
          generalize upd Hx l (.lst (nv t)) = H1
          intro el1 ef1 hA1 sm1
          refine ⟨_, rfl, _, rfl, l, _, rfl, .inl (.inl (.inl el1)), _, _, rfl, rfl, ⟨by rw [nv_length]; omega, by rw [nv_length]; omega⟩, ?_⟩
          rw [show ((dfac (j + 1) : Nat) : Int) / ((nv t).length : Int) = ((dfac j : Nat) : Int) by
            rw [nv_length, ht]
            show ((dfac j * (2 * j + 1) : Nat) : Int) / ((2 * j + 1 : Nat) : Int) = _
            rw [← Int.natCast_ediv, Nat.mul_div_cancel _ (by omega)]]
          refine ⟨_, rfl, _, rfl, _, _, rfl, ⟨by omega, by omega⟩, fun d nd => ?_⟩
          rw [show ((k : Nat) : Int) / ((dfac j : Nat) : Int) = ((k / dfac j : Nat) : Int) from (Int.natCast_ediv _ _).symm, show ((k : Nat) : Int) % ((dfac j : Nat) : Int) = ((k % dfac j : Nat) : Int) from (Int.natCast_emod _ _).symm]
          refine ⟨d, _, rfl, .inl (.inl upd_same), rfl, _, _, rfl, _, _, rfl, rfl, ?_⟩
          have s2 : Same H1 (upd H1 d (.tup [.int ((k / dfac j : Nat) : Int), .int ((k % dfac j : Nat) : Int)])) := same_new nd
          revert s2
          generalize upd H1 d (.tup [.int ((k / dfac j : Nat) : Int), .int ((k % dfac j : Nat) : Int)]) = H2
          intro s2
          have el2 := s2 _ _ el1
          have ef2 := s2 _ _ ef1
          have hA2 := prs_same s2 hA1
          have sm2 := sm1.trans s2
          have hct : k / dfac j < t.length := by omega
          have hnn : (0 : Int) ≤ ((k / dfac j : Nat) : Int) := Int.natCast_nonneg _
          have eg : t[k / dfac j]? = some (t.getD (k / dfac j) 0) := by rw [List.getD_eq_getElem?_getD, List.getElem?_eq_getElem hct]; rfl
          refine ⟨_, rfl, .inl ⟨rfl, _, .inl (.inl ef2)⟩, _, rfl, _, rfl, .inl ⟨rfl, _, .inl (.inl el2)⟩, _, rfl, l, _, _, k / dfac j, .int ((t.getD (k / dfac j) 0 : Nat) : Int), rfl, rfl, el2, by omega, by omega, ?_, ?_, ?_⟩
          · have := seq_ix (i := ((k / dfac j : Nat) : Int)) (n := (nv t).length) (by omega) (by rw [nv_length]; omega)
            rw [Int.toNat_natCast] at this
            exact this
          · unfold nv
            rw [List.getElem?_map, eg]; rfl
          have el3 : (upd H2 l (.lst (nv (t.eraseIdx (k / dfac j))))) l = some (.lst (nv (t.eraseIdx (k / dfac j)))) := upd_same
          have ef3 : (upd H2 l (.lst (nv (t.eraseIdx (k / dfac j))))) f = some (.lst (as.map V.ref)) := by rw [upd_ne (Ne.symm lf)]; exact ef2
          have hA3 : Prs (upd H2 l (.lst (nv (t.eraseIdx (k / dfac j))))) as dn := prs_keep (b := l) keep_upd el2 hA2
          have sm3 : Same H (upd H2 l (.lst (nv (t.eraseIdx (k / dfac j))))) := fun z o hz => by rw [upd_ne (ne_of_none hz nl0)]; exact sm2 _ _ hz
          rw [nv_erase]
          revert el3 ef3 hA3 sm3
          generalize upd H2 l (.lst (nv (t.eraseIdx (k / dfac j)))) = H3
          intro el3 ef3 hA3 sm3
          refine ⟨by show 2 ≤ sizeLine; decide, fun u nu => ⟨f, _, _, rfl, rfl, same_new nu _ _ ef3, ?_, ?_⟩⟩
          · rw [List.length_map, hA3.length]; exact small1000 (by omega)
          have uf : u ≠ f := (ne_of_none ef3 nu).symm
          refine ⟨t.eraseIdx (k / dfac j), k % dfac j, as ++ [u], dn ++ [(x, t.getD (k / dfac j) 0)], _, _, rfl, ?_, ?_, ?_, ?_, Nat.mod_lt _ hdp, by omega, ?_, ?_, ?_⟩
          · rw [upd_ne lf]; exact same_new nu _ _ el3
          · rw [upd_same, List.map_append]; rfl
          · refine prs_append (prs_keep (b := f) keep_upd (same_new nu _ _ ef3) (prs_same (same_new nu) hA3)) (.cons ?_ .nil)
            rw [upd_ne uf, upd_same]
          · rw [List.length_eraseIdx, if_pos hct]; omega
          · rw [List.length_append, List.length_singleton]; omega
          · rw [← hun, List.append_assoc]; rfl
          · intro z o hz
            rw [upd_ne (ne_of_none hz nf)]
            exact same_new nu _ _ (sm3 _ _ hz)
    · have hm0 : m = 0 := by
        cases fr with
        | nil => simp at hfr; omega
        | cons x t => exact absurd rfl c
      subst hm0
      have hu : dn = una r (List.range (2 * r)) k0 := by rw [← hun]; exact (List.append_nil _).symm
      subst hu
      exact ⟨_, rfl, f, _, _, _, rfl, .inl (.inl (.inl ef)), items_of hA, pat_makes hk0, by rw [(pat_pair hk0).len]; omega, fun H' t s' nt et => q H' t (sm.trans s') (sm.free nt) et⟩
end
end Pc
namespace Pc
open PySem PySem.Spec PyProof.Rows L2 RZ
theorem in_nat (i : Nat) (l : List Nat) : inV (.int (i : Int)) (nv l) = decide (i ∈ l) := by
  unfold inV nv
  rw [List.any_map, Bool.eq_iff_iff, List.any_eq_true, decide_eq_true_iff]
  constructor
  · rintro ⟨x, hx, e⟩
    have e' : eqV (.int (x : Int)) (.int (i : Int)) = true := e
    have : (x : Int) = (i : Int) := by simpa [eqV] using e'
    have : x = i := by omega
    exact this ▸ hx
  · intro h
    exact ⟨i, h, by show eqV (.int (i : Int)) (.int (i : Int)) = true; simp [eqV]⟩
theorem flat_nat (l : List Nat) : (nv l).all flatV = true := by
  unfold nv
  rw [List.all_map, List.all_eq_true]
  exact fun x _ => rfl
theorem mem_data {ps : List (Nat × Nat)} {p : Nat × Nat} (h : p ∈ ps) : ((ps.map pd).any fun z => PyData.eqv z (pd p)) = true := by
  rw [List.any_eq_true]
  exact ⟨pd p, List.mem_map.mpr ⟨p, h, rfl⟩, PySem.SeqAt.eqv_refl _ rfl⟩
/-! ### a call and the pairs of a sheet -/
theorem los_jn {f : List Nat} {n a b : Nat} (hf : IsPair (2 * n) f) (hab : a < b) (hb : b < n) : (a, b) ∈ los (jn f (n + a) (n + b)) n := by
  have e : (jn f (n + a) (n + b)).getD (n + a) 0 = n + b := by
    have fa := hf.d (show n + a < 2 * n by omega)
    have fb := hf.d (show n + b < 2 * n by omega)
    by_cases hc : f.getD (n + a) 0 = n + b
    · rw [jn_same (hf.ofd (by omega) hc), hc]
    · exact getD_of (by rw [jn_get hf (by omega) fa.2.2.2 fb.2.2.2 hc, if_pos rfl])
  refine selN_mem.mpr ⟨a, by omega, ?_, ?_⟩
  · unfold loC; rw [e]; exact decide_eq_true (by omega)
  · unfold loG; rw [e, Nat.add_sub_cancel_left]
theorem ups_jn {f : List Nat} {n a b : Nat} (hf : IsPair (2 * n) f) (hab : a < b) (hb : b < n) {p : Nat × Nat} (hp : p ∈ ups f n) : p ∈ ups (jn f (n + a) (n + b)) n := by
  obtain ⟨x, hx, c, e⟩ := selN_mem.mp hp
  unfold upC at c
  rw [Bool.and_eq_true, decide_eq_true_iff, decide_eq_true_iff] at c
  have fa := hf.d (show n + a < 2 * n by omega)
  have fb := hf.d (show n + b < 2 * n by omega)
  have fx := hf.d (show x < 2 * n by omega)
  have e2 : (jn f (n + a) (n + b)).getD x 0 = f.getD x 0 := by
    by_cases hc : f.getD (n + a) 0 = n + b
    · rw [jn_same (hf.ofd (by omega) hc)]
    · refine getD_of ?_
      rw [jn_get hf (by omega) fa.2.2.2 fb.2.2.2 hc, if_neg (by omega), if_neg (by omega), if_neg (fun z => by rw [z, fa.2.2.1] at c; omega), if_neg (fun z => by rw [z, fb.2.2.1] at c; omega)]
      exact fx.2.2.2
  refine selN_mem.mpr ⟨x, hx, ?_, ?_⟩
  · unfold upC; rw [e2, decide_eq_true c.1, decide_eq_true c.2]; rfl
  · rw [← e]; unfold upG; rw [e2]
theorem low_lows {f : List Nat} {n y : Nat} (hf : IsPair (2 * n) f) (hy : y < n) : decide (y ∈ (sts f n).map Prod.snd) = lsC f n y := by
  have fy := hf.d (show n + y < 2 * n by omega)
  unfold lsC
  rw [decide_eq_decide]
  constructor
  · intro h
    obtain ⟨p, hp, e⟩ := List.mem_map.mp h
    obtain ⟨h1, h2, h3⟩ := sts_mem hf hp
    have := (hf.back h1).1
    rw [e] at this
    rw [getD_of this]; exact h2
  · intro h
    refine List.mem_map.mpr ⟨(f.getD (n + y) 0, y), ?_, rfl⟩
    refine selN_mem.mpr ⟨f.getD (n + y) 0, h, ?_, ?_⟩
    · unfold stC; rw [fy.2.2.1]; exact decide_eq_true (by omega)
    · unfold stG; rw [fy.2.2.1, Nat.add_sub_cancel_left]
theorem rd_los {f ps : List Nat} {n : Nat} (hf : IsPair (2 * n) f) {p : Nat × Nat} (hp : p ∈ los f n) : (rd f ps n)[p.1]? = some p.2 := by
  obtain ⟨h1, h2, h3⟩ := los_mem hf hp
  have e := getD_of h1
  have t := Trail.stop (fs := f) (ps := ps) (n := n) (z := n + p.1) (by rw [e]; omega)
  rw [rd_get f ps (by omega), far_is t, e]
  show some (n + p.2 - n) = _
  rw [Nat.add_sub_cancel_left]
theorem jn_idem {n : Nat} {fs : List Nat} (hP : IsPair n fs) {a b : Nat} (hab : a ≠ b) (ha : a < n) (hb : b < n) : jn (jn fs a b) a b = jn fs a b := by
  have fa := hP.d ha
  have fb := hP.d hb
  refine jn_same ?_
  by_cases hc : fs.getD a 0 = b
  · rw [jn_same (hP.ofd ha hc)]; exact hP.ofd ha hc
  · rw [jn_get hP hab fa.2.2.2 fb.2.2.2 hc, if_pos rfl]
end Pc
namespace Pc
theorem range_getD (l : List Nat) : (List.range l.length).map (fun i => l.getD i 0) = l := by
  refine List.ext_getElem? fun i => ?_
  rw [List.getElem?_map]
  by_cases h : i < l.length
  · rw [List.getElem?_range h, List.getElem?_eq_getElem h, Option.map_some, List.getD_eq_getElem?_getD, List.getElem?_eq_getElem h]; rfl
  · rw [List.getElem?_eq_none (by rw [List.length_range]; omega), List.getElem?_eq_none (by omega)]; rfl
end Pc
namespace Pc
open PySem PySem.Spec PyProof.Rows L2 RZ
/-! ### words with other numbers; those who are left -/
def wrn (pl : List Nat) (qs : List (Nat × Nat)) : List (Nat × Nat) := qs.map fun q => (min (pl.getD q.1 0) (pl.getD q.2 0), max (pl.getD q.1 0) (pl.getD q.2 0))
theorem wrn_take {pl : List Nat} {qs : List (Nat × Nat)} {i : Nat} {q : Nat × Nat} (h : qs[i]? = some q) : (wrn pl qs).take (i + 1) = (wrn pl qs).take i ++ [(min (pl.getD q.1 0) (pl.getD q.2 0), max (pl.getD q.1 0) (pl.getD q.2 0))] := by
  rw [List.take_add_one]
  unfold wrn
  rw [List.getElem?_map, h]; rfl
theorem wrn_len (pl : List Nat) (qs : List (Nat × Nat)) : (wrn pl qs).length = qs.length := by unfold wrn; rw [List.length_map]
theorem min_v (a b : Nat) : V.int (if (b : Int) < (a : Int) then (b : Int) else (a : Int)) = V.int ((min a b : Nat) : Int) := by
  refine congrArg V.int ?_
  split <;> omega
theorem max_v (a b : Nat) : V.int (if (b : Int) > (a : Int) then (b : Int) else (a : Int)) = V.int ((max a b : Nat) : Int) := by
  refine congrArg V.int ?_
  split <;> omega
def ixo : List Nat → Nat → Nat
  | [], _ => 0
  | x :: l, y => if x = y then 0 else ixo l y + 1
theorem ixo_get : ∀ {l : List Nat} {y : Nat}, y ∈ l → l[ixo l y]? = some y ∧ ∀ m z, m < ixo l y → l[m]? = some z → z ≠ y
  | [], _, h => absurd h List.not_mem_nil
  | x :: l, y, h => by
    unfold ixo
    by_cases c : x = y
    · rw [if_pos c]
      exact ⟨by rw [← c]; rfl, fun m z hm => absurd hm (Nat.not_lt_zero _)⟩
    · rw [if_neg c]
      rcases List.mem_cons.mp h with e | e
      · exact absurd e.symm c
      obtain ⟨h1, h2⟩ := ixo_get e
      refine ⟨h1, fun m z hm hz => ?_⟩
      cases m with
      | zero =>
        have : x = z := Option.some.inj hz
        rw [← this]; exact c
      | succ m => exact h2 m z (by omega) hz
def lft (ps : List Nat) (n u : Nat) : List Nat := (List.range n).filter fun x => decide (x ≠ u ∧ x ≠ ps.getD u 0)
theorem lft_mem {ps : List Nat} {n u x : Nat} : x ∈ lft ps n u ↔ x < n ∧ x ≠ u ∧ x ≠ ps.getD u 0 := by
  unfold lft
  rw [List.mem_filter, List.mem_range, decide_eq_true_iff]
theorem lft_part {ps : List Nat} {n u x : Nat} (h : IsPair n ps) (hu : u < n) (hx : x ∈ lft ps n u) : ps.getD x 0 ∈ lft ps n u := by
  obtain ⟨h1, h2, h3⟩ := lft_mem.mp hx
  have d := h.d h1
  have du := h.d hu
  refine lft_mem.mpr ⟨d.1, fun e => h3 ?_, fun e => h2 ?_⟩
  · rw [← e, d.2.2.1]
  · exact h.inj h1 hu e
def wot (ps : List Nat) (n u : Nat) : List Nat := (lft ps n u).map fun x => ixo (lft ps n u) (ps.getD x 0)
theorem lft_step (ps : List Nat) (n u i : Nat) : ((List.range (i + 1)).filter fun x => decide (x ≠ u ∧ x ≠ ps.getD u 0)) = ((List.range i).filter fun x => decide (x ≠ u ∧ x ≠ ps.getD u 0)) ++ if i ≠ u ∧ i ≠ ps.getD u 0 then [i] else [] := by
  rw [List.range_succ, List.filter_append]
  congr 1
  by_cases h : i ≠ u ∧ i ≠ ps.getD u 0
  · rw [if_pos h, List.filter_cons_of_pos (p := fun x => decide (x ≠ u ∧ x ≠ ps.getD u 0)) (decide_eq_true h), List.filter_nil]
  · rw [if_neg h, List.filter_cons_of_neg (p := fun x => decide (x ≠ u ∧ x ≠ ps.getD u 0)) (by rw [decide_eq_false h]; exact Bool.false_ne_true), List.filter_nil]
theorem wot_take {ps : List Nat} {n u i x : Nat} (h : (lft ps n u)[i]? = some x) : nv ((wot ps n u).take i) ++ [V.int (ixo (lft ps n u) (ps.getD x 0) : Nat)] = nv ((wot ps n u).take (i + 1)) := by
  rw [List.take_add_one, show (wot ps n u)[i]? = some (ixo (lft ps n u) (ps.getD x 0)) by unfold wot; rw [List.getElem?_map, h]; rfl]
  unfold nv
  rw [List.map_append]; rfl
theorem lft_le (ps : List Nat) (n u : Nat) : (lft ps n u).length ≤ n := by
  have := List.length_filter_le (fun x => decide (x ≠ u ∧ x ≠ ps.getD u 0)) (List.range n)
  rw [List.length_range] at this
  exact this
theorem eqV_ne {a b : Nat} (h : a ≠ b) : eqV (.int (a : Int)) (.int (b : Int)) = false := by
  unfold eqV
  simp
  omega
theorem eqV_same (a : Int) : eqV (.int a) (.int a) = true := by
  unfold eqV
  simp
end Pc
namespace Pc
/-! ### numbers of pairings -/
/-- the place of a number in a list -/
def plc (y : Nat) : List Nat → Nat
  | [] => 0
  | a :: r => if a = y then 0 else plc y r + 1
theorem plc_get {y : Nat} : ∀ {l : List Nat}, y ∈ l → l[plc y l]? = some y ∧ plc y l < l.length
  | a :: r, h => by
    unfold plc
    by_cases c : a = y
    · rw [if_pos c, c]; exact ⟨rfl, Nat.succ_pos _⟩
    · rw [if_neg c]
      have h' : y ∈ r := by
        rcases List.mem_cons.mp h with z | z
        · exact absurd z.symm c
        · exact z
      obtain ⟨g1, g2⟩ := plc_get h'
      exact ⟨g1, Nat.succ_lt_succ g2⟩
theorem plc_of {y : Nat} : ∀ {l : List Nat} {i : Nat}, l.Nodup → l[i]? = some y → plc y l = i
  | [], i, _, h => by simp at h
  | a :: r, 0, _, h => by
    have : a = y := Option.some.inj h
    unfold plc; rw [if_pos this]
  | a :: r, i + 1, hd, h => by
    have h' : r[i]? = some y := h
    obtain ⟨h1, h2⟩ := List.nodup_cons.mp hd
    have : a ≠ y := fun e => h1 (e ▸ List.mem_of_getElem? h')
    unfold plc; rw [if_neg this, plc_of h2 h']
def rk : Nat → List Nat → (Nat → Nat) → Nat
  | 0, _, _ => 0
  | j + 1, l, p => plc (p (l.getD 0 0)) l.tail * dfac j + rk j (l.tail.eraseIdx (plc (p (l.getD 0 0)) l.tail)) p
/-- closed under partners -/
def Clo (l : List Nat) (p : Nat → Nat) : Prop := ∀ x ∈ l, p x ∈ l ∧ p x ≠ x ∧ p (p x) = x
theorem erase_mem {l : List Nat} (hd : l.Nodup) {i x y : Nat} (h : l[i]? = some y) : x ∈ l.eraseIdx i ↔ x ∈ l ∧ x ≠ y := by
  obtain ⟨hi, e⟩ := List.getElem?_eq_some_iff.mp h
  constructor
  · intro hx
    obtain ⟨k, hk, ek⟩ := List.getElem_of_mem hx
    refine ⟨List.mem_of_mem_eraseIdx hx, fun z => ?_⟩
    rw [List.getElem_eraseIdx] at ek
    rw [List.length_eraseIdx, if_pos hi] at hk
    split at ek
    · rename_i hki
      have := (List.getElem_inj (xs := l) (i := k) (j := i) (h₀ := by omega) (h₁ := hi) hd).mp (by rw [ek, z, e])
      omega
    · rename_i hki
      have := (List.getElem_inj (xs := l) (i := k + 1) (j := i) (h₀ := by omega) (h₁ := hi) hd).mp (by rw [ek, z, e])
      omega
  · rintro ⟨hx, ne⟩
    obtain ⟨k, hk, ek⟩ := List.getElem_of_mem hx
    have hki : k ≠ i := fun z => ne (by subst z; rw [← ek, ← e])
    by_cases c : k < i
    · have hlen : k < (l.eraseIdx i).length := by rw [List.length_eraseIdx, if_pos hi]; omega
      have : (l.eraseIdx i)[k] = x := by rw [List.getElem_eraseIdx, dif_pos c]; exact ek
      rw [← this]; exact List.getElem_mem _
    · have hlen : k - 1 < (l.eraseIdx i).length := by rw [List.length_eraseIdx, if_pos hi]; omega
      have : (l.eraseIdx i)[k - 1] = x := by
        rw [List.getElem_eraseIdx, dif_neg (by omega)]
        have e2 : k - 1 + 1 = k := by omega
        simp only [e2]; exact ek
      rw [← this]; exact List.getElem_mem _
theorem Clo.step {x : Nat} {t : List Nat} {p : Nat → Nat} (hd : (x :: t).Nodup) (h : Clo (x :: t) p) : p x ∈ t ∧ Clo (t.eraseIdx (plc (p x) t)) p := by
  have hx := h x List.mem_cons_self
  have hm : p x ∈ t := by
    rcases List.mem_cons.mp hx.1 with z | z
    · exact absurd z hx.2.1
    · exact z
  obtain ⟨n1, n2⟩ := List.nodup_cons.mp hd
  have hg := (plc_get hm).1
  refine ⟨hm, fun y hy => ?_⟩
  obtain ⟨y1, y2⟩ := (erase_mem n2 hg).mp hy
  have hyc := h y (List.mem_cons_of_mem _ y1)
  refine ⟨(erase_mem n2 hg).mpr ⟨?_, fun e => ?_⟩, hyc.2⟩
  · rcases List.mem_cons.mp hyc.1 with z | z
    · have : p (p y) = p x := by rw [z]
      rw [hyc.2.2] at this
      exact absurd this y2
    · exact z
  · have : p (p y) = p (p x) := by rw [e]
    rw [hyc.2.2, hx.2.2] at this
    exact n1 (this ▸ y1)
theorem rk_lt : ∀ (j : Nat) {l : List Nat} {p : Nat → Nat}, l.length = 2 * j → l.Nodup → Clo l p → rk j l p < dfac j
  | 0, _, _, _, _, _ => Nat.one_pos
  | j + 1, [], _, hl, _, _ => by simp at hl
  | j + 1, x :: t, p, hl, hd, hc => by
    obtain ⟨hm, hc'⟩ := hc.step hd
    have hg := plc_get hm
    have ht : t.length = 2 * j + 1 := by rw [List.length_cons] at hl; omega
    have ih := rk_lt j (l := t.eraseIdx (plc (p x) t)) (by rw [List.length_eraseIdx, if_pos hg.2]; omega) ((List.nodup_cons.mp hd).2.eraseIdx _) hc'
    show plc (p x) t * dfac j + rk j (t.eraseIdx (plc (p x) t)) p < dfac j * (2 * j + 1)
    have h2 : plc (p x) t + 1 ≤ 2 * j + 1 := by omega
    have := Nat.mul_le_mul_right (dfac j) h2
    rw [Nat.add_mul, Nat.one_mul, Nat.mul_comm (2 * j + 1)] at this
    omega
theorem rk_div {j : Nat} {x : Nat} {t : List Nat} {p : Nat → Nat} (hl : (x :: t).length = 2 * (j + 1)) (hd : (x :: t).Nodup) (hc : Clo (x :: t) p) : rk (j + 1) (x :: t) p / dfac j = plc (p x) t ∧ rk (j + 1) (x :: t) p % dfac j = rk j (t.eraseIdx (plc (p x) t)) p := by
  obtain ⟨hm, hc'⟩ := hc.step hd
  have hg := plc_get hm
  have ih := rk_lt j (l := t.eraseIdx (plc (p x) t)) (by rw [List.length_eraseIdx, if_pos hg.2]; rw [List.length_cons] at hl; omega) ((List.nodup_cons.mp hd).2.eraseIdx _) hc'
  have e : rk (j + 1) (x :: t) p = rk j (t.eraseIdx (plc (p x) t)) p + dfac j * plc (p x) t := by
    show plc (p x) t * dfac j + _ = _
    rw [Nat.mul_comm, Nat.add_comm]; rfl
  rw [e, Nat.add_mul_div_left _ _ (dfac_pos j), Nat.add_mul_mod_self_left, Nat.div_eq_of_lt ih, Nat.mod_eq_of_lt ih, Nat.zero_add]
  exact ⟨rfl, rfl⟩
/-- the couples by the number of a pairing are its couples -/
theorem una_rk : ∀ (j : Nat) {l : List Nat} {p : Nat → Nat}, l.length = 2 * j → l.Nodup → Clo l p → ∀ c ∈ una j l (rk j l p), c.2 = p c.1
  | 0, _, _, _, _, _ => fun c hc => absurd hc List.not_mem_nil
  | j + 1, [], _, hl, _, _ => by simp at hl
  | j + 1, x :: t, p, hl, hd, hc => fun c hcm => by
    obtain ⟨hm, hc'⟩ := hc.step hd
    have hg := plc_get hm
    obtain ⟨d1, d2⟩ := rk_div hl hd hc
    have hcm' : c ∈ (x, t.getD (rk (j + 1) (x :: t) p / dfac j) 0) :: una j (t.eraseIdx (rk (j + 1) (x :: t) p / dfac j)) (rk (j + 1) (x :: t) p % dfac j) := hcm
    rw [d1, d2] at hcm'
    rcases List.mem_cons.mp hcm' with z | z
    · rw [z]; exact getD_of hg.1
    · exact una_rk j (by rw [List.length_eraseIdx, if_pos hg.2]; rw [List.length_cons] at hl; omega) ((List.nodup_cons.mp hd).2.eraseIdx _) hc' c z
theorem pair_clo {n : Nat} {q : List Nat} (h : IsPair n q) : Clo (List.range n) (fun x => q.getD x 0) := fun x hx => by
  have := h.d (List.mem_range.mp hx)
  exact ⟨List.mem_range.mpr this.1, this.2.1, this.2.2.1⟩
def prk (r : Nat) (q : List Nat) : Nat := rk r (List.range (2 * r)) (fun x => q.getD x 0)
theorem prk_lt {r : Nat} {q : List Nat} (h : IsPair (2 * r) q) : prk r q < dfac r := rk_lt r List.length_range List.nodup_range (pair_clo h)
theorem makes_of {n : Nat} {q : List Nat} (hq : IsPair n q) {qs : List (Nat × Nat)} (hp : (flat qs).Perm (List.range n)) (h : ∀ c ∈ qs, q.getD c.1 0 = c.2) : Makes qs q where
  half := by
    have := hp.length_eq
    rw [flat_len, List.length_range] at this
    rw [hq.len]; omega
  ok p hm := by
    have h1 : p.1 < n := List.mem_range.mp (hp.mem_iff.mp (flat_mem.mpr ⟨p, hm, .inl rfl⟩))
    have e := hq.d h1
    rw [h p hm] at e
    have b := (hq.d e.1).2.2.2
    rw [e.2.2.1] at b
    exact ⟨e.2.2.2, b⟩
  all z hz := by
    rw [hq.len] at hz
    obtain ⟨p, hm, e⟩ := flat_mem.mp (hp.mem_iff.mpr (List.mem_range.mpr hz))
    exact ⟨p, hm, e.elim (fun w => .inl w.symm) (fun w => .inr w.symm)⟩
theorem pat_prk {r : Nat} {q : List Nat} (h : IsPair (2 * r) q) : pat r (prk r q) = q := by
  have hk := prk_lt h
  refine (pat_makes hk).one (makes_of h (flat_una r List.length_range hk) fun c hc => ?_)
  exact (una_rk r List.length_range List.nodup_range (pair_clo h) c hc).symm
theorem rk_una : ∀ (j : Nat) {l : List Nat} {k : Nat} {p : Nat → Nat}, l.length = 2 * j → l.Nodup → k < dfac j → (∀ c ∈ una j l k, p c.1 = c.2) → rk j l p = k
  | 0, _, k, _, _, _, hk, _ => by
    have : k < 1 := hk
    show 0 = k
    omega
  | j + 1, [], _, _, hl, _, _, _ => by simp at hl
  | j + 1, x :: t, k, p, hl, hd, hk, h => by
    have ht : t.length = 2 * j + 1 := by rw [List.length_cons] at hl; omega
    have hc := choice_lt hk
    have n2 := (List.nodup_cons.mp hd).2
    have e : t[k / dfac j]? = some (t.getD (k / dfac j) 0) := by rw [List.getD_eq_getElem?_getD, List.getElem?_eq_getElem (by omega)]; rfl
    have h1 : p x = t.getD (k / dfac j) 0 := h (x, t.getD (k / dfac j) 0) List.mem_cons_self
    have ep : plc (p x) t = k / dfac j := plc_of n2 (by rw [h1]; exact e)
    show plc (p x) t * dfac j + rk j (t.eraseIdx (plc (p x) t)) p = k
    rw [ep, rk_una j (l := t.eraseIdx (k / dfac j)) (k := k % dfac j) (by rw [List.length_eraseIdx, if_pos (by omega)]; omega) (n2.eraseIdx _) (Nat.mod_lt _ (dfac_pos j)) (fun c hc => h c (List.mem_cons_of_mem _ hc)), Nat.mul_comm]
    exact Nat.div_add_mod k (dfac j)
theorem prk_pat {r k : Nat} (hk : k < dfac r) : prk r (pat r k) = k := by
  refine rk_una r List.length_range List.nodup_range hk fun c hc => ?_
  exact getD_of ((pat_makes hk).ok c hc).1
/-- greater numbers, greater pairings -/
def Blw (l : List Nat) (p q : Nat → Nat) : Prop := ∃ x ∈ l, (∀ y ∈ l, y < x → p y = q y) ∧ p x < q x
theorem rk_order : ∀ (j : Nat) {l : List Nat} {p q : Nat → Nat}, l.length = 2 * j → l.Pairwise (· < ·) → Clo l p → Clo l q → rk j l p < rk j l q → Blw l p q
  | 0, _, _, _, _, _, _, _, h => absurd h (Nat.lt_irrefl _)
  | j + 1, [], _, _, hl, _, _, _, _ => by simp at hl
  | j + 1, x :: t, p, q, hl, hs, hp, hq, h => by
    have hd : (x :: t).Nodup := hs.imp fun {a b} h => Nat.ne_of_lt h
    obtain ⟨hpm, hpc⟩ := hp.step hd
    obtain ⟨hqm, hqc⟩ := hq.step hd
    obtain ⟨d1, d2⟩ := rk_div hl hd hp
    obtain ⟨e1, e2⟩ := rk_div hl hd hq
    obtain ⟨sx, st⟩ := List.pairwise_cons.mp hs
    have hgp := plc_get hpm
    have hgq := plc_get hqm
    have hle : plc (p x) t ≤ plc (q x) t := by
      rw [← d1, ← e1]
      exact Nat.div_le_div_right (Nat.le_of_lt h)
    by_cases c : plc (p x) t = plc (q x) t
    · have epq : p x = q x := by
        have a := hgp.1
        rw [c, hgq.1] at a
        exact (Option.some.inj a).symm
      have hlt : rk j (t.eraseIdx (plc (p x) t)) p < rk j (t.eraseIdx (plc (p x) t)) q := by
        rw [← c] at e1 e2
        rw [← d2, ← e2]
        have a := Nat.div_add_mod (rk (j + 1) (x :: t) p) (dfac j)
        have b := Nat.div_add_mod (rk (j + 1) (x :: t) q) (dfac j)
        rw [d1] at a
        rw [e1] at b
        omega
      rw [← c] at hqc
      obtain ⟨z, hz, z1, z2⟩ := rk_order j (l := t.eraseIdx (plc (p x) t)) (by rw [List.length_eraseIdx, if_pos hgp.2]; rw [List.length_cons] at hl; omega) (List.Pairwise.sublist (List.eraseIdx_sublist _ _) st) hpc hqc hlt
      obtain ⟨zt, zp⟩ := (erase_mem (List.nodup_cons.mp hd).2 hgp.1).mp hz
      refine ⟨z, List.mem_cons_of_mem _ zt, fun y hy hyz => ?_, z2⟩
      rcases List.mem_cons.mp hy with w | w
      · rw [w]; exact epq
      · by_cases v : y = p x
        · rw [v, (hp x List.mem_cons_self).2.2, epq, (hq x List.mem_cons_self).2.2]
        · exact z1 y ((erase_mem (List.nodup_cons.mp hd).2 hgp.1).mpr ⟨w, v⟩) hyz
    · refine ⟨x, List.mem_cons_self, fun y hy hyx => ?_, ?_⟩
      · rcases List.mem_cons.mp hy with w | w
        · omega
        · have := sx y w; omega
      · obtain ⟨l1, e3⟩ := List.getElem?_eq_some_iff.mp hgp.1
        obtain ⟨l2, e4⟩ := List.getElem?_eq_some_iff.mp hgq.1
        rw [← e3, ← e4]
        exact (List.pairwise_iff_getElem.mp st) _ _ l1 l2 (by omega)
/-! ### all of them -/
def evs : Nat → List Nat → List (List (Nat × Nat))
  | 0, _ => [[]]
  | j + 1, l => l.tail.flatMap fun m => (evs j (l.tail.filter fun w => !decide (w = m))).map fun more => (l.getD 0 0, m) :: more
theorem filt_erase : ∀ {t : List Nat} {i m : Nat}, t.Nodup → t[i]? = some m → t.filter (fun w => !decide (w = m)) = t.eraseIdx i
  | [], i, m, _, h => by simp at h
  | a :: t, 0, m, hd, h => by
    have e : a = m := Option.some.inj h
    obtain ⟨n1, n2⟩ := List.nodup_cons.mp hd
    rw [List.filter_cons_of_neg (by rw [e, decide_eq_true rfl]; decide)]
    show _ = t
    refine List.filter_eq_self.mpr fun y hy => ?_
    rw [decide_eq_false (fun z => n1 (by rw [e, ← z]; exact hy))]; rfl
  | a :: t, i + 1, m, hd, h => by
    obtain ⟨n1, n2⟩ := List.nodup_cons.mp hd
    have h' : t[i]? = some m := h
    rw [List.filter_cons_of_pos (by rw [decide_eq_false (fun z => n1 (by rw [z]; exact List.mem_of_getElem? h'))]; rfl), filt_erase n2 h']
    rfl
theorem range_mul (c d : Nat) : (List.range (c * d)) = (List.range c).flatMap fun i => (List.range d).map fun k => i * d + k := by
  induction c with
  | zero => rw [Nat.zero_mul]; rfl
  | succ c ih =>
    rw [Nat.add_mul, Nat.one_mul, List.range_add, ih, List.range_succ, List.flatMap_append]
    congr 1
    simp [List.flatMap_cons]
theorem flatMap_range {β : Type} (t : List Nat) (f : Nat → List β) : t.flatMap f = (List.range t.length).flatMap fun i => f (t.getD i 0) := by
  have e : t = (List.range t.length).map fun i => t.getD i 0 := (range_getD t).symm
  conv => lhs; rw [e]
  rw [List.flatMap_map]
theorem fmap_congr {α β : Type} {f g : α → List β} : ∀ {l : List α}, (∀ a ∈ l, f a = g a) → l.flatMap f = l.flatMap g
  | [], _ => rfl
  | a :: r, h => by
    rw [List.flatMap_cons, List.flatMap_cons, h a List.mem_cons_self, fmap_congr fun b hb => h b (List.mem_cons_of_mem _ hb)]
theorem evs_una : ∀ (j : Nat) {l : List Nat}, l.length = 2 * j → l.Nodup → evs j l = (List.range (dfac j)).map (una j l)
  | 0, _, _, _ => rfl
  | j + 1, [], hl, _ => by simp at hl
  | j + 1, x :: t, hl, hd => by
    have ht : t.length = 2 * j + 1 := by rw [List.length_cons] at hl; omega
    have n2 := (List.nodup_cons.mp hd).2
    show t.flatMap (fun m => (evs j (t.filter fun w => !decide (w = m))).map fun more => (x, m) :: more) = (List.range (dfac j * (2 * j + 1))).map (una (j + 1) (x :: t))
    rw [Nat.mul_comm, range_mul, List.map_flatMap, flatMap_range, ht]
    refine fmap_congr fun i hi => ?_
    have hi := List.mem_range.mp hi
    have e : t[i]? = some (t.getD i 0) := by rw [List.getD_eq_getElem?_getD, List.getElem?_eq_getElem (by omega)]; rfl
    rw [filt_erase n2 e, evs_una j (by rw [List.length_eraseIdx, if_pos (by omega)]; omega) (n2.eraseIdx _), List.map_map, List.map_map]
    refine List.map_congr_left fun k hk => ?_
    have hk := List.mem_range.mp hk
    show (x, t.getD i 0) :: una j (t.eraseIdx i) k = (x, t.getD ((i * dfac j + k) / dfac j) 0) :: una j (t.eraseIdx ((i * dfac j + k) / dfac j)) ((i * dfac j + k) % dfac j)
    have d1 : (i * dfac j + k) / dfac j = i := by rw [Nat.add_comm, Nat.mul_comm, Nat.add_mul_div_left _ _ (dfac_pos j), Nat.div_eq_of_lt hk, Nat.zero_add]
    have d2 : (i * dfac j + k) % dfac j = k := by rw [Nat.add_comm, Nat.mul_comm, Nat.add_mul_mod_self_left, Nat.mod_eq_of_lt hk]
    rw [d1, d2]
/-- all pairings, in ascending order -/
def apl (r : Nat) : List (List Nat) := (List.range (dfac r)).map (pat r)
theorem apl_mem {r : Nat} {q : List Nat} : q ∈ apl r ↔ IsPair (2 * r) q := by
  constructor
  · intro h
    obtain ⟨k, hk, rfl⟩ := List.mem_map.mp h
    exact pat_pair (List.mem_range.mp hk)
  · intro h
    exact List.mem_map.mpr ⟨prk r q, List.mem_range.mpr (prk_lt h), pat_prk h⟩
theorem evs_mkp (r : Nat) : (evs r (List.range (2 * r))).map mkp = apl r := by
  rw [evs_una r List.length_range List.nodup_range, List.map_map]
  rfl
end Pc
namespace Pc
open PySem PySem.Spec PyProof.Rows L2 RZ
theorem flt1 {α : Type} (f : α → Bool) (x : α) : [x].filter f = if f x = true then [x] else [] := by
  by_cases z : f x = true
  · rw [if_pos z, List.filter_cons_of_pos z, List.filter_nil]
  · rw [if_neg z, List.filter_cons_of_neg z, List.filter_nil]
theorem cut1D (vs : List V) : cutV vs (some 1) none = vs.drop 1 := by
  unfold cutV
  rw [show (1 : Int) = ((1 : Nat) : Int) from rfl, HT.sIx_none, HT.sIx_nat]
  by_cases h : 1 ≤ vs.length
  · rw [Nat.min_eq_left h, List.take_of_length_le (by rw [List.length_drop]; omega)]
  · rw [Nat.min_eq_right (by omega), List.drop_of_length_le (Nat.le_refl _), List.drop_of_length_le (by omega), List.take_nil]
end Pc
namespace Pc
open PySem PySem.Spec PyProof.Rows L2 RZ
section
variable {P : Program} {w : World} {K : PySem.W.Frag} {mg : Str → Option Value} {base : Heap}
/-! ### the number of a pairing -/
def spPNum (K : PySem.W.Frag) : Sp := fun vs H Q _ => ∃ (a : Addr) (ps : List Nat) (r : Nat), vs = [.ref a] ∧ Sq K H a (nv ps) ∧ IsPair (2 * r) ps ∧ r ≤ 500 ∧ ∀ H', Same H H' → Q (.int ((prk r ps : Nat) : Int)) H'
theorem ok_p_pairing_number (T : Env K mg) : FnOk P w K mg base CX0 1 T.f_p_pairing_number T.d_p_pairing_number ["pairing"] (spPNum K) := by
  refine T.F_p_pairing_number.ok sc_p_pairing_number (fun vs H Q E h => ?_) (fun cdv A outer s H vs Q E hr h => ?_)
  · obtain ⟨a, ps, r, rfl, _⟩ := h
    rfl
  · obtain ⟨a, ps, r, rfl, ha, hp, hr5, q⟩ := h
    refine ⟨_, pss_cons (ps_set (i := 1) sc_p_pairing_number.nd rfl (.inl rfl) pe_int) <|
      pss_cons (ps_set (i := 2) sc_p_pairing_number.nd rfl (.inl rfl) (pe_listRg rfl (by rfl) T.n_list (prg_1 (by rfl) T.n_range (pe_callB call_len_seq (by rfl) T.n_len PySem.boot_len (pa_cons (pv 0) pa_nil))))) <|
      pss_cons (ps_while PassesOwn.never (pt_truth (pv 2) (by intro _; rfl))
        (pss_cons (ps_set (i := 3) sc_p_pairing_number.nd rfl (.inl rfl) (pe_bm PySem.F.plainAttrs_list PySem.F.slot_list_pop PySem.F.type_list_pop mt_popAt (pv 2) (pa_cons pe_int pa_nil))) <|
        pss_cons (ps_set (i := 4) sc_p_pairing_number.nd rfl (.inl rfl) (pe_bm PySem.F.plainAttrs_list PySem.F.slot_list_index PySem.F.type_list_index mt_index (pv 2) (pa_cons (pe_ix ix_seq (pv 0) (pv 3) (fun _ _ => rfl)) pa_nil))) <|
        pss_cons (ps_set (i := 1) sc_p_pairing_number.nd rfl (.inl rfl) (pe_op op_add (pe_op op_mul (pv 1) (pe_callB call_len_seq (by rfl) T.n_len PySem.boot_len (pa_cons (pv 2) pa_nil))) (pv 4))) <|
        pss_one (ps_expr (pe_bm PySem.F.plainAttrs_list PySem.F.slot_list_pop PySem.F.type_list_pop mt_popAt (pv 2) (pa_cons (pv 4) pa_nil))))) <|
      pss_one (ps_ret (pv 1)), ?_⟩
    have hl : ((nv ps).length : Int) = ((2 * r : Nat) : Int) := by rw [nv_length, hp.len]
    refine ⟨_, rfl, a, _, rfl, ha, _, rfl, RgOk.of_le (by decide) (by rw [hl]; omega) (by decide) (by rw [hl]; omega), fun l nl => ?_⟩
    rw [hl, rg_nv]
    have s1 : Same H (upd H l (.lst (nv (List.range (2 * r))))) := same_new nl
    refine ⟨fun m σ Hx => ∃ (fr : List Nat) (N : Nat) (y3 y4 : Option V), σ = [some (.ref a), some (.int (N : Nat)), some (.ref l), y3, y4] ∧ Hx l = some (.lst (nv fr)) ∧ fr.length = 2 * m ∧ fr.Nodup ∧ (∀ z ∈ fr, z < 2 * r) ∧ Clo fr (fun x => ps.getD x 0) ∧ m ≤ r ∧ N * dfac m + rk m fr (fun x => ps.getD x 0) = prk r ps ∧ Same H Hx,
      ⟨r, List.range (2 * r), 0, none, none, rfl, upd_same, List.length_range, List.nodup_range, fun z hz => List.mem_range.mp hz, pair_clo hp, Nat.le_refl _, by rw [Nat.zero_mul, Nat.zero_add]; rfl, s1⟩, fun m σ Hx hW => ?_⟩
    obtain ⟨fr, N, y3, y4, rfl, el, hfr, hnd, hlt, hcl, hmr, hN, sm⟩ := hW
    refine ⟨_, rfl, _, .inl ⟨_, .inl (.inl el), rfl⟩, ite2 (fun c => ?_) (fun c => ?_)⟩
    · cases m with
      | zero =>
        have : fr = [] := List.length_eq_zero_iff.mp (by omega)
        subst this
        exact absurd c (by decide)
      | succ j =>
        cases fr with
        | nil => simp at hfr
        | cons x t =>
          have ht : t.length = 2 * j + 1 := by rw [List.length_cons] at hfr; omega
          obtain ⟨pt, hcl2⟩ := hcl.step hnd
          obtain ⟨p1, p2⟩ := plc_get pt
          have xn := hlt x (List.mem_cons_self ..)
          refine ⟨fun σ' H2 => ∃ (fr : List Nat) (N : Nat) (y3 y4 : Option V), σ' = [some (.ref a), some (.int (N : Nat)), some (.ref l), y3, y4] ∧ H2 l = some (.lst (nv fr)) ∧ fr.length = 2 * j ∧ fr.Nodup ∧ (∀ z ∈ fr, z < 2 * r) ∧ Clo fr (fun x => ps.getD x 0) ∧ j ≤ r ∧ N * dfac j + rk j fr (fun x => ps.getD x 0) = prk r ps ∧ Same H H2, fun σ' H2 h2 => ⟨j, Nat.lt_succ_self _, h2⟩, ?_⟩
          refine ⟨_, rfl, .inl ⟨rfl, _, .inl (.inl el)⟩, l, _, 0, 0, .int (x : Nat), rfl, rfl, el, by decide, by decide, seq_ix (by decide) (by rw [nv_length, List.length_cons]; omega), rfl, ?_⟩
          have el1 : (upd Hx l (.lst (nv t))) l = some (.lst (nv t)) := upd_same
          have sm1 : Same H (upd Hx l (.lst (nv t))) := fun z o hz => by rw [upd_ne (ne_of_none hz nl)]; exact sm _ _ hz
          rw [show (nv (x :: t)).eraseIdx 0 = nv t from rfl]
          revert el1 sm1; generalize upd Hx l (.lst (nv t)) = H1; intro el1 sm1
          have tn := (List.nodup_cons.mp hnd).2
          refine ⟨_, rfl, .inl ⟨rfl, _, .inl (.inl el1)⟩, _, rfl, _, rfl, ix_sq (ha.same sm1) (nv_at (hp.d xn).2.2.2) ⟨l, nv t, _, plc (ps.getD x 0) t, .int ((ps.getD x 0 : Nat) : Int), rfl, rfl, .inl (.inl el1), rfl, flat_nat t, nv_get p1, eqV_same _, fun k z' hk hz => ?_, ?_⟩⟩
          · obtain ⟨z, ez, rfl⟩ := nv_get' hz
            refine eqV_ne fun e => ?_
            subst e
            have := plc_of tn ez
            omega
          refine ⟨_, rfl, _, rfl, l, _, rfl, .inl (.inl (.inl el1)), _, _, rfl, rfl, .inr ⟨by omega, by rw [nv_length]; omega⟩, _, rfl, _, _, rfl, rfl, ?_⟩
          have hnn : (0 : Int) ≤ ((plc (ps.getD x 0) t : Nat) : Int) := Int.natCast_nonneg _
          refine ⟨_, rfl, .inl ⟨rfl, _, .inl (.inl el1)⟩, _, rfl, l, _, _, plc (ps.getD x 0) t, .int ((ps.getD x 0 : Nat) : Int), rfl, rfl, el1, by omega, by omega, ?_, nv_get p1, ?_⟩
          · have := seq_ix (i := ((plc (ps.getD x 0) t : Nat) : Int)) (n := (nv t).length) (by omega) (by rw [nv_length]; omega)
            rw [Int.toNat_natCast] at this
            exact this
          rw [nv_erase]
          refine ⟨t.eraseIdx (plc (ps.getD x 0) t), N * (2 * j + 1) + plc (ps.getD x 0) t, some (.int (x : Nat)), some (.int (plc (ps.getD x 0) t : Nat)), ?_, upd_same, by rw [List.length_eraseIdx, if_pos p2]; omega, (List.eraseIdx_sublist t (plc (ps.getD x 0) t)).nodup tn, fun z hz => hlt z (List.mem_cons_of_mem _ (List.mem_of_mem_eraseIdx hz)), hcl2, by omega, ?_, fun z o hz => by rw [upd_ne (ne_of_none hz nl)]; exact sm1 _ _ hz⟩
          · rw [nv_length, ht]
            refine congrArg (fun i => [some (V.ref a), some (V.int i), some (V.ref l), some (V.int (x : Nat)), some (V.int (plc (ps.getD x 0) t : Nat))]) ?_
            show (N : Int) * ((2 * j + 1 : Nat) : Int) + ((plc (ps.getD x 0) t : Nat) : Int) = _
            rw [Int.natCast_add (N * (2 * j + 1)), Int.natCast_mul N]
          · rw [← hN, Nat.add_mul]
            show _ = N * (dfac j * (2 * j + 1)) + (plc (ps.getD x 0) t * dfac j + rk j (t.eraseIdx (plc (ps.getD x 0) t)) fun x => ps.getD x 0)
            rw [Nat.mul_assoc, Nat.mul_comm (2 * j + 1) (dfac j)]; omega
    · have hm0 : m = 0 := by
        cases fr with
        | nil => simp at hfr; omega
        | cons x t => exact absurd rfl c
      subst hm0
      have : N = prk r ps := by rw [← hN]; show N = N * 1 + 0; omega
      subst this
      exact ⟨_, rfl, q Hx sm⟩
end
end Pc
namespace Pc
open PySem PySem.Spec PyProof.Rows L2 RZ
/-! ### lists of lists of pairs -/
def CL (H : Hp) (as : List Addr) (xss : List (List (Nat × Nat))) : Prop := Paired (fun a qs => ∃ bs : List Addr, H a = some (.lst (bs.map V.ref)) ∧ Prs H bs qs) as xss
theorem CL.length {H : Hp} {as : List Addr} {xss : List (List (Nat × Nat))} (h : CL H as xss) : as.length = xss.length := Paired.length h
theorem cl_same {H H' : Hp} (e : Same H H') : ∀ {as : List Addr} {xss : List (List (Nat × Nat))}, CL H as xss → CL H' as xss
  | _, _, .nil => .nil
  | _, _, .cons ⟨bs, h1, h2⟩ r => .cons ⟨bs, e _ _ h1, prs_same e h2⟩ (cl_same e r)
theorem cl_keep {b : Addr} {H H' : Hp} {ys : List V} (k : Keep b H H') (hb : H b = some (.lst ys)) : ∀ {as : List Addr} {xss : List (List (Nat × Nat))}, (∀ a ∈ as, a ≠ b) → CL H as xss → CL H' as xss
  | _, _, _, .nil => .nil
  | _, _, hn, .cons ⟨bs, h1, h2⟩ r => .cons ⟨bs, k _ _ (hn _ List.mem_cons_self) h1, prs_keep k hb h2⟩ (cl_keep k hb (fun a ha => hn a (List.mem_cons_of_mem _ ha)) r)
theorem cl_append {H : Hp} : ∀ {as bs : List Addr} {ls ms : List (List (Nat × Nat))}, CL H as ls → CL H bs ms → CL H (as ++ bs) (ls ++ ms)
  | _, _, _, _, .nil, s => s
  | _, _, _, _, .cons h r, s => .cons h (cl_append r s)
theorem cl_get {H : Hp} : ∀ {as : List Addr} {ls : List (List (Nat × Nat))} {i : Nat} {a : Addr}, CL H as ls → as[i]? = some a → ∃ l bs, ls[i]? = some l ∧ H a = some (.lst (bs.map V.ref)) ∧ Prs H bs l
  | _, _, _, _, .nil, h => by simp at h
  | _, _, 0, _, .cons (b := p) ⟨bs, h1, h2⟩ _, e => by
    cases Option.some.inj e
    exact ⟨p, bs, rfl, h1, h2⟩
  | _, _, i + 1, a, .cons _ r, e => cl_get (i := i) r e
theorem dfac_le {j : Nat} (h : j ≤ 4) : dfac j ≤ 105 := by
  rcases (show j = 0 ∨ j = 1 ∨ j = 2 ∨ j = 3 ∨ j = 4 by omega) with z | z | z | z | z <;> subst z <;> decide
theorem evs_len : ∀ (j : Nat) {l : List Nat}, l.length = 2 * j → l.Nodup → (evs j l).length = dfac j := fun j l h1 h2 => by rw [evs_una j h1 h2, List.length_map, List.length_range]
/-- the part of evs before the i-th partner -/
def evsI (j : Nat) (l : List Nat) (i : Nat) : List (List (Nat × Nat)) := (l.tail.take i).flatMap fun m => (evs j (l.tail.filter fun w => !decide (w = m))).map fun more => (l.getD 0 0, m) :: more
theorem evsI_succ {j i m : Nat} {l : List Nat} (h : l.tail[i]? = some m) : evsI j l (i + 1) = evsI j l i ++ (evs j (l.tail.filter fun w => !decide (w = m))).map fun more => (l.getD 0 0, m) :: more := by
  unfold evsI
  rw [List.take_add_one, h, List.flatMap_append]
  show _ ++ List.flatMap _ [m] = _
  rw [List.flatMap_cons, List.flatMap_nil, List.append_nil]
theorem evsI_all (j : Nat) (l : List Nat) : evsI j l l.tail.length = evs (j + 1) l := by unfold evsI; rw [List.take_length]; rfl
theorem fm_take {α β : Type} (f : α → List β) (l : List α) (i : Nat) : ((l.take i).flatMap f).length ≤ (l.flatMap f).length := by
  have e : l.flatMap f = (l.take i).flatMap f ++ (l.drop i).flatMap f := by rw [← List.flatMap_append, List.take_append_drop]
  rw [e, List.length_append]
  exact Nat.le_add_right _ _
theorem evsI_len {j i : Nat} {l : List Nat} (hl : l.length = 2 * (j + 1)) (hd : l.Nodup) : (evsI j l i).length ≤ dfac (j + 1) := by
  have h := evs_len (j + 1) hl hd
  rw [← h, ← evsI_all]
  unfold evsI
  rw [List.take_length]
  exact fm_take _ _ _
section
variable {P : Program} {w : World} {K : PySem.W.Frag} {mg : Str → Option Value} {base : Heap}
/-! ### all pairings of some people, by the law -/
def spEvery (j : Nat) : Sp := fun vs H Q _ => ∃ (a : Addr) (l : List Nat), vs = [.ref a] ∧ H a = some (.lst (nv l)) ∧ l.length = 2 * j ∧ l.Nodup ∧ j ≤ 4 ∧ (∀ x ∈ l, x < 1000) ∧
  ∀ (H' : Hp) (t : Addr) (as : List Addr), Same H H' → H t = none → H' t = some (.lst (as.map V.ref)) → CL H' as (evs j l) → Q (.ref t) H'
theorem every_step (T : Env K mg) (k : Nat) (sp : Sp) (G : FnOk P w K mg base CX0 k T.f_every T.d_every ["_law_people"] sp) (j : Nat) (hj : j = 0 ∨ ∃ i, j = i + 1 ∧ sp = spEvery i) : FnOk P w K mg base CX0 (k + 1) T.f_every T.d_every ["_law_people"] (spEvery j) := by
  refine T.F_every.ok sc_every (fun vs H Q E h => ?_) (fun cdv A outer s H vs Q E hr h => ?_)
  · obtain ⟨a, l, rfl, _⟩ := h
    rfl
  · obtain ⟨a, l, rfl, ea, hl, hd, hj4, hlt, q⟩ := h
    refine ⟨_, pss_cons (ps_if (pt_cmpR (op_eqD hr.units) (pv 0) (pe_lst pa_nil) (nomark _)) (pss_one (ps_ret (pe_lst (pa_cons (pe_lst pa_nil) pa_nil)))) pss_nil) <|
      pss_cons (ps_set (i := 1) sc_every.nd rfl (.inl rfl) (pe_lst pa_nil)) <|
      pss_cons (ps_for PassesOwn.never rfl (pi_list (pe_slice sl_list (pv 0) (po_some pe_int) po_none)) (pg_name (i := 2) sc_every.nd rfl (.inr rfl))
        (pss_cons (ps_setLc (i := 3) (own := [("_law_who", 4)]) (g := gName 4) (tt := tTest (tOp rNe (tVar 4) (tVar 2))) (te := tVar 4) rfl sc_every.nd rfl rfl (sw_true rfl rfl rfl (by decide +kernel)) (pi_list (pe_slice sl_list (pv 0) (po_some pe_int) po_none)) (blkOk_by (N := N_every) (sc := defScope s_every) (by decide +kernel))
          (fun _ _ _ _ _ => pg_name (i := 4) sc_every.nd rfl (.inl rfl)) (fun _ _ _ _ _ => pts_one (pt_cmpR op_ne (pv 4) (pv 2) (nomark _))) (fun _ _ _ _ _ => pv 4)) <|
        pss_one (ps_set (i := 1) sc_every.nd rfl (.inl rfl) (pe_op op_cat (pv 1) (pe_lc (own := [("_law_more", 5)]) (g := gName 5) (tt := tYes) (te := tOp rCat (tLst (tCons (tTup (tCons (tOp (rIxL K) (tVar 0) (tC (.int 0))) (tCons (tVar 2) tNil))) tNil)) (tVar 5)) rfl sc_every.nd (pi_list (pe_call G hr (by rfl) T.g_every T.F_every.kp T.b_every .nil pass0 (pa_cons (pv 3) pa_nil))) (blkOk_by (N := N_every) (sc := defScope s_every) (by decide +kernel))
          (fun _ _ _ _ _ => pg_name (i := 5) sc_every.nd rfl (.inl rfl)) (fun _ _ _ _ _ => pts_nil) (fun _ _ _ _ _ => pe_op op_cat (pe_lst (pa_cons (pe_tup (pa_cons (pe_ix ix_list (pv 0) pe_int (fun _ _ => rfl)) (pa_cons (pv 2) pa_nil))) pa_nil)) (pv 5))))))) <|
      pss_one (ps_ret (pv 1)), ?_⟩
    refine ⟨_, rfl, by show 0 ≤ sizeLine; decide, fun l0 n0 => ?_⟩
    have s0 : Same H (upd H l0 (.lst [])) := same_new n0
    have fl : SeqAt.shaped (.list (nd l)) = true := (fi_lst (l := l) ⟨by omega, fun i hi => Nat.lt_of_lt_of_le (hlt i hi) (by decide)⟩).sh
    refine ⟨.list (nd l), .list [], .lst (.inl (.inl (s0 _ _ ea))) (dp_nats l), .lst (.inl (.inl upd_same)) .nil, fl, rfl, _, rfl, ?_⟩
    revert s0
    generalize upd H l0 (.lst []) = H0
    intro s0
    cases j with
    | zero =>
      have : l = [] := List.length_eq_zero_iff.mp (by omega)
      subst this
      refine iteY rfl ?_
      refine ⟨by show 0 ≤ sizeLine; decide, fun l1 n1 => ?_⟩
      have s1 : Same H0 (upd H0 l1 (.lst [])) := same_new n1
      have e1 : (upd H0 l1 (.lst [])) l1 = some (.lst (([] : List Addr).map V.ref)) := upd_same
      revert s1 e1
      generalize upd H0 l1 (.lst []) = H1
      intro s1 e1
      refine ⟨by show 1 ≤ sizeLine; decide, fun l2 n2 => ?_⟩
      have s2 : Same H1 (upd H1 l2 (.lst [.ref l1])) := same_new n2
      exact q _ l2 [l1] (s0.trans (s1.trans s2)) ((s0.trans s1).free n2) upd_same (.cons ⟨[], s2 _ _ e1, .nil⟩ .nil)
    | succ j =>
      obtain ⟨i0, hi0, rfl⟩ : ∃ i, j + 1 = i + 1 ∧ sp = spEvery i := by
        rcases hj with z | z
        · exact absurd z (by omega)
        · exact z
      obtain rfl : i0 = j := by omega
      cases l with
      | nil => simp at hl
      | cons p t =>
      have ht : t.length = 2 * i0 + 1 := by rw [List.length_cons] at hl; omega
      have n2 := (List.nodup_cons.mp hd).2
      have ea0 := s0 _ _ ea
      refine iteX (by simp [PyData.eqv, PyData.eqvAll, nd]) ?_
      refine ⟨by show 0 ≤ sizeLine; decide, fun f nf => ?_⟩
      have s1 : Same H0 (upd H0 f (.lst [])) := same_new nf
      have ef : (upd H0 f (.lst [])) f = some (.lst (([] : List Addr).map V.ref)) := upd_same
      revert s1 ef
      generalize upd H0 f (.lst []) = H1
      intro s1 ef
      have s01 := s0.trans s1
      have nfH : H f = none := s0.free nf
      refine st_set [some (.ref a), some (.ref f), none, none, none, none] ?_ rfl
      refine ⟨_, rfl, 1, rfl, a, _, rfl, .inl (.inl (s1 _ _ ea0)), fun tl ntl => ?_⟩
      rw [cut1D, show (nv (p :: t)).drop 1 = nv t from rfl]
      have s2 : Same H1 (upd H1 tl (.lst (nv t))) := same_new ntl
      have etl : (upd H1 tl (.lst (nv t))) tl = some (.lst (nv t)) := upd_same
      revert s2 etl
      generalize upd H1 tl (.lst (nv t)) = H2
      intro s2 etl
      have s02 := s01.trans s2
      refine ⟨tl, rfl, ⟨_, .inl (.inl etl)⟩, ?_⟩
      refine for_list (xs := nv t) (fun i σ H' => Same H2 H' ∧ ∃ (f' : Addr) (as : List Addr) (y2 y3 : Option V), σ = [some (.ref a), some (.ref f'), y2, y3, none, none] ∧ H f' = none ∧ H' f' = some (.lst (as.map V.ref)) ∧ CL H' as (evsI i0 (p :: t) i)) ⟨fun _ _ h => h, f, [], none, none, rfl, nfH, s2 _ _ ef, .nil⟩ (fun i σ H' _ h => .inl (.inl (h.1 _ _ etl))) (fun i x σ H3 hx h => ?_) (fun σ H3 h => ?_)
      · obtain ⟨s3, f', as, y2, y3, rfl, nf', ef', hC⟩ := h
        obtain ⟨m, em, rfl⟩ := nv_get' hx
        have s03 := s02.trans s3
        have ea3 := s03 _ _ ea
        refine st_set [some (.ref a), some (.ref f'), some (.int (m : Nat)), y3, none, none] ?_ rfl
        refine ⟨_, rfl, 1, rfl, a, _, rfl, .inl (.inl ea3), fun t2 nt2 => ?_⟩
        rw [cut1D, show (nv (p :: t)).drop 1 = nv t from rfl]
        have s4 : Same H3 (upd H3 t2 (.lst (nv t))) := same_new nt2
        have et2 : (upd H3 t2 (.lst (nv t))) t2 = some (.lst (nv t)) := upd_same
        revert s4 et2
        generalize upd H3 t2 (.lst (nv t)) = H4
        intro s4 et2
        refine ⟨t2, rfl, ⟨_, .inl (.inl et2)⟩, fun D nD => ?_⟩
        refine lc_list (xs := nv t) (fun k H' => Same H4 H' ∧ H' D = some (.lst (nv ((t.take k).filter fun w => !decide (w = m))))) ⟨same_new nD, upd_same⟩ (fun k H' _ h => .inl (.inl (h.1 _ _ et2))) (fun k v H' hv h => ?_) (fun H5 h => ?_)
        · obtain ⟨s5, eD⟩ := h
          obtain ⟨x, ex, rfl⟩ := nv_get' hv
          have tk : (t.take (k + 1)).filter (fun w => !decide (w = m)) = (t.take k).filter (fun w => !decide (w = m)) ++ (if (!decide (x = m)) = true then [x] else []) := by
            rw [List.take_add_one, ex, List.filter_append]
            exact congrArg _ (flt1 _ x)
          refine ⟨rfl, _, rfl, _, rfl, rfl, _, rfl, ?_⟩
          rw [show decide (V.int ((x : Nat) : Int) = V.int ((m : Nat) : Int)) = decide (x = m) from decide_eq_decide.mpr ⟨fun z => by injection z with z; omega, fun z => by rw [z]⟩]
          refine ite2 (fun z => ?_) (fun z => ?_)
          · refine ⟨_, rfl, _, eD, ?_, fun y o hy => ?_, ?_⟩
            · rw [nv_length]
              exact line_big (Nat.le_trans (List.length_filter_le _ _) (Nat.le_trans (List.length_take_le' _ _) (by omega)))
            · rw [upd_ne (ne_of_none hy nD)]; exact s5 _ _ hy
            · rw [upd_same, tk, if_pos z, ← nv_snoc']
          · exact ⟨s5, by rw [tk, if_neg z, List.append_nil]; exact eD⟩
        obtain ⟨s5, eD⟩ := h
        rw [nv_length, List.take_length] at eD
        have s35 := s4.trans s5
        refine st_set [some (.ref a), some (.ref f'), some (.int (m : Nat)), some (.ref D), none, none] ?_ rfl
        have er : t.filter (fun w => !decide (w = m)) = t.eraseIdx i := filt_erase n2 em
        have hi := get_lt em
        have lr : (t.filter fun w => !decide (w = m)).length = 2 * i0 := by rw [er, List.length_eraseIdx, if_pos hi]; omega
        refine ⟨_, rfl, _, rfl, D, _, rfl, eD, lr, n2.filter _, by omega, fun x hx => hlt x (List.mem_cons_of_mem _ (List.mem_filter.mp hx).1), fun H6 e bs s6 ne ee hE => ?_⟩
        have s36 := s35.trans s6
        have ef6 := s36 _ _ ef'
        have ea6 := s36 _ _ ea3
        refine ⟨e, rfl, ⟨_, .inl (.inl ee)⟩, fun D2 nD2 => ?_⟩
        have lE : bs.length ≤ 105 := by
          rw [hE.length, evs_len i0 lr (n2.filter _)]
          exact dfac_le (by omega)
        refine lc_list (xs := bs.map V.ref) (fun k H' => Same H6 H' ∧ ∃ us : List Addr, (∀ u ∈ us, u ≠ D2) ∧ H' D2 = some (.lst (us.map V.ref)) ∧ CL H' us ((((evs i0 (t.filter fun w => !decide (w = m)))).map fun more => (p, m) :: more).take k)) ⟨same_new nD2, [], (fun _ h => absurd h List.not_mem_nil), upd_same, .nil⟩ (fun k H' _ h => .inl (.inl (h.1 _ _ ee))) (fun k v H' hv h => ?_) (fun H7 h => ?_)
        · obtain ⟨s7, us, hne, eD2, hU⟩ := h
          rw [List.getElem?_map] at hv
          obtain ⟨u, hu, rfl⟩ := Option.map_eq_some_iff.mp hv
          obtain ⟨xs, cs, hxs, exs, hcs⟩ := cl_get hE hu
          have hk := get_lt hu
          have lxs : xs.length = i0 := by
            have hm := List.mem_of_getElem? hxs
            rw [evs_una i0 lr (n2.filter _)] at hm
            obtain ⟨k', _, rfl⟩ := List.mem_map.mp hm
            exact una_len _ _ _
          refine ⟨rfl, yes_if ⟨_, rfl, a, _, 0, .int (p : Nat), rfl, rfl, .inl (.inl (s7 _ _ ea6)), atI_nat (j := 0) rfl, _, rfl, by show 2 ≤ sizeLine; decide, fun z nz => ?_⟩⟩
          have sz : Same H' (upd H' z (.tup [.int (p : Nat), .int (m : Nat)])) := same_new nz
          have ez : (upd H' z (.tup [.int (p : Nat), .int (m : Nat)])) z = some (.tup [.int (p : Nat), .int (m : Nat)]) := upd_same
          revert sz ez
          generalize upd H' z (.tup [.int (p : Nat), .int (m : Nat)]) = H8
          intro sz ez
          refine ⟨by show 1 ≤ sizeLine; decide, fun z1 nz1 => ?_⟩
          have sz1 : Same H8 (upd H8 z1 (.lst [.ref z])) := same_new nz1
          have ez1 : (upd H8 z1 (.lst [.ref z])) z1 = some (.lst ([z].map V.ref)) := upd_same
          have ez' := sz1 _ _ ez
          revert sz1 ez1 ez'
          generalize upd H8 z1 (.lst [.ref z]) = H9
          intro sz1 ez1 ez'
          have s79 : Same H' H9 := sz.trans sz1
          have exs9 := s79 _ _ (s7 _ _ exs)
          have hcs9 := prs_same s79 (prs_same s7 hcs)
          refine ⟨_, rfl, z1, u, _, _, rfl, rfl, ez1, exs9, Nat.le_of_lt (small1000 (by rw [List.length_map, List.length_map, hcs.length, lxs]; show 1 + i0 ≤ 1000; omega)), fun y ny => ?_⟩
          rw [← List.map_append]
          have sy : Same H9 (upd H9 y (.lst (([z] ++ cs).map V.ref))) := same_new ny
          have ey : (upd H9 y (.lst (([z] ++ cs).map V.ref))) y = some (.lst (([z] ++ cs).map V.ref)) := upd_same
          have hPy : Prs (upd H9 y (.lst (([z] ++ cs).map V.ref))) ([z] ++ cs) ((p, m) :: xs) := prs_same sy (.cons ez' hcs9)
          have eDy := sy _ _ (s79 _ _ eD2)
          have hUy := cl_same sy (cl_same s79 hU)
          have nDy : y ≠ D2 := fun w => by rw [w, s79 _ _ eD2] at ny; cases ny
          have s8y : Same H6 (upd H9 y (.lst (([z] ++ cs).map V.ref))) := s7.trans (s79.trans sy)
          revert sy ey hPy eDy hUy s8y
          generalize upd H9 y (.lst (([z] ++ cs).map V.ref)) = Ha
          intro sy ey hPy eDy hUy s8y
          have eg : (((evs i0 (t.filter fun w => !decide (w = m)))).map fun more => (p, m) :: more)[k]? = some ((p, m) :: xs) := by rw [List.getElem?_map, hxs]; rfl
          refine ⟨_, eDy, ?_, fun b o hb => ?_, us ++ [y], fun u hu => ?_, ?_, ?_⟩
          · rw [List.length_map, hU.length]
            exact small1000 (Nat.le_trans (List.length_take_le' _ _) (by rw [List.length_map, ← hE.length]; omega))
          · rw [upd_ne (ne_of_none hb nD2)]; exact s8y _ _ hb
          · rcases List.mem_append.mp hu with w | w
            · exact hne u w
            · rw [List.mem_singleton] at w; rw [w]; exact nDy
          · rw [upd_same, List.map_append]; rfl
          · rw [List.take_add_one, eg]
            exact cl_append (cl_keep keep_upd eDy hne hUy) (.cons ⟨[z] ++ cs, by rw [upd_ne nDy]; exact ey, prs_keep keep_upd eDy hPy⟩ .nil)
        obtain ⟨s7, us, hne, eD2, hU⟩ := h
        have lm : (bs.map V.ref).length = ((evs i0 (t.filter fun w => !decide (w = m))).map fun more => (p, m) :: more).length := by rw [List.length_map, List.length_map, hE.length]
        rw [lm, List.take_length] at hU
        have lU := hU.length
        have lA := hC.length
        have lI := evsI_len (j := i0) (i := i) (l := p :: t) hl hd
        have l105 := dfac_le hj4
        have s67 := s36.trans s7
        refine ⟨f', D2, _, _, rfl, rfl, s67 _ _ ef', eD2, ?_, fun y ny => ?_⟩
        · rw [List.length_map, List.length_map, lA, lU, List.length_map, ← hE.length]
          exact Nat.le_of_lt (small1000 (by omega))
        rw [← List.map_append]
        have sy : Same H7 (upd H7 y (.lst ((as ++ us).map V.ref))) := same_new ny
        refine st_set [some (.ref a), some (.ref y), some (.int (m : Nat)), some (.ref D), none, none] ?_ rfl
        refine ⟨s3.trans (s67.trans sy), y, as ++ us, _, _, rfl, (s03.trans s67).free ny, upd_same, ?_⟩
        have em' : (p :: t).tail[i]? = some m := em
        rw [evsI_succ em']
        exact cl_same sy (cl_append (cl_same s67 hC) hU)
      · obtain ⟨s3, f', as, y2, y3, rfl, nf', ef', hC⟩ := h
        have lt2 : (nv t).length = (p :: t).tail.length := nv_length t
        rw [lt2, evsI_all] at hC
        exact ⟨_, rfl, q H3 f' as (s02.trans s3) nf' ef' hC⟩
end
end Pc
namespace Pc
open PySem PySem.Spec PyProof.Rows L2 RZ
/-- promises for each number, in one -/
theorem FnOk.ex {P : Program} {w : World} {K : PySem.W.Frag} {mg : Str → Option Value} {base : Heap} {CX : CXT} {k : Nat} {f : Addr} {fd : FuncData} {ps : List Str} {sp : Nat → Sp} {p : Nat → Prop} (F : ∀ j, p j → FnOk P w K mg base CX k f fd ps (sp j)) :
    FnOk P w K mg base CX k f fd ps (fun vs H Q E => ∃ j, p j ∧ sp j vs H Q E) where
  len vs H Q E h := let ⟨j, hj, g⟩ := h; (F j hj).len vs H Q E g
  run A outer s H args us vs Q E hr e0 hb r h := let ⟨j, hj, g⟩ := h; (F j hj).run A outer s H args us vs Q E hr e0 hb r g
end Pc
namespace Pc
open PySem PySem.Spec PyProof.Rows L2 RZ
section
variable {P : Program} {w : World} {K : PySem.W.Frag} {mg : Str → Option Value} {base : Heap}
theorem ok_every (T : Env K mg) : ∀ j, FnOk P w K mg base CX0 (j + 1) T.f_every T.d_every ["_law_people"] (spEvery j)
  | 0 => every_step T 0 (fun _ _ _ _ => False) (fn_never fun _ _ _ _ h => h) 0 (.inl rfl)
  | j + 1 => every_step T (j + 1) (spEvery j) (ok_every T j) (j + 1) (.inr ⟨j, rfl, rfl⟩)
/-! ### the pairing of couples, by the law -/
def spOfCouples : Sp := fun vs H Q _ => ∃ (a : Addr) (bs : List Addr) (qs : List (Nat × Nat)) (ps : List Nat), vs = [.ref a, .int (ps.length : Nat)] ∧ H a = some (.lst (bs.map V.ref)) ∧ Prs H bs qs ∧ Makes qs ps ∧ ps.length ≤ 1000 ∧
  ∀ (H' : Hp) (t : Addr), Same H H' → H t = none → H' t = some (.tup (nv ps)) → Q (.ref t) H'
theorem ok_of_couples (T : Env K mg) : FnOk P w K mg base CX0 1 T.f_of_couples T.d_of_couples ["_law_couples_now", "_law_count"] spOfCouples := by
  refine T.F_of_couples.ok sc_of_couples (fun vs H Q E h => ?_) (fun cdv A outer s H vs Q E hr h => ?_)
  · obtain ⟨a, bs, qs, ps, rfl, _⟩ := h
    rfl
  · obtain ⟨a, bs, qs, ps, rfl, ea, hP, hM, hn, q⟩ := h
    refine ⟨_, pss_cons (ps_set (i := 2) sc_of_couples.nd rfl (.inl rfl) (pe_op op_rep (pe_lst (pa_cons pe_int pa_nil)) (pv 1))) <|
      pss_cons (ps_for PassesOwn.never rfl (pi_list (pv 0)) (pg_tup (by rfl) (pgs_cons (pg_name (i := 3) sc_of_couples.nd rfl (.inl rfl)) (pgs_cons (pg_name (i := 4) sc_of_couples.nd rfl (.inl rfl)) pgs_nil)))
        (pss_one (ps_asg (pe_tup (pa_cons (pv 4) (pa_cons (pv 3) pa_nil))) (pg_tup rfl (pgs_cons (pg_sub (pv 2) (pv 3) set_list) (pgs_cons (pg_sub (pv 2) (pv 4) set_list) pgs_nil)))))) <|
      pss_one (ps_ret (pe_callTy call_tuple_of (by rfl) T.n_tuple (by decide +kernel) (pa_cons (pv 2) pa_nil))), ?_⟩
    refine ⟨by show 1 ≤ sizeLine; decide, fun e ne => ?_⟩
    have s0 : Same H (upd H e (.lst [.int 0])) := same_new ne
    refine ⟨_, rfl, e, _, [.int 0], rfl, rfl, upd_same, by omega, by omega, ?_, fun f nf => ?_⟩
    · show 1 * Int.toNat (ps.length : Int) ≤ sizeLine
      exact Nat.le_of_lt (small1000 (by omega))
    rw [rep_flat, Int.toNat_natCast, show List.replicate ps.length (V.int 0) = nv (List.replicate ps.length 0) by unfold nv; rw [List.map_replicate]; rfl]
    have s1 : Same H (upd (upd H e (.lst [.int 0])) f (.lst (nv (List.replicate ps.length 0)))) := s0.trans (same_new nf)
    have ef : (upd (upd H e (.lst [.int 0])) f (.lst (nv (List.replicate ps.length 0)))) f = some (.lst (nv (List.replicate ps.length 0))) := upd_same
    have nfH := s0.free nf
    revert s1 ef
    generalize upd (upd H e (.lst [.int 0])) f (.lst (nv (List.replicate ps.length 0))) = H1
    intro s1 ef
    refine st_set [some (.ref a), some (.int (ps.length : Nat)), some (.ref f), none, none] ?_ rfl
    refine ⟨_, rfl, a, rfl, ⟨_, .inl (.inl (s1 _ _ ea))⟩, ?_⟩
    refine for_list (xs := bs.map V.ref) (fun i σ H' => Same H H' ∧ ∃ (y3 y4 : Option V) (fs : List Nat), σ = [some (.ref a), some (.int (ps.length : Nat)), some (.ref f), y3, y4] ∧ H' f = some (.lst (nv fs)) ∧ CInv ps qs fs i) ⟨s1, none, none, _, rfl, ef, by rw [List.length_replicate], fun j hj => absurd hj (Nat.not_lt_zero _)⟩ (fun i σ H' _ h => .inl (.inl (h.1 _ _ ea))) (fun i x σ H2 hx h => ?_) (fun σ H2 h => ?_)
    · obtain ⟨sm, y3, y4, fs, rfl, ef2, ci⟩ := h
      rw [List.getElem?_map] at hx
      obtain ⟨u, hu, rfl⟩ := Option.map_eq_some_iff.mp hx
      obtain ⟨p, hp, eu⟩ := prs_get hP hu
      obtain ⟨o1, o2⟩ := hM.ok p (List.mem_of_getElem? hp)
      have l1 : p.1 < fs.length := by rw [ci.1]; exact get_lt o1
      have l2 : p.2 < fs.length := by rw [ci.1]; exact get_lt o2
      refine ⟨u, _, rfl, .inl (.inl (sm _ _ eu)), rfl, _, _, rfl, _, _, rfl, rfl, ?_⟩
      refine ⟨_, rfl, _, rfl, by show 2 ≤ sizeLine; decide, fun v nv7 => ?_⟩
      have ev := same_new (o := .tup [.int (p.2 : Nat), .int (p.1 : Nat)]) nv7
      refine ⟨v, _, rfl, .inl (.inl upd_same), rfl, _, _, rfl, _, rfl, _, rfl, f, _, _, p.1, rfl, rfl, ev _ _ ef2, ixN_nat (by rw [nv_length]; exact l1), ?_⟩
      refine ⟨_, _, rfl, _, rfl, _, rfl, f, _, _, p.2, rfl, rfl, upd_same, ixN_nat (by rw [List.length_set, nv_length]; exact l2), rfl, ?_⟩
      refine ⟨fun b o hb => ?_, _, _, (fs.set p.1 p.2).set p.2 p.1, rfl, ?_, ci.step hM hp⟩
      · rw [upd_ne (ne_of_none hb nfH), upd_ne (ne_of_none hb nfH)]; exact ev _ _ (sm _ _ hb)
      · rw [upd_same, nv_set, nv_set]
    · obtain ⟨sm, y3, y4, fs, rfl, ef2, ci⟩ := h
      rw [List.length_map, hP.length] at ci
      have e := ci.done hM
      rw [e] at ef2
      exact ⟨_, rfl, f, _, rfl, .inl ⟨.inl (.inl ef2), fun t nt => q _ t (sm.trans (same_new nt)) (sm.free nt) upd_same⟩⟩
def spEveryA : Sp := fun vs H Q E => ∃ j, j ≤ 4 ∧ spEvery j vs H Q E
theorem ok_everyA (T : Env K mg) : FnOk P w K mg base CX0 5 T.f_every T.d_every ["_law_people"] spEveryA := Pc.FnOk.ex fun j hj => (ok_every T j).mono (by omega)
end
end Pc
namespace Pc
open PySem PySem.Spec PyProof.Rows L2 RZ
section
variable {P : Program} {w : World} {K : PySem.W.Frag} {mg : Str → Option Value} {base : Heap}
/-! ### a wide draw -/
def spTakeW : Sp := fun vs H Q _ => ∃ (b : Addr) (n : Nat) (s : Int), vs = [.ref b, .int s] ∧ Box (n + 2) H b ∧ 0 < s ∧ s ≤ 100000000000000 ∧
  ∀ (r : Int) (H' : Hp), 0 ≤ r → r < s → Box n H' b → Keep b H H' → Q (.int r) H'
theorem ok_takeW (T : Env K mg) : FnOk P w K mg base CX0 2 T.f_take T.d_take ["_law_box_here", "_law_span"] spTakeW := by
  have G : FnOk P w K mg base CX0 1 T.f_take T.d_take ["_law_box_here", "_law_span"] spTake := ok_take T
  refine T.F_take.ok sc_take (fun vs H Q E h => ?_) (fun cdv A outer s H vs Q E hr h => ?_)
  · obtain ⟨b, n, s, rfl, _⟩ := h
    rfl
  · obtain ⟨b, n, s, rfl, ⟨x, y, z, hb, hx, hy, hy2, hz, hz2⟩, hs, hs2, q⟩ := h
    refine ⟨_, pss_cons (ps_if (pt_cmpR op_gt (pe_ix ix_list (pv 0) pe_int (fun _ _ => rfl)) pe_int (nomark _))
        (pss_cons (ps_set (i := 2) sc_take.nd rfl (.inl rfl) (pe_op op_mod (pe_ix ix_list (pv 0) pe_int (fun _ _ => rfl)) (pv 1)))
        (pss_cons (ps_asg (pe_op op_fdivW (pe_ix ix_list (pv 0) pe_int (fun _ _ => rfl)) (pv 1)) (pg_sub (pv 0) pe_int set_list))
        (pss_one (ps_ret (pv 2))))) pss_nil)
      (pss_cons (ps_if (pt_cmpR op_gt (pv 1) (pe_op op_pow pe_int pe_int) (nomark _)) (pss_one (ps_ret (pe_op op_mod (pe_op op_add (pe_call G hr (by rfl) T.g_take T.F_take.kp T.b_take .nil pass0 (pa_cons (pv 0) (pa_cons (pe_op op_pow pe_int pe_int) pa_nil))) (pe_op op_mul (pe_op op_pow pe_int pe_int) (pe_call G hr (by rfl) T.g_take T.F_take.kp T.b_take .nil pass0 (pa_cons (pv 0) (pa_cons (pe_op op_add (pe_op op_fdiv (pe_op op_sub (pv 1) pe_int) (pe_op op_pow pe_int pe_int)) pe_int) pa_nil))))) (pv 1)))) pss_nil)
      (pss_cons (ps_asg (pe_op op_add (pe_ix ix_list (pv 0) pe_int (fun _ _ => rfl)) pe_int) (pg_sub (pv 0) pe_int set_list))
      (pss_cons (ps_set (i := 3) sc_take.nd rfl (.inl rfl) (pe_op op_mod (pe_op op_pow (pe_op op_add (pe_ix ix_list (pv 0) pe_int (fun _ _ => rfl)) (pe_op op_mul pe_int (pe_ix ix_list (pv 0) pe_int (fun _ _ => rfl)))) pe_int) pe_int))
      (pss_one (ps_ret (pe_op op_mod (pe_op op_fdiv (pe_op op_mod (pe_op op_add (pe_op op_mul (pv 3) (pe_op op_add (pe_op op_mod (pv 3) pe_int) pe_int)) (pe_op op_mul (pe_ix ix_list (pv 0) pe_int (fun _ _ => rfl)) pe_int)) pe_int) pe_int) (pv 1))))))), ?_⟩
    have hBx : Box (n + 2) H b := ⟨x, y, z, hb, hx, hy, hy2, hz, hz2⟩
    have e7 : (10 : Int) ^ Int.toNat 7 = 10000000 := by decide
    have hS : SqL K H b [.int x, .int y, .int z] := .inl (.inl hb)
    refine ⟨.ref b, rfl, b, _, 0, .int x, rfl, rfl, hS, atI_nat (j := 0) rfl, x, 0, rfl, rfl, _, rfl, ite2 (fun e => ?_) (fun e => ?_)⟩
    · -- the number itself serves
      refine ⟨.ref b, rfl, b, _, 0, .int x, rfl, rfl, hS, atI_nat (j := 0) rfl, .int s, rfl, x, s, rfl, rfl, hs, ?_⟩
      refine ⟨.ref b, rfl, b, _, 0, .int x, rfl, rfl, hS, atI_nat (j := 0) rfl, .int s, rfl, x, s, rfl, rfl, wide_div (b := 50) hs (by omega) (by decide) (by decide), .ref b, rfl, b, _, 0, 0, rfl, rfl, hb, rfl, ?_⟩
      refine ⟨_, rfl, q _ _ (Int.emod_nonneg _ (by omega)) (Int.emod_lt_of_pos _ hs) ⟨_, y, z, upd_same, ?_, hy, hy2, hz, by omega⟩ keep_upd⟩
      exact Int.ediv_nonneg hx (by omega)
    · refine ⟨.int s, rfl, 10, 7, rfl, rfl, ⟨by decide, by decide, by decide⟩, s, _, rfl, rfl, _, rfl, ite2 (fun e2 => ?_) (fun _ => ?_)⟩
      · have e3 := of_decide_eq_true e2
        rw [e7] at e3
        refine ⟨_, rfl, 10, 7, rfl, rfl, ⟨by decide, by decide, by decide⟩, b, n + 1, 10000000, rfl, hBx, by decide, by decide, fun r1 H1 a0 a1 hB1 k1 => ?_⟩
        refine ⟨10, 7, rfl, rfl, ⟨by decide, by decide, by decide⟩, _, rfl, _, rfl, s, 1, rfl, rfl, 10, 7, rfl, rfl, ⟨by decide, by decide, by decide⟩, _, _, rfl, rfl, ⟨by decide, by decide⟩, _, 1, rfl, rfl, b, n, _, rfl, hB1, ?_, ?_, fun r2 H2 b0 b1 hB2 k2 => ?_⟩
        · show 0 < (s - 1) / ((10 : Int) ^ Int.toNat 7) + 1
          rw [e7]; omega
        · show (s - 1) / ((10 : Int) ^ Int.toNat 7) + 1 ≤ 10000000
          rw [e7]; omega
        refine ⟨_, _, rfl, rfl, .inl ⟨by decide, by decide⟩, _, _, rfl, rfl, .int s, rfl, _, s, rfl, rfl, hs, ?_⟩
        exact q _ _ (Int.emod_nonneg _ (by omega)) (Int.emod_lt_of_pos _ hs) hB2 (k1.trans k2)
      refine ⟨.ref b, rfl, b, _, 2, .int z, rfl, rfl, hS, atI_nat (j := 2) rfl, z, 1, rfl, rfl, .ref b, rfl, b, _, 2, 2, rfl, rfl, hb, rfl, ?_⟩
      have h2 : upd H b (.lst ([V.int x, V.int y, V.int z].set 2 (.int (z + 1)))) b = some (.lst [.int x, .int y, .int (z + 1)]) := upd_same
      have hS2 : SqL K (upd H b (.lst ([V.int x, V.int y, V.int z].set 2 (.int (z + 1))))) b [.int x, .int y, .int (z + 1)] := .inl (.inl h2)
      refine ⟨.ref b, rfl, b, _, 1, .int y, rfl, rfl, hS2, atI_nat (j := 1) rfl, .ref b, rfl, b, _, 2, .int (z + 1), rfl, rfl, hS2, atI_nat (j := 2) rfl, 39373, z + 1, rfl, rfl, .inl ⟨by decide, by decide⟩, y, _, rfl, rfl, _, 5, rfl, rfl, ⟨by decide, by decide, by omega⟩, _, 2147483647, rfl, rfl, (show (0 : Int) < 2147483647 by decide), ?_⟩
      have o1 : 0 ≤ (y + 39373 * (z + 1)) ^ Int.toNat 5 % 2147483647 := Int.emod_nonneg _ (by decide)
      have o2 : (y + 39373 * (z + 1)) ^ Int.toNat 5 % 2147483647 < 2147483647 := Int.emod_lt_of_pos _ (by decide)
      refine ⟨_, rfl, _, rfl, _, 40009, rfl, rfl, (show (0 : Int) < 40009 by decide), _, 7, rfl, rfl, _, _, rfl, rfl, .inl ⟨Int.lt_of_lt_of_le (by decide) o1, Int.lt_trans o2 (by decide)⟩, .ref b, rfl, b, _, 2, .int (z + 1), rfl, rfl, hS2, atI_nat (j := 2) rfl, z + 1, 7919, rfl, rfl, .inr ⟨by decide, by decide⟩, _, _, rfl, rfl, _, 2147483629, rfl, rfl, (show (0 : Int) < 2147483629 by decide), _, 64, rfl, rfl, ⟨by decide, by decide⟩, .int s, rfl, _, s, rfl, rfl, hs, ?_⟩
      exact q _ _ (Int.emod_nonneg _ (by omega)) (Int.emod_lt_of_pos _ hs) ⟨x, y, z + 1, h2, hx, hy, hy2, by omega, by omega⟩ keep_upd
end
end Pc
namespace Pc
open PySem PySem.Spec PyProof.Rows L2 RZ
section
variable {P : Program} {w : World} {K : PySem.W.Frag} {mg : Str → Option Value} {base : Heap}
/-! ### odd_product -/
def spOdd : Sp := fun vs H Q _ => ∃ r : Nat, vs = [.int (2 * (r : Int) - 1)] ∧ r ≤ 20 ∧ Q (.int (dfac r : Nat)) H
theorem ok_odd_product (T : Env K mg) : FnOk P w K mg base CX0 1 T.f_odd_product T.d_odd_product ["_law_most"] spOdd := by
  refine T.F_odd_product.ok sc_odd_product (fun vs H Q E h => ?_) (fun cdv A outer s H vs Q E hr h => ?_)
  · obtain ⟨r, rfl, _⟩ := h
    rfl
  · obtain ⟨r, rfl, hr20, q⟩ := h
    refine ⟨_, pss_cons (ps_set (i := 1) sc_odd_product.nd rfl (.inl rfl) pe_int) <|
      pss_cons (ps_for PassesOwn.never rfl (pi_range3 rfl T.n_range (pa_cons pe_int (pa_cons (pe_op op_add (pv 0) pe_int) (pa_cons pe_int pa_nil)))) (pg_name (i := 2) sc_odd_product.nd rfl (.inl rfl))
        (pss_one (ps_set (i := 1) sc_odd_product.nd rfl (.inl rfl) (pe_op op_mul (pv 1) (pv 2))))) <|
      pss_one (ps_ret (pv 1)), ?_⟩
    refine ⟨_, rfl, _, 1, rfl, rfl, 1, ((2 * r : Nat) : Int), 2, r, ?_, rgc_odd (by omega), ?_⟩
    · show [V.int 1, V.int (2 * (r : Int) - 1 + 1), V.int 2] = _
      rw [show 2 * (r : Int) - 1 + 1 = ((2 * r : Nat) : Int) by omega]
    refine for_rangeC (fun t σ H' => H' = H ∧ ∃ y : Option V, σ = [some (.int (2 * (r : Int) - 1)), some (.int (dfac t : Nat)), y]) ⟨rfl, none, rfl⟩ (fun t σ H' ht h => ?_) (fun σ H' h => ?_)
    · obtain ⟨rfl, y, rfl⟩ := h
      refine ⟨_, rfl, _, rfl, _, _, rfl, rfl, .inr ⟨by omega, by omega⟩, rfl, some (.int (1 + (t : Nat) * 2)), ?_⟩
      show [some (V.int (2 * (r : Int) - 1)), some (V.int ((dfac t : Int) * (1 + (t : Nat) * 2))), some (V.int (1 + (t : Nat) * 2))] = _
      rw [show ((dfac t : Nat) : Int) * (1 + (t : Nat) * 2) = ((dfac (t + 1) : Nat) : Int) by
        show _ = ((dfac t * (2 * t + 1) : Nat) : Int)
        rw [Int.natCast_mul, show ((2 * t + 1 : Nat) : Int) = 1 + (t : Nat) * 2 by omega]]
    · obtain ⟨rfl, y, rfl⟩ := h
      exact ⟨_, rfl, q⟩
end
end Pc
namespace Pc
open PySem PySem.Spec PyProof.Rows L2 RZ
theorem eqv_nd : ∀ f g : List Nat, PyData.eqvAll (nd f) (nd g) = decide (f = g)
  | [], [] => by simp [nd, PyData.eqvAll]
  | [], _ :: _ => by simp [nd, PyData.eqvAll]
  | _ :: _, [] => by simp [nd, PyData.eqvAll]
  | x :: f, y :: g => by
    show PyData.eqvAll (.int (x : Int) :: nd f) (.int (y : Int) :: nd g) = _
    rw [PyData.eqvAll, eqv_nd f g, PyData.eqv]
    by_cases c : x = y
    · subst c; by_cases d : f = g
      · subst d; simp
      · simp [d]
    · have : ¬ ((x : Int) = (y : Int)) := fun z => c (by omega)
      simp [c, this]
theorem eqv_td (f g : List Nat) : PyData.eqv (td f) (td g) = decide (f = g) := by
  show PyData.eqv (.tuple (nd f)) (.tuple (nd g)) = _
  rw [PyData.eqv]; exact eqv_nd f g
end Pc
namespace Pc
open PySem PySem.Spec PyProof.Rows L2 RZ
theorem fi_tups {ls : List (List Nat)} (h : ls.length ≤ 100 ∧ ∀ l ∈ ls, l.length ≤ 100 ∧ ∀ i ∈ l, i < 2 ^ 60) : Fi 2 (.list (ls.map td)) := (fine_tds (n := 100) (m := 100) h.2 h.1 (by decide) (by decide)).mono (Nat.le_refl _) (by decide)
end Pc
namespace Pc
open PySem PySem.Spec PyProof.Rows L2 RZ
theorem q_bl {Q : VK} {H : Hp} {b : Bool} (h : b = true) (hq : Q (.bl true) H) : Q (.bl b) H := by rw [h]; exact hq
end Pc
/-! ### sorted(xs) of tuples of ints of one length, any number of them -/
namespace SrtO
open PySem PySem.Spec PyProof.Rows
theorem swo_code (k : Value → Int) : Swo fun v u => decide (k v < k u) :=
  ⟨fun x y h => decide_eq_false (by have := of_decide_eq_true h; omega), fun x y z h1 h2 => decide_eq_false (by have a := of_decide_eq_false h1; have b := of_decide_eq_false h2; omega)⟩
section
variable {prog : Program} {w : World} {A : Around} {E : Value → Shared → Prop} {s : Shared}
theorem tup_cmp {vs : List Value} {d : Nat} {B : Int} {c : Value → List Int} (hp : ∀ v ∈ vs, TS.TupInts s.heap v (c v) ∧ (c v).length = d ∧ TS.Bd B (c v)) :
    Cmp prog w A s (tuples' true) (fun p => p.1 ∈ vs) (lt2 fun v u => decide (TS.code B (c v) < TS.code B (c u))) := by
  intro p q hm hm'
  obtain ⟨h1, l1, b1⟩ := hp _ hm
  obtain ⟨h2, l2, b2⟩ := hp _ hm'
  show wpAny (model prog w) A (keyLt' (tuples' true) p.1 q.1) (fun r s' => s' = s ∧ r = decide (TS.code B (c p.1) < TS.code B (c q.1))) (fun _ _ => False) s
  generalize c p.1 = ns at h1 l1 b1 ⊢
  generalize c q.1 = ms at h2 l2 b2 ⊢
  obtain ⟨a, xs, e, ⟨o, ho, hc, n, hd⟩, i⟩ := h1
  obtain ⟨a', xs', e', ⟨o', ho', hc', n', hd'⟩, i'⟩ := h2
  rw [e, e']
  refine PySem.W.kat_lt ho hd ho' hd' ?_
  have hsz : decide (xs.size < xs'.size) = false := decide_eq_false (by
    have x1 := i.length
    have x2 := i'.length
    rw [Array.length_toList] at x1 x2
    omega)
  rw [hsz]
  exact TS.lex_ints 0 i i' (by omega) b1 b2 ⟨rfl, rfl⟩
theorem tups_sortableO {a : Addr} {vs : List Value} {d : Nat} {B : Int} {c : Value → List Int} (hd : 1 ≤ d) (h0 : 0 < vs.length) (hp : ∀ v ∈ vs, TS.TupInts s.heap v (c v) ∧ (c v).length = d ∧ TS.Bd B (c v)) (ha : ∀ o, s.heap.get? a = some o → o.cls ≠ .type "tuple") :
    SortableO prog w A s a vs fun v u => decide (TS.code B (c v) < TS.code B (c u)) := by
  intro h' keep
  have hp' : ∀ v ∈ vs, TS.TupInts h' v (c v) ∧ (c v).length = d ∧ TS.Bd B (c v) := fun v hm => ⟨(hp v hm).1.keeps fun b o e c => keep b o (fun z => by subst z; exact ha o e c) e, (hp v hm).2⟩
  obtain ⟨fs, h1, h2, h3⟩ := TS.firsts_of hd vs (fun v hm => ⟨_, (hp' v hm).1, (hp' v hm).2⟩ : TS.TupsOk h' d B vs)
  refine ⟨tuples' true, fun Q E hq => ?_, tup_cmp hp'⟩
  refine PySem.W.kat_kind (T := .type "int") h1 (by omega) (fun f hm => ?_) (by rfl) ?_
  · obtain ⟨x, t, rfl⟩ := h3 f hm
    exact PySem.W.Looks.now
  · have e : (Value.type "int" != Value.type "tuple") = true := by first | decide +kernel | rfl | decide
    rw [e]
    exact hq
theorem sorted_tupsO {l : Addr} {vs : List Value} {d : Nat} {B : Int} {c : Value → List Int} {Q : Value → Shared → Prop} (hd : 1 ≤ d) (hl : s.heap.IsList l vs.toArray) (hz : vs.length ≤ sizeLine) (hp : ∀ v ∈ vs, TS.TupInts s.heap v (c v) ∧ (c v).length = d ∧ TS.Bd B (c v))
    (h : ∀ (h' : Heap) (e : Addr) (out : List Value), Srtd (fun v u => decide (TS.code B (c v) < TS.code B (c u))) out → out.Perm vs → (∀ b o, s.heap.get? b = some o → h'.get? b = some o) → s.heap.objs.size ≤ e → (∃ n, h'.get? e = some (seqObj "list" out.toArray n)) → Q (.ref e) { s with heap := h' }) :
    wpAny (model prog w) A (call (.builtin "sorted") [.ref l]) Q E s := by
  refine sorted_ord (swo_code fun v => TS.code B (c v)) hl hz (fun h2 h₁ a ha kk => ?_) fun out hs hb => ?_
  · refine tups_sortableO (s := { s with heap := h₁ }) hd (by omega) (fun v hm => ⟨(hp v hm).1.keeps fun b o e _ => (kk b o e).2, (hp v hm).2⟩) fun o e => ?_
    have e' : some o = some (seqObj "list" vs.toArray 0) := e.symm.trans ha
    cases e'
    intro c
    exact absurd (Value.type.inj c) (by decide)
  · exact h _ _ out hs hb.perm (fun b o e => sortedAll_old e) (Nat.le_succ _) (sortedAll_at s.heap vs out.toArray)
end
end SrtO
namespace L2
open PySem PySem.Spec PyProof.Rows
def rSortTL (K : PySem.W.Frag) (d : Nat) (B : Int) : List V → Hp → VK → Prop := fun vs H Q => ∃ (a : Addr) (xs : List V), vs = [V.ref a] ∧ SqL K H a xs ∧ (∀ x ∈ xs, ∃ ns, TupI K H x ns ∧ ns.length = d ∧ TS.Bd B ns) ∧
  ∀ (ys : List V) (p : Addr), ys.Perm xs → ys.Pairwise (fun x y => ∀ n m, TupI K H x n → TupI K H y m → TS.code B n ≤ TS.code B m) → H p = none → Q (.ref p) (upd H p (.lst ys))
/-- sorted(xs), xs a list of tuples of d ints in [0, B), any number of them: a new list of the same, ascending by code B -/
theorem cr_sortTL {X : Cx} {d : Nat} {B : Int} (hd : 1 ≤ d) : CallR X (.builtin "sorted") (rSortTL X.K d B) := by
  intro pins s σ H vs us Q I r h
  obtain ⟨a, xs, rfl, hs, hx, q⟩ := h
  obtain ⟨its, rv, hl, hz⟩ := I.list hs
  rw [Vals.ref1 r]
  obtain ⟨e1, e2⟩ := bkV_refs rv fun x m => by
    obtain ⟨ns, ⟨t, e, _⟩, _⟩ := hx x m
    exact ⟨t, e⟩
  refine SrtO.sorted_tupsO (d := d) (B := B) (c := TS.intsOf s.heap) hd hl.isList (by rw [← rv.length]; exact hz) (fun v hv => ?_) fun h' e out h1 h2 kp hge hn => ?_
  · obtain ⟨t, rfl⟩ := e2 v hv
    have hm : V.ref t ∈ xs := by
      rw [e1]
      exact List.mem_map.mpr ⟨_, hv, rfl⟩
    obtain ⟨ns, ⟨t', e, ht⟩, hn, hb⟩ := hx _ hm
    cases e
    have k := tupI_raw I ht
    rw [k.ints]
    exact ⟨k, hn, hb⟩
  · have h3 : ∀ u ∈ out, ∃ a, u = Value.ref a := fun u hu => e2 u (h2.mem_iff.mp hu)
    have hp : (out.map bkV).Perm xs := by
      rw [e1]
      exact h2.map bkV
    obtain ⟨n, hn⟩ := hn
    refine ⟨.ref e, upd H e (.lst (out.map bkV)), I.laid (t' := s.toks) kp hge ⟨by rw [hp.length_eq]; exact hz, out, n, bkV_vals h3, hn⟩, rfl, q _ e hp ?_ (I.hok.fresh hge)⟩
    rw [List.pairwise_map]
    refine List.Pairwise.imp (fun {u v} huv n m hn hm => ?_) h1
    obtain ⟨t, et, ht⟩ := hn
    obtain ⟨t', et', ht'⟩ := hm
    have eu := bkV_ref et
    have ev := bkV_ref et'
    have i1 : TS.intsOf s.heap u = n := by
      rw [eu]
      exact (tupI_raw I ht).ints
    have i2 : TS.intsOf s.heap v = m := by
      rw [ev]
      exact (tupI_raw I ht').ints
    rw [← i1, ← i2]
    have := of_decide_eq_false huv
    omega
end L2
namespace Pc
open PySem PySem.Spec PyProof.Rows L2 RZ
/-! ### the order of tuples of numbers, by code -/
abbrev zs (l : List Nat) : List Int := l.map fun i : Nat => (i : Int)
theorem zs_bd {l : List Nat} {B : Nat} (h : ∀ i ∈ l, i < B) : TS.Bd (B : Int) (zs l) := fun m hm => by
  obtain ⟨i, hi, rfl⟩ := List.mem_map.mp hm
  have := h i hi
  omega
theorem code_first {B : Nat} : ∀ {p q : List Nat} {i : Nat}, p.length = q.length → (∀ x ∈ p, x < B) → (∀ x ∈ q, x < B) → i < p.length → (∀ j, j < i → p.getD j 0 = q.getD j 0) → p.getD i 0 < q.getD i 0 → TS.code (B : Int) (zs p) < TS.code (B : Int) (zs q)
  | [], _, _, _, _, _, hi, _, _ => absurd hi (Nat.not_lt_zero _)
  | _ :: _, [], _, hl, _, _, _, _, _ => by simp at hl
  | x :: p, y :: q, 0, hl, h1, h2, _, _, h => by
    have h : x < y := h
    exact TS.code_lt (by simpa using hl) (zs_bd fun z hz => h1 z (List.mem_cons_of_mem _ hz)) (zs_bd fun z hz => h2 z (List.mem_cons_of_mem _ hz)) (show (x : Int) < (y : Int) by omega)
  | x :: p, y :: q, i + 1, hl, h1, h2, hi, he, h => by
    have e : x = y := he 0 (by omega)
    subst e
    refine (TS.code_same (by simpa using hl)).mpr (code_first (i := i) (by simpa using hl) (fun z hz => h1 z (List.mem_cons_of_mem _ hz)) (fun z hz => h2 z (List.mem_cons_of_mem _ hz)) (by simpa using hi) (fun j hj => he (j + 1) (by omega)) h)
theorem code_blw {n : Nat} {p q : List Nat} (hp : IsPair n p) (hq : IsPair n q) (h : Blw (List.range n) (fun x => p.getD x 0) (fun x => q.getD x 0)) : TS.code (n : Int) (zs p) < TS.code (n : Int) (zs q) := by
  obtain ⟨x, hx, h1, h2⟩ := h
  have xn := List.mem_range.mp hx
  exact code_first (by rw [hp.len, hq.len]) hp.lt hq.lt (by rw [hp.len]; exact xn) (fun j hj => h1 j (List.mem_range.mpr (by omega)) hj) h2
theorem zs_nv (l : List Nat) : (zs l).map V.int = nv l := by unfold nv; rw [List.map_map]; rfl
/-- what is sorted stays as it is -/
theorem sorted_same {K : PySem.W.Frag} {H : Hp} {B : Int} : ∀ {as : List Addr} {ls : List (List Nat)} {ys : List V}, Tups H as ls → ls.Pairwise (fun a b => TS.code B (zs a) < TS.code B (zs b)) → ys.Perm (as.map V.ref) →
    ys.Pairwise (fun x y => ∀ n m, TupI K H x n → TupI K H y m → TS.code B n ≤ TS.code B m) → ys = as.map V.ref
  | _, _, ys, .nil, _, hp, _ => List.perm_nil.mp hp
  | a :: as, l :: ls, ys, .cons ha ht, hasc, hp, hs => by
    have ti : ∀ {b : Addr} {k : List Nat}, H b = some (.tup (nv k)) → TupI K H (.ref b) (zs k) := fun e => ⟨_, rfl, by rw [zs_nv]; exact .inl (.inl e)⟩
    obtain ⟨h1, h2⟩ := List.pairwise_cons.mp hasc
    cases ys with
    | nil => have := hp.length_eq; simp at this
    | cons y ys =>
      have hy : y ∈ (a :: as).map V.ref := hp.mem_iff.mp (List.mem_cons_self ..)
      have e : y = .ref a := by
        rcases List.mem_cons.mp (show y ∈ V.ref a :: as.map V.ref from hy) with e | hy2
        · exact e
        · obtain ⟨b, hb, rfl⟩ := List.mem_map.mp hy2
          obtain ⟨i, hi, eb⟩ := List.getElem_of_mem hb
          obtain ⟨k, hk, ek⟩ := tups_get ht (show as[i]? = some b by rw [List.getElem?_eq_getElem hi, eb])
          have lt := h1 k (List.mem_of_getElem? hk)
          rcases List.mem_cons.mp (hp.mem_iff.mpr (show V.ref a ∈ (a :: as).map V.ref from List.mem_cons_self ..)) with e | hx
          · exact e.symm
          · have := (List.pairwise_cons.mp hs).1 _ hx _ _ (ti ek) (ti ha)
            omega
      subst e
      rw [sorted_same ht h2 (List.Perm.cons_inv (show (V.ref a :: ys).Perm (V.ref a :: as.map V.ref) from hp)) (List.pairwise_cons.mp hs).2]
      rfl
end Pc
namespace L2
open PySem PySem.Spec PyProof.Rows
/-! ### set(xs) of a list of ints, so that it can be sorted -/
section
variable {P : Program} {w : World} {A : Around} {E : Value → Shared → Prop} {s : Shared}
abbrev voidSet (w : World) : Obj := { cls := .type "set", dict := none, data := .set #[] 0 (.fresh 0 0 (!w.params.followText "set-order")) }
abbrev Filled (w : World) (s : Shared) (ns : List Int) (s2 : Shared) : Prop := ∃ (h' : Heap) (tk c : Nat), s2 = { s with heap := h', toks := tk } ∧ SetR w h' s.heap.objs.size (fun j => decide (j ∈ ns)) c ∧ c ≤ ns.length ∧ ∀ b o, s.heap.get? b = some o → h'.get? b = some o
theorem fill_set_lstI {l : Addr} {its : Array Value} (ns : List Int) (nh : A.handled = none) (pl : s.heap.IsList l its) (hi : IntsAre its.toList ns) (few : ns.length + 1 < scanBound) :
    codeAny (model P w) A (Code.call (Value.builtin "set.__init__") ⟨[.ref s.heap.objs.size] ++ [.ref l], []⟩) (wants (fun v s2 => v = .none ∧ Filled w s ns s2) E) { s with heap := s.heap.push (voidSet w) } := by
  have at0 : (s.heap.push (voidSet w)).get? s.heap.objs.size = some (voidSet w) := Heap.get?_push_size _ rfl
  have ty0 : Shared.TypeIs { s with heap := s.heap.push (voidSet w) } (.ref s.heap.objs.size) "set" := ⟨_, at0, rfl⟩
  refine codeAny_call_builtin F.called_set.init.plain F.entry_set_init (check_set_init_1 ty0 ?_)
  have x1 := F.sub_list_set
  have x2 := F.sub_list_frozenset
  have x3 : (Value.type "list" == Value.type "dict") = false := by decide
  have pl1 : (s.heap.push (voidSet w)).IsList l its := pl.push _
  obtain ⟨⟨cl, dd, dt, sl⟩, ho, hc, n, hd⟩ := pl1
  simp only at hc hd
  subst hc hd
  unfold Builtin.«set.__init__» noKeywords Builtin.Frozenset.updateFrom
  generalize hit : pyIter = it
  wp_walk
  subst hit
  have lt : l < s.heap.objs.size := by
    obtain ⟨o, e, _⟩ := pl
    exact Heap.lt_size e
  have sz : (s.heap.push (voidSet w)).objs.size = s.heap.objs.size + 1 := Heap.size_push ..
  have pl2 : (s.heap.push (voidSet w)).IsList l its := pl.push _
  have hd3 : A.in1.in1.handled = none := by simp [nh]
  refine wpAny_pyIter_list pl2 (wpAny_bind (wpAny_runValue ?_))
  have ne1 : l ≠ (s.heap.push (voidSet w)).objs.size := fun z => absurd (z.trans sz) (Nat.ne_of_lt (Nat.lt_succ_of_lt lt))
  have at1 : ((s.heap.push (voidSet w)).push { cls := .type "list_iterator", data := .fields #[.ref l, .int 0 0] }).get? s.heap.objs.size = some { cls := .type "set", dict := none, data := .set #[] 0 (.fresh 0 0 (!w.params.followText "set-order")) } := Heap.get?_push_of_some _ at0
  have len : its.size = ns.length := by
    rw [← hi.length, Array.length_toList]
  have hv : ∀ (i : Nat) (v : Value), its[i]? = some v → ∃ k t, ns[i]? = some k ∧ v = .int k t := fun i v e => by
    obtain ⟨t, et⟩ := PyProof.Rows.IntsAre.int_at hi i v (by rw [Array.getElem?_toList]; exact e)
    have lt' : i < ns.length := by rw [← len]; exact (Array.getElem?_eq_some_iff.mp e).1
    exact ⟨ns.getD i 0, t, by rw [List.getD_eq_getElem?_getD, List.getElem?_eq_getElem lt'] <;> rfl, et⟩
  refine set_update_ints ((Walks.list hd3 _ l ne1 its).toS) s.heap.objs.size (fun z => ?_) ns len few hv (its.size - 0) 0 _ (by omega) (Nat.zero_le _) ?goesOn ?setNow fun s2 c mv hc R => ?_
  case goesOn => exact ⟨⟨_, Heap.get?_push_size _ rfl, rfl, rfl⟩, pl2.push _⟩
  case setNow => exact ⟨0, Nat.le_refl 0, setR_new_at at1⟩
  · rw [sz] at z
    rcases List.mem_cons.mp z with z | z
    · exact absurd z (Nat.ne_of_lt (Nat.lt_succ_self _))
    · exact absurd (List.mem_singleton.mp z) (Nat.ne_of_gt lt)
  · obtain ⟨h2, g2, d2, tk2, os2⟩ := s2
    have eg : g2 = s.gens := mv.gens
    have ed : d2 = s.drawn := mv.drawn
    have eo : os2 = s.os := mv.os
    subst eg ed eo
    show wpAny _ _ _ _ _ _
    refine wpAny_pure ?_
    show wpAny _ _ (ret Value.none) _ _ _
    refine wpAny_pure ⟨rfl, h2, tk2, c, rfl, R, by omega, fun b o e => ?_⟩
    have b0 : b < s.heap.objs.size := Heap.lt_size e
    refine mv.heap b o (fun z => ?_) (Heap.get?_push_of_some _ (Heap.get?_push_of_some _ e))
    rw [sz] at z
    rcases List.mem_cons.mp z with z | z
    · exact absurd z (Nat.ne_of_lt b0)
    · exact absurd (List.mem_singleton.mp z) (Nat.ne_of_lt (Nat.lt_succ_of_lt b0))
theorem call_set_lstI {l : Addr} {its : Array Value} (ns : List Int) {Q : Value → Shared → Prop} (nh : A.handled = none) (pl : s.heap.IsList l its) (hi : IntsAre its.toList ns) (few : ns.length + 1 < scanBound) (q : ∀ s2, Filled w s ns s2 → Q (.ref s.heap.objs.size) s2) :
    wpAny (model P w) A (call (.type "set") [.ref l]) Q E s := by
  have K := F.called_set
  obtain ⟨c0, t0, mro⟩ := K.mro
  have made := K.made
  have sub := K.sub
  have a1 := K.notType
  have a2 := K.canCreate
  have a3 := F.typeCall_set_1 (.ref l)
  refine wpAny_call (codeAny_of_tree ?_)
  show wpAny _ _ (callAny (.type "set") _) _ _ _
  refine wpAny_pure ⟨Code.quiet_builtin _ (by decide +kernel), codeAny_builtin F.entry_type_call ?_⟩
  rw [Around.under_plain (weight_type_call_type "set" [.ref l] []) rfl]
  repeat (any_goals first | assumption | wp_step)
  have mk : codeAny (model P w) A.in1 (Code.call (Value.builtin "set.__new__") ⟨[.type "set", .ref l], []⟩) (wants (fun v s1 => v = .ref s.heap.objs.size ∧ s1 = { s with heap := s.heap.push (voidSet w) }) E) s := code_set_led1 (.ref l) ⟨rfl, rfl⟩
  refine codeAny_mono mk fun r s1 hr => ?_
  match r, hr with
  | .error _, hr => exact hr
  | .ok (.ret _), ⟨e1, e2⟩ =>
    subst e1 e2
    have at0 : (s.heap.push (voidSet w)).get? s.heap.objs.size = some (voidSet w) := Heap.get?_push_size _ rfl
    have ty0 : Shared.TypeIs { s with heap := s.heap.push (voidSet w) } (.ref s.heap.objs.size) "set" := ⟨_, at0, rfl⟩
    have i1 := K.init.lookup
    have i2 := K.init.bind (.ref s.heap.objs.size)
    repeat (any_goals first | assumption | wp_step)
    refine codeAny_mono (fill_set_lstI (E := E) (A := A.in1) ns (by simpa using nh) pl hi few) fun r2 s2 hr2 => ?_
    match r2, hr2 with
    | .error _, hr2 => exact hr2
    | .ok (.ret _), ⟨e1, f⟩ =>
      subst e1
      repeat (any_goals first | assumption | wp_step)
      exact q _ f
end
section
variable {X : Cx}
/-- set(xs), xs a list of ints -/
def rSetLI (K : PySem.W.Frag) (w : World) : List V → Hp → VK → Prop := fun xs H Q => ∃ (l : Addr) (ns : List Int), xs = [V.ref l] ∧ SqL K H l (ns.map V.int) ∧ ns.length ≤ 1000 ∧ ∀ (p : Addr) (c : Nat) (H' : Hp), H p = none → c ≤ ns.length → (∀ a o, H a = some o → H' a = some o) → H' p = some (SetO w p (fun j => decide (j ∈ ns)) c) → Q (.ref p) H'
theorem cr_setLI (hc : X.calm = true) : CallR X (.type "set") (rSetLI X.K X.w) := by
  intro pins s σ H xs us Q I r h
  obtain ⟨l, ns, rfl, hq, hl, q⟩ := h
  rw [Vals.ref1 r]
  obtain ⟨its, rv, pl, hz⟩ := I.list hq
  refine call_set_lstI ns (I.ok.hd hc) pl.isList (ints_of_vals rv) (by unfold scanBound; omega) fun s2 f => ?_
  obtain ⟨h2, tk, c, rfl, R, hcn, kp⟩ := f
  have nn := I.hok.fresh (Nat.le_refl s.heap.objs.size)
  exact ⟨.ref _, upd H s.heap.objs.size (SetO X.w s.heap.objs.size (fun j => decide (j ∈ ns)) c), I.laid (t' := tk) kp (Nat.le_refl _) (setO_new R), rfl, q _ c _ nn hcn (fun b x e => by rw [upd_ne (ne_of_none e nn)]; exact e) upd_same⟩
end
end L2
namespace L2
open PySem PySem.Spec PyProof.Rows
/-- sorted(xs) as cr_sortTL, the size and the bound told when it is read -/
def rSortTA (K : PySem.W.Frag) : List V → Hp → VK → Prop := fun vs H Q => ∃ (d : Nat) (B : Int), 1 ≤ d ∧ rSortTL K d B vs H Q
theorem cr_sortTA {X : Cx} : CallR X (.builtin "sorted") (rSortTA X.K) := by
  intro pins s σ H vs us Q I r h
  obtain ⟨d, B, hd, h⟩ := h
  exact cr_sortTL (d := d) (B := B) hd pins s σ H vs us Q I r h
end L2
namespace Pc
open PySem PySem.Spec PyProof.Rows L2 RZ
/-! ### one step of a comprehension -/
theorem nv_some {L : List Nat} {i : Nat} {v : V} (h : (nv L)[i]? = some v) : ∃ w, L[i]? = some w ∧ v = .int (w : Nat) := by
  unfold nv at h
  rw [List.getElem?_map] at h
  obtain ⟨w, hw, e⟩ := Option.map_eq_some_iff.mp h
  exact ⟨w, hw, e.symm⟩
theorem tups_next {H1 H' H2 : Hp} {D t : Addr} {us : List Addr} {QS : List (List Nat)} {i : Nat} {l : List Nat} (nD : H1 D = none) (sm : Same H1 H') (eD : H' D = some (.lst (us.map V.ref))) (hU : Tups H' us (QS.take i)) (hk : QS[i]? = some l) (hb : QS.length ≤ 100000)
    (s2 : Same H' H2) (nt : H' t = none) (et : H2 t = some (.tup (nv l))) : ∃ acc, H2 D = some (.lst acc) ∧ acc.length < sizeLine ∧
      (Same H1 (upd H2 D (.lst (acc ++ [.ref t]))) ∧ ∃ us' : List Addr, (upd H2 D (.lst (acc ++ [.ref t]))) D = some (.lst (us'.map V.ref)) ∧ Tups (upd H2 D (.lst (acc ++ [.ref t]))) us' (QS.take (i + 1))) := by
  have eD2 := s2 _ _ eD
  have tD : t ≠ D := fun z => by rw [z, eD] at nt; cases nt
  refine ⟨_, eD2, ?_, fun b' o hb' => ?_, us ++ [t], ?_, ?_⟩
  · rw [List.length_map, hU.length]; exact line_big (Nat.le_trans (List.length_take_le' _ _) hb)
  · rw [upd_ne (ne_of_none hb' nD)]; exact s2 _ _ (sm _ _ hb')
  · rw [upd_same, List.map_append]; rfl
  · rw [List.take_add_one, hk]
    exact tups_append (tups_keep (b := D) keep_upd eD2 (tups_same s2 hU)) (.cons (by rw [upd_ne tD]; exact et) .nil)
theorem nv_take1 {L : List Nat} {i x : Nat} (h : L[i]? = some x) : nv (L.take i) ++ [V.int (x : Nat)] = nv (L.take (i + 1)) := by
  rw [List.take_add_one, h]
  unfold nv
  rw [List.map_append]
  rfl
theorem nv_next {H1 H' H2 : Hp} {D : Addr} {L : List Nat} {i x : Nat} (nD : H1 D = none) (sm : Same H1 H') (eD : H' D = some (.lst (nv (L.take i)))) (hk : L[i]? = some x) (hb : L.length ≤ 100000)
    (s2 : Same H' H2) : ∃ acc, H2 D = some (.lst acc) ∧ acc.length < sizeLine ∧ (Same H1 (upd H2 D (.lst (acc ++ [.int (x : Nat)]))) ∧ (upd H2 D (.lst (acc ++ [.int (x : Nat)]))) D = some (.lst (nv (L.take (i + 1))))) := by
  have eD2 := s2 _ _ eD
  refine ⟨_, eD2, ?_, fun b' o hb' => ?_, ?_⟩
  · rw [nv_length]; exact line_big (Nat.le_trans (List.length_take_le' _ _) hb)
  · rw [upd_ne (ne_of_none hb' nD)]; exact s2 _ _ (sm _ _ hb')
  · rw [upd_same, nv_take1 hk]
theorem yes_next {H1 H' H2 : Hp} {D : Addr} {i : Nat} (nD : H1 D = none) (sm : Same H1 H') (eD : H' D = some (.lst (List.replicate i (.bl true)))) (hb : i ≤ 100000)
    (s2 : Same H' H2) : ∃ acc, H2 D = some (.lst acc) ∧ acc.length < sizeLine ∧ (Same H1 (upd H2 D (.lst (acc ++ [.bl true]))) ∧ (upd H2 D (.lst (acc ++ [.bl true]))) D = some (.lst (List.replicate (i + 1) (.bl true)))) := by
  have eD2 := s2 _ _ eD
  refine ⟨_, eD2, ?_, fun b' o hb' => ?_, ?_⟩
  · rw [List.length_replicate]; exact line_big hb
  · rw [upd_ne (ne_of_none hb' nD)]; exact s2 _ _ (sm _ _ hb')
  · rw [upd_same, List.replicate_succ']
/-- what a set of numbers gives, in order -/
theorem asc_nats {ns ms : List Int} {B : Nat} (hp : ns.Pairwise (· < ·)) (hm : ∀ k, k ∈ ns ↔ k ∈ ms) (hb : ∀ k ∈ ms, 0 ≤ k ∧ k < (B : Int)) (h0 : ms ≠ []) :
    ∃ L : List Nat, ns.map V.int = nv L ∧ L.length = ns.length ∧ L.Pairwise (· < ·) ∧ (∀ x ∈ L, x < B) ∧ L ≠ [] ∧ ∀ x : Nat, x ∈ L ↔ (x : Int) ∈ ms := by
  have h1 : ∀ k ∈ ns, ((k.toNat : Nat) : Int) = k ∧ k < (B : Int) := fun k hk => by
    have := hb k ((hm k).mp hk)
    exact ⟨by omega, this.2⟩
  refine ⟨ns.map Int.toNat, ?_, List.length_map _, ?_, fun x hx => ?_, fun e => ?_, fun x => ?_⟩
  · unfold nv
    rw [List.map_map]
    refine List.map_congr_left fun k hk => ?_
    show V.int k = V.int ((k.toNat : Nat) : Int)
    rw [(h1 k hk).1]
  · rw [List.pairwise_map]
    exact List.Pairwise.imp_of_mem (fun {a b} ha hb' hab => by
      have := (h1 a ha).1
      have := (h1 b hb').1
      omega) hp
  · obtain ⟨k, hk, rfl⟩ := List.mem_map.mp hx
    have := h1 k hk
    omega
  · obtain ⟨k, hk⟩ := List.exists_mem_of_ne_nil ms h0
    have : k.toNat ∈ ns.map Int.toNat := List.mem_map_of_mem ((hm k).mpr hk)
    rw [e] at this
    cases this
  · constructor
    · intro hx
      obtain ⟨k, hk, e⟩ := List.mem_map.mp hx
      rw [← e, (h1 k hk).1]
      exact (hm k).mp hk
    · intro hx
      have := List.mem_map_of_mem (f := Int.toNat) ((hm _).mpr hx)
      simpa using this
theorem pw_map_lt {L : List Nat} {R : List Nat → List Nat → Prop} {G : Nat → List Nat} (h : L.Pairwise (· < ·)) (hG : ∀ x ∈ L, ∀ y ∈ L, x < y → R (G x) (G y)) : (L.map G).Pairwise R := by
  rw [List.pairwise_map]
  exact List.Pairwise.imp_of_mem (fun {a b} ha hb hab => hG a ha b hb hab) h
/-- tuples of numbers below B are what sorted wants -/
theorem tups_srt {K : PySem.W.Frag} {H : Hp} {d B : Nat} : ∀ {as : List Addr} {ls : List (List Nat)}, Tups H as ls → (∀ l ∈ ls, l.length = d ∧ ∀ i ∈ l, i < B) → ∀ x ∈ as.map V.ref, ∃ ns, TupI K H x ns ∧ ns.length = d ∧ TS.Bd (B : Int) ns
  | _, _, .nil, _ => fun x hx => absurd hx List.not_mem_nil
  | a :: as, l :: ls, .cons h r, hb => fun x hx => by
    rcases List.mem_cons.mp (show x ∈ V.ref a :: as.map V.ref from hx) with e | hx
    · subst e
      obtain ⟨h1, h2⟩ := hb l List.mem_cons_self
      exact ⟨zs l, ⟨a, rfl, by rw [zs_nv]; exact .inl (.inl h)⟩, by rw [List.length_map]; exact h1, zs_bd h2⟩
    · exact tups_srt r (fun m hm => hb m (List.mem_cons_of_mem _ hm)) x hx
end Pc
namespace Pc
open PySem PySem.Spec PyProof.Rows L2 RZ
section
variable {P : Program} {w : World} {K : PySem.W.Frag} {mg : Str → Option Value} {base : Heap}
/-! ### no pairing has this number -/
def spPairX (C : Addr) : Sp := fun vs H _ E => ∃ (r : Nat) (u : Int), vs = [.int ((2 * r : Nat) : Int), .int u] ∧ r ≤ 10 ∧ ¬ (0 ≤ u ∧ u < ((dfac r : Nat) : Int)) ∧ Flies C "number" (.int u) H E
theorem okx_p_pairing_at (T : Env K mg) : FnOk P w K mg base (L2.CX P w) 3 T.f_p_pairing_at T.d_p_pairing_at ["size", "number"] (spPairX T.C_NoNumber) := by
  have G1 : FnOk P w K mg base CX0 1 T.f_p_pairings_many T.d_p_pairings_many ["size"] spMany := ok_p_pairings_many T
  refine T.F_p_pairing_at.okX sc_p_pairing_at (fun vs H Q E h => ?_) (fun cdv A outer s H vs Q E hr h => ?_)
  · obtain ⟨r, u, rfl, _⟩ := h
    rfl
  · obtain ⟨r, u, rfl, hr10, hu, hF⟩ := h
    refine ⟨_, pss_cons (ps_set (i := 2) sc_p_pairing_at.nd rfl (.inl rfl) (pe_call G1 (hr.mono (by decide)) (by rfl) T.g_p_pairings_many T.F_p_pairings_many.kp T.b_p_pairings_many .nil pass0 (pa_cons (pv 0) pa_nil))) <|
      pss_cons (ps_if (pt_not (pt_chain op_le op_lt pe_int (pv 1) (pv 2))) (pss_one (ps_raise rfl (takes_of rfl rfl rfl rfl) (pmk_e T.own_NoNumber bsL.fb T.iC_NoNumber T.tI_NoNumber (ok_i_NoNumber T) hr T.b_i_NoNumber pass0 (by rfl) T.gC_NoNumber (pa_cons (pv 1) pa_nil)))) pss_nil) pss_never, ?_⟩
    refine ⟨_, rfl, r, rfl, hr10, ?_⟩
    refine ⟨_, rfl, 0, u, rfl, rfl, _, rfl, ?_⟩
    by_cases c : (0 : Int) ≤ u
    · rw [decide_eq_true c]
      refine iteT ⟨_, rfl, u, _, rfl, rfl, _, rfl, ?_⟩
      rw [decide_eq_false (show ¬ u < ((dfac r : Nat) : Int) from fun z => hu ⟨c, z⟩)]
      exact iteY rfl ⟨_, rfl, raised1 hF⟩
    · rw [decide_eq_false c]
      exact iteF ⟨_, rfl, iteY rfl ⟨_, rfl, raised1 hF⟩⟩
end
end Pc
namespace L2
open PySem PySem.Spec PyProof.Rows PySem.W
/-! ### a > b and sorted(xs) for data that are alike -/
def rGtD (K : PySem.W.Frag) : R2 := fun x y H Q => ∃ d e, Dp K H x d ∧ Dp K H y e ∧ alike d e = true ∧ d ≠ .none ∧ d.depth ≤ 64 ∧ Q (.bl (dataLt e d)) H
theorem op_gtD {X : Cx} (hu : X.A.units + 64 < cLine) : OpR X (compareOp .Gt) (rGtD X.K) := by
  intro pins s σ H x y v u Q I rx ry h
  obtain ⟨d, e, hd, he, ha, hn, hz, q⟩ := h
  obtain ⟨as, r1⟩ := Dp.reads I d x v hd rx
  obtain ⟨bs, r2⟩ := Dp.reads I e y u he ry
  exact gt_data r1 r2 ha hn (by omega) ⟨.bl _, H, I, rfl, q⟩
def rLtD (K : PySem.W.Frag) : R2 := fun x y H Q => ∃ d e, Dp K H x d ∧ Dp K H y e ∧ alike d e = true ∧ d ≠ .none ∧ d.depth ≤ 64 ∧ Q (.bl (dataLt d e)) H
theorem op_ltD {X : Cx} (hu : X.A.units + 64 < cLine) : OpR X (compareOp .Lt) (rLtD X.K) := by
  intro pins s σ H x y v u Q I rx ry h
  obtain ⟨d, e, hd, he, ha, hn, hz, q⟩ := h
  obtain ⟨as, r1⟩ := Dp.reads I d x v hd rx
  obtain ⟨bs, r2⟩ := Dp.reads I e y u he ry
  exact lt_data r1 r2 ha hn (by omega) ⟨.bl _, H, I, rfl, q⟩
end L2
namespace Pc
open PySem PySem.Spec PyProof.Rows L2 RZ PySem.W
theorem alike_nd : ∀ {p q : List Nat}, p.length = q.length → alikeAll (nd p) (nd q) = true
  | [], [], _ => by show alikeAll [] [] = true; simp [alikeAll]
  | [], _ :: _, h => by simp at h
  | _ :: _, [], h => by simp at h
  | x :: p, y :: q, h => by
    show alikeAll (.int (x : Int) :: nd p) (.int (y : Int) :: nd q) = true
    rw [alikeAll, alike_nd (p := p) (q := q) (by simpa using h)]
    simp [alike]
theorem alike_td {p q : List Nat} (h : p.length = q.length) : alike (td p) (td q) = true := by
  show alike (.tuple (nd p)) (.tuple (nd q)) = true
  rw [alike]
  exact alike_nd h
theorem lt_first : ∀ {p q : List Nat} {i : Nat}, p.length = q.length → i < p.length → (∀ j, j < i → p.getD j 0 = q.getD j 0) → p.getD i 0 < q.getD i 0 → PyProof.Rows.lexLt itemOrd (keyToksAll (nd p)) (keyToksAll (nd q)) = true
  | [], _, _, _, hi, _, _ => absurd hi (Nat.not_lt_zero _)
  | _ :: _, [], _, hl, _, _, _ => by simp at hl
  | x :: p, y :: q, 0, _, _, _, h => by
    have h : x < y := h
    show PyProof.Rows.lexLt itemOrd (keyToksAll (.int (x : Int) :: nd p)) (keyToksAll (.int (y : Int) :: nd q)) = true
    rw [dataLt_all_no (by simp [alike]) (by rw [PyData.eqv]; exact decide_eq_false (by omega)), dataLt_int]
    exact decide_eq_true (by omega)
  | x :: p, y :: q, i + 1, hl, hi, he, h => by
    have e : x = y := he 0 (by omega)
    subst e
    show PyProof.Rows.lexLt itemOrd (keyToksAll (.int (x : Int) :: nd p)) (keyToksAll (.int (x : Int) :: nd q)) = true
    rw [dataLt_all_yes (by simp [alike]) (by rw [PyData.eqv]; exact decide_eq_true rfl)]
    exact lt_first (i := i) (by simpa using hl) (by simpa using hi) (fun j hj => he (j + 1) (by omega)) h
theorem lt_blw {n : Nat} {p q : List Nat} (hp : IsPair n p) (hq : IsPair n q) (h : Blw (List.range n) (fun x => p.getD x 0) (fun x => q.getD x 0)) : dataLt (td p) (td q) = true := by
  obtain ⟨x, hx, h1, h2⟩ := h
  have xn := List.mem_range.mp hx
  show dataLt (.tuple (nd p)) (.tuple (nd q)) = true
  rw [dataLt_tuple]
  exact lt_first (by rw [hp.len, hq.len]) (by rw [hp.len]; exact xn) (fun j hj => h1 j (List.mem_range.mpr (by omega)) hj) h2
end Pc
namespace Pc
open PySem PySem.Spec PyProof.Rows L2 RZ
theorem fi_tupsW {ls : List (List Nat)} (h : ls.length ≤ 200 ∧ ∀ l ∈ ls, l.length ≤ 100 ∧ ∀ i ∈ l, i < 2 ^ 60) : Fi 3 (.list (ls.map td)) := (fine_tds (n := 200) (m := 100) h.2 h.1 (by decide) (by decide)).mono (by decide) (by decide)
end Pc
namespace Pc
open PySem PySem.Spec PyProof.Rows L2 RZ
section
variable {P : Program} {w : World} {K : PySem.W.Frag} {mg : Str → Option Value} {base : Heap}
def spRefused02 : Sp := fun vs H Q _ => ∃ (r : Nat) (u : Int), vs = [.int ((2 * r : Nat) : Int), .int u] ∧ r ≤ 10 ∧ ¬ (0 ≤ u ∧ u < ((dfac r : Nat) : Int)) ∧ ∀ H', Same H H' → Q (.int u) H'
theorem ok_refused (T : Env K mg) : FnOk P w K mg base CX0 4 T.f_refused T.d_refused ["_law_count", "_law_far"] spRefused02 := by
  have GX : FnOk P w K mg base (L2.CX P w) 3 T.f_p_pairing_at T.d_p_pairing_at ["size", "number"] (spPairX T.C_NoNumber) := okx_p_pairing_at T
  refine T.F_refused.ok sc_refused (fun vs H Q E h => ?_) (fun cdv A outer s H vs Q E hr h => ?_)
  · obtain ⟨r, u, rfl, _⟩ := h
    rfl
  · obtain ⟨r, u, rfl, hr10, hu, q⟩ := h
    have h1 := hr.mono (show 1 ≤ 3 by decide)
    have h2 := hr.mono (show 2 ≤ 3 by decide)
    have sH : Same H H := Same.refl _
    refine ⟨_, pss_cons (ps_set (i := 2) sc_refused.nd rfl (.inl rfl) pe_non) <|
      pss_cons (ps_try_kept (i := 3) (cs := [.ref T.C_NoNumber, .ref T.C_NoDeed, .ref T.C_NoPerson]) rfl rfl rfl sc_refused.nd rfl rfl (.cons ⟨_, _, rfl, by rfl, by decide, .inl T.gC_NoNumber⟩ (.cons ⟨_, _, rfl, by rfl, by decide, .inl T.gC_NoDeed⟩ (.cons ⟨_, _, rfl, by rfl, by decide, .inl T.gC_NoPerson⟩ .nil))) (by show 3 ≤ 1000; decide) (fun W pn xe tk _ => pss_one (ps_expr (pe_callS GX hr (by rfl) T.g_p_pairing_at T.F_p_pairing_at.kp T.b_p_pairing_at (fun σ => passAt tk σ) (pa_cons (pv 0) (pa_cons (pv 1) pa_nil))))) (fun a oe pn => pss_one (ps_set (i := 2) sc_refused.nd rfl (.inl rfl) (pv 3)))) <|
      pss_cons (ps_set (i := 4) sc_refused.nd rfl (.inl rfl) (pe_and (pe_callB call_isk (by rfl) T.n_isinstance (by decide +kernel) (pa_cons (pv 2) (pa_cons (pe_glob (v := .ref T.C_NoNumber) (by rfl) T.gC_NoNumber rfl) pa_nil))) (pe_one (pe_callB call_isk (by rfl) T.n_isinstance (by decide +kernel) (pa_cons (pv 2) (pa_cons (pe_bltn (v := .ty "LookupError") (by rfl) T.n_LookupError (by decide +kernel) rfl) pa_nil)))))) <|
      pss_one (ps_ret (pe_ifExp (PW.pt (pw_and (pt_val (pv 4)) (pw_and1 (pt_not (pt_val (pe_callB call_iskT (by rfl) T.n_isinstance (by decide +kernel) (pa_cons (pv 2) (pa_cons (pe_tup (pa_cons (pe_glob (v := .ref T.C_NoDeed) (by rfl) T.gC_NoDeed rfl) (pa_cons (pe_glob (v := .ref T.C_NoPerson) (by rfl) T.gC_NoPerson rfl) (pa_cons (pe_bltn (v := .ty "IndexError") (by rfl) T.n_IndexError (by decide +kernel) rfl) (pa_cons (pe_bltn (v := .ty "KeyError") (by rfl) T.n_KeyError (by decide +kernel) rfl) pa_nil))))) pa_nil)))))))) (pe_kf (pv 2)) pe_non)), ?_⟩
    first | refine st_set [some (.int ((2 * r) : Nat)), some (.int (u)), some (.non), none, none] ?_ rfl | refine st_eq [some (.int ((2 * r) : Nat)), some (.int (u)), some (.non), none, none] ?_ rfl
    refine ⟨_, rfl, _, rfl, r, u, rfl, hr10, hu, kept1 (hits_of [true, false, false] rfl (.cons T.ee_NoNumber (.cons T.ex_NoNumber_NoDeed (.cons T.ex_NoNumber_NoPerson .nil)))) fun d1 H2 x3 s4 n5 ed6 n7 ne8 => ⟨_, rfl, ?_⟩⟩
    have hK9 : Kept (upd H2 x3 (exk x3 (.ref T.C_NoNumber) (some d1))) x3 T.C_NoNumber (some d1) := .mk1 ed6 n7
    have s10 : Same H (upd H2 x3 (exk x3 (.ref T.C_NoNumber) (some d1))) := s4.trans (same_new n7)
    replace ed6 : upd H2 x3 (exk x3 (.ref T.C_NoNumber) (some d1)) d1 = _ := same_new n7 _ _ ed6
    replace sH := sH.trans s10
    refine st_set [some (.int ((2 * r) : Nat)), some (.int (u)), some (.ref x3), some (.ref x3), none] ?_ rfl
    refine st_kept [some (.int ((2 * r) : Nat)), some (.int (u)), some (.ref x3), none, none] ?_ rfl
    refine ⟨_, rfl, x3, _, _, _, _, _, rfl, hK9, T.kpt_NoNumber, .own _, T.kk_NoNumber, _, rfl, iteY rfl ?_⟩
    refine ⟨_, rfl, x3, _, _, _, _, _, rfl, hK9, T.kpt_NoNumber, .ty _, T.kb_NoNumber_LookupError, ?_⟩
    first | refine st_set [some (.int ((2 * r) : Nat)), some (.int (u)), some (.ref x3), none, some (.bl (true))] ?_ rfl | refine st_eq [some (.int ((2 * r) : Nat)), some (.int (u)), some (.ref x3), none, some (.bl (true))] ?_ rfl
    refine ⟨_, rfl, _, rfl, iteY rfl ?_⟩
    refine ⟨_, rfl, (by show 4 ≤ sizeLine; decide), fun l12 nl12 => ?_⟩
    have s13 : Same (upd H2 x3 (exk x3 (.ref T.C_NoNumber) (some d1))) (upd (upd H2 x3 (exk x3 (.ref T.C_NoNumber) (some d1))) l12 (.tup [.ref T.C_NoDeed, .ref T.C_NoPerson, .ty "IndexError", .ty "KeyError"])) := same_new nl12
    have e_l12 : upd (upd H2 x3 (exk x3 (.ref T.C_NoNumber) (some d1))) l12 (.tup [.ref T.C_NoDeed, .ref T.C_NoPerson, .ty "IndexError", .ty "KeyError"]) l12 = some (.tup [.ref T.C_NoDeed, .ref T.C_NoPerson, .ty "IndexError", .ty "KeyError"]) := upd_same
    revert s13 e_l12; generalize upd (upd H2 x3 (exk x3 (.ref T.C_NoNumber) (some d1))) l12 (.tup [.ref T.C_NoDeed, .ref T.C_NoPerson, .ty "IndexError", .ty "KeyError"]) = H14; intro s13 e_l12
    replace hK9 := hK9.same s13
    replace ed6 := s13 _ _ ed6
    replace sH := sH.trans s13
    refine ⟨x3, _, _, l12, _, _, _, rfl, hK9, T.kpt_NoNumber, e_l12, (.cons (.own _) (.cons (.own _) (.cons (.ty _) (.cons (.ty _) .nil)))), (kit_cons T.ki_NoNumber_NoDeed (kit_cons T.ki_NoNumber_NoPerson (kit_cons T.kb_NoNumber_IndexError (kit_cons T.kb_NoNumber_KeyError kit_nil)))), _, rfl, iteY rfl ?_⟩
    exact ⟨_, rfl, x3, _, _, _, _, rfl, hK9.1, T.kpt_NoNumber, T.no_NoNumber, ed6, rfl, q _ sH⟩
end
end Pc
namespace Pc
open PySem PySem.Spec PyProof.Rows L2 RZ
/-! ### pairings among values -/
theorem below_tdn {n : Nat} : ∀ {ds : List PyData}, ds.all (belowB n) = true → ds = nd (ds.map natOf) ∧ ∀ x ∈ ds.map natOf, x < n
  | [], _ => ⟨rfl, fun x hx => by simp at hx⟩
  | d :: ds, e => by
    rw [List.all_cons, Bool.and_eq_true] at e
    obtain ⟨e1, e2⟩ := e
    obtain ⟨g1, g2⟩ := below_tdn e2
    cases d with
    | int i =>
      unfold belowB at e1
      rw [Bool.and_eq_true, decide_eq_true_iff, decide_eq_true_iff] at e1
      refine ⟨?_, fun x hx => ?_⟩
      · show PyData.int i :: ds = PyData.int ((i.toNat : Nat) : Int) :: nd (ds.map natOf)
        rw [← g1, show ((i.toNat : Nat) : Int) = i by omega]
      · rcases List.mem_cons.mp (show x ∈ i.toNat :: ds.map natOf from hx) with z | z
        · omega
        · exact g2 x z
    | none => cases e1
    | bool => cases e1
    | str => cases e1
    | list => cases e1
    | tuple => cases e1
    | dict => cases e1
theorem is_pair_yes {d : PyData} (h : isPairB d = true) : ∃ q, d = td q ∧ IsPair q.length q ∧ 0 < q.length := by
  cases d with
  | tuple ds =>
    have h : (joinB ds && decide (0 < ds.length)) = true := h
    rw [Bool.and_eq_true, decide_eq_true_iff] at h
    obtain ⟨h1, h2⟩ := h
    unfold joinB at h1
    rw [Bool.and_eq_true] at h1
    obtain ⟨g1, g2⟩ := below_tdn h1.1
    have hl : (ds.map natOf).length = ds.length := List.length_map _
    refine ⟨ds.map natOf, by show _ = PyData.tuple (nd _); rw [← g1], ⟨rfl, fun x hx => ?_⟩, by omega⟩
    rw [hl] at hx ⊢
    have hp := (List.all_eq_true.mp h1.2) x (List.mem_range.mpr hx)
    unfold pairB at hp
    rw [Bool.and_eq_true, decide_eq_true_iff] at hp
    have e1 : (ds.map natOf)[x]? = some ((ds.map natOf).getD x 0) := by rw [List.getD_eq_getElem?_getD, List.getElem?_eq_getElem (by omega)]; rfl
    have l1 := g2 _ (List.mem_of_getElem? e1)
    refine ⟨_, e1, l1, fun z => ?_, ?_⟩
    · have := hp.1
      rw [z, decide_eq_true rfl] at this
      exact absurd this (by decide)
    · have := hp.2
      rw [List.getD_eq_getElem?_getD (i := (ds.map natOf).getD x 0), List.getElem?_eq_getElem (by omega)] at this
      rw [List.getElem?_eq_getElem (by omega)]
      exact congrArg some this
  | none => cases h
  | bool => cases h
  | int => cases h
  | str => cases h
  | list => cases h
  | dict => cases h
theorem is_pair_td {n : Nat} {q : List Nat} (h : IsPair n q) (h0 : 0 < n) : isPairB (td q) = true := by
  have hm : (nd q).map natOf = q := by
    unfold nd
    rw [List.map_map]
    conv => rhs; rw [← List.map_id q]
    exact List.map_congr_left fun x _ => by show ((x : Int)).toNat = x; omega
  have hl : (nd q).length = n := by unfold nd; rw [List.length_map, h.len]
  show (joinB (nd q) && decide (0 < (nd q).length)) = true
  rw [decide_eq_true (by omega), Bool.and_true]
  unfold joinB
  rw [hm, hl, Bool.and_eq_true]
  refine ⟨List.all_eq_true.mpr fun d hd => ?_, List.all_eq_true.mpr fun x hx => ?_⟩
  · unfold nd at hd
    obtain ⟨x, hx, rfl⟩ := List.mem_map.mp hd
    have := h.lt x hx
    show (decide ((0 : Int) ≤ (x : Int)) && decide ((x : Int) < (n : Int))) = true
    rw [decide_eq_true (by omega), decide_eq_true (by omega)]; rfl
  · have hx := List.mem_range.mp hx
    have := h.d hx
    unfold pairB
    rw [decide_eq_false this.2.1, decide_eq_true this.2.2.1]; rfl
theorem td_inj {p q : List Nat} (h : td p = td q) : p = q := by
  have := eqv_td p q
  rw [h, eqv_td q q, decide_eq_true rfl] at this
  exact of_decide_eq_true this.symm
open Classical in
/-- whether a value parts two sheets -/
noncomputable def shP (f g : List Nat) (n : Nat) (d : PyData) : Bool := decide (∃ q, d = td q ∧ IsPair n q ∧ rd f q n ≠ rd g q n)
open Classical in
theorem shP_yes {f g q : List Nat} {n : Nat} (hq : IsPair n q) (h : rd f q n ≠ rd g q n) : shP f g n (td q) = true := by
  unfold shP; exact decide_eq_true ⟨q, rfl, hq, h⟩
open Classical in
theorem shP_no {f g : List Nat} {n : Nat} {d : PyData} (h : ∀ q, d = td q → ¬ IsPair n q) : shP f g n d = false := by
  unfold shP
  exact decide_eq_false fun ⟨q, e, hq, _⟩ => h q e hq
theorem shP_td {f g q : List Nat} {n : Nat} (hq : IsPair n q) : shP f g n (td q) = !decide (rd f q n = rd g q n) := by
  by_cases h : rd f q n = rd g q n
  · rw [decide_eq_true h]
    unfold shP
    refine @decide_eq_false _ (_) ?_
    rintro ⟨p, e, _, ne⟩
    rw [← td_inj e] at ne
    exact ne h
  · rw [decide_eq_false h, shP_yes hq h]; rfl
end Pc
namespace Pc
open PySem PySem.Spec PyProof.Rows L2 RZ
theorem pat_lt {r k1 k2 : Nat} (h : k1 < k2) (hk : k2 < dfac r) : Blw (List.range (2 * r)) (fun x => (pat r k1).getD x 0) (fun x => (pat r k2).getD x 0) := by
  have h1 := pat_pair (show k1 < dfac r by omega)
  have h2 := pat_pair hk
  refine rk_order r List.length_range List.pairwise_lt_range (pair_clo h1) (pair_clo h2) ?_
  have e1 := prk_pat (show k1 < dfac r by omega)
  have e2 := prk_pat hk
  show prk r (pat r k1) < prk r (pat r k2)
  omega
end Pc
namespace Pc
open PySem PySem.Spec PyProof.Rows L2 RZ
section
variable {P : Program} {w : World} {K : PySem.W.Frag} {mg : Str → Option Value} {base : Heap}
def spFew02 : Sp := fun vs H Q _ => ∃ (b : Addr) (n : Nat), vs = [.ref b] ∧ Box (n + 30) H b ∧ ∀ H', Keep b H H' → Box n H' b → Q (.bl true) H'
theorem kw_p_pairing_at_10 (T : Env K mg) : ∀ (s : Shared) (ws : List Value), ws.length = (["number", "size"] : List Str).length → BindsTo s T.d_p_pairing_at ⟨[], (["number", "size"] : List Str).zip ws⟩ ((["size", "number"] : List Str).zip (pm10 ws)) :=
  kw_to T.F_p_pairing_at fun _ _ _ _ _ _ ws hl => match ws, hl with | [_, _], _ => rfl
theorem kw_p_pairing_number_0 (T : Env K mg) : ∀ (s : Shared) (ws : List Value), ws.length = (["pairing"] : List Str).length → BindsTo s T.d_p_pairing_number ⟨[], (["pairing"] : List Str).zip ws⟩ ((["pairing"] : List Str).zip (pm0 ws)) :=
  kw_to T.F_p_pairing_number fun _ _ _ _ _ _ ws hl => match ws, hl with | [_], _ => rfl
theorem ok_few_right (T : Env K mg) : FnOk P w K mg base CX0 7 T.f_few_right T.d_few_right ["_law_box_here"] spFew02 := by
  have GT : FnOk P w K mg base CX0 1 T.f_take T.d_take ["_law_box_here", "_law_span"] spTake := ok_take T
  have GE : FnOk P w K mg base CX0 5 T.f_same T.d_same ["_law_found", "_law_due"] (spSame K 4) := (ok_same T 4).mono (by decide)
  have Gev : FnOk P w K mg base CX0 5 T.f_every T.d_every ["_law_people"] spEveryA := ok_everyA T
  have Goc : FnOk P w K mg base CX0 1 T.f_of_couples T.d_of_couples ["_law_couples_now", "_law_count"] spOfCouples := ok_of_couples T
  have Gpm : FnOk P w K mg base CX0 1 T.f_p_pairings_many T.d_p_pairings_many ["size"] spMany := ok_p_pairings_many T
  have Gpa : FnOk P w K mg base CX0 2 T.f_p_pairing_at T.d_p_pairing_at ["size", "number"] spPairingAt := ok_p_pairing_at T
  have Gpn : FnOk P w K mg base CX0 1 T.f_p_pairing_number T.d_p_pairing_number ["pairing"] (spPNum K) := ok_p_pairing_number T
  refine T.F_few_right.ok sc_few_right (fun vs H Q E h => ?_) (fun cdv A outer s H vs Q E hr h => ?_)
  · obtain ⟨b, n, rfl, _⟩ := h
    rfl
  · obtain ⟨b, n, rfl, hB, q⟩ := h
    have h1 := hr.mono (show 1 ≤ 6 by decide)
    have h2 := hr.mono (show 2 ≤ 6 by decide)
    have h3 := hr.mono (show 3 ≤ 6 by decide)
    have h4 := hr.mono (show 4 ≤ 6 by decide)
    have h5 := hr.mono (show 5 ≤ 6 by decide)
    have kH : Keep b H H := Keep.refl _ _
    refine ⟨_, pss_cons (ps_set (i := 1) sc_few_right.nd rfl (.inr rfl) (pe_op op_add pe_int (pe_op op_mul pe_int (pe_call GT h1 (by rfl) T.g_take T.F_take.kp T.b_take .nil pass0 (pa_cons (pv 0) (pa_cons pe_int pa_nil)))))) <|
      pss_cons (ps_set (i := 2) sc_few_right.nd rfl (.inr rfl) (pe_lc (own := [("_law_some", 5)]) (g := gName 5) (tt := tYes) (te := tCall spOfCouples [] E0 (tCons (tVar 5) (tCons (tVar 1) tNil))) rfl sc_few_right.nd (pi_list (pe_call Gev h5 (by rfl) T.g_every T.F_every.kp T.b_every .nil pass0 (pa_cons (pe_listRg rfl (by rfl) T.n_list (prg_1 (by rfl) T.n_range (pv 1))) pa_nil))) (blkOk_by (N := N_few_right) (sc := defScope s_few_right) (by decide +kernel)) (fun _ _ _ _ _ => pg_name (i := 5) sc_few_right.nd rfl (.inl rfl)) (fun _ _ _ _ _ => pts_nil) (fun _ _ _ _ _ => (pe_call Goc h1 (by rfl) T.g_of_couples T.F_of_couples.kp T.b_of_couples .nil pass0 (pa_cons (pv 5) (pa_cons (pv 1) pa_nil)))))) <|
      pss_cons (ps_if (PW.pt (pw_or (pt_cmpR (op_neD hr.units) (pv 2) (pe_callB cr_sortTA (by rfl) T.n_sorted (by decide +kernel) (pa_cons (pv 2) pa_nil)) (nomark _)) (pw_or1 (pt_not (pt_val (pe_call GE h5 (by rfl) T.g_same T.F_same.kp T.b_same .nil pass0 (pa_cons (pe_call Gpm h1 (by rfl) T.g_p_pairings_many T.F_p_pairings_many.kp T.b_p_pairings_many .nil pass0 (pa_cons (pv 1) pa_nil)) (pa_cons (pe_callB call_len_seq (by rfl) T.n_len PySem.boot_len (pa_cons (pv 2) pa_nil)) pa_nil)))))))) (pss_one (ps_ret pe_bl)) pss_nil) <|
      pss_cons (ps_for PassesOwn.never rfl (pi_list (pe_callB (cr_sortedSet rfl) (by rfl) T.n_sorted (by decide +kernel) (pa_cons (pe_callTy (cr_setLI rfl) (by rfl) T.n_set (by decide +kernel) (pa_cons (pe_op op_cat (pe_lst (pa_cons pe_int (pa_cons (pe_op op_sub (pe_callB call_len_seq (by rfl) T.n_len PySem.boot_len (pa_cons (pv 2) pa_nil)) pe_int) pa_nil))) (pe_lc (own := [("_law_turn", 6)]) (g := gName 6) (tt := tYes) (te := tCall spTake [] E0 (tCons (tVar 0) (tCons (tCB (fun xs H Q => ∃ p ys, xs = [.ref p] ∧ (SqL K H p ys ∨ SqT K H p ys) ∧ Q (.int ys.length) H) (tCons (tVar 2) tNil)) tNil))) rfl sc_few_right.nd (pi_range1 (by rfl) T.n_range (pa_cons pe_int pa_nil)) (blkOk_by (N := N_few_right) (sc := defScope s_few_right) (by decide +kernel)) (fun _ _ _ _ _ => pg_name (i := 6) sc_few_right.nd rfl (.inl rfl)) (fun _ _ _ _ _ => pts_nil) (fun _ _ _ _ _ => (pe_call GT h1 (by rfl) T.g_take T.F_take.kp T.b_take .nil pass0 (pa_cons (pv 0) (pa_cons (pe_callB call_len_seq (by rfl) T.n_len PySem.boot_len (pa_cons (pv 2) pa_nil)) pa_nil)))))) pa_nil)) pa_nil))) (pg_name (i := 3) sc_few_right.nd rfl (.inl rfl)) (pss_cons (ps_set (i := 4) sc_few_right.nd rfl (.inl rfl) (pe_lst (pa_cons (pe_call Gpa h2 (by rfl) T.g_p_pairing_at T.F_p_pairing_at.kp T.b_p_pairing_at .nil pass0 (pa_cons (pv 1) (pa_cons (pv 3) pa_nil))) (pa_cons (pe_kw (gV := pm10) Gpa h2 (by rfl) T.g_p_pairing_at T.F_p_pairing_at.kp (kw_p_pairing_at_10 T) (rel_pm10) pass0 (pk_cons (pv 3) (pk_cons (pv 1) pk_nil))) pa_nil)))) <|
      pss_cons (ps_set (i := 4) sc_few_right.nd rfl (.inl rfl) (pe_op op_cat (pv 4) (pe_lst (pa_cons (pe_call Gpn h1 (by rfl) T.g_p_pairing_number T.F_p_pairing_number.kp T.b_p_pairing_number .nil pass0 (pa_cons (pe_ix ix_list (pv 2) (pv 3) (fun _ _ => rfl)) pa_nil)) (pa_cons (pe_kw (gV := pm0) Gpn h1 (by rfl) T.g_p_pairing_number T.F_p_pairing_number.kp (kw_p_pairing_number_0 T) (rel_pm0) pass0 (pk_cons (pe_callTy call_list_of (by rfl) T.n_list (by decide +kernel) (pa_cons (pe_ix ix_list (pv 2) (pv 3) (fun _ _ => rfl)) pa_nil)) pk_nil)) pa_nil))))) <|
      pss_one (ps_if (pt_not (pt_val (pe_call GE h5 (by rfl) T.g_same T.F_same.kp T.b_same .nil pass0 (pa_cons (pv 4) (pa_cons (pe_lst (pa_cons (pe_ix ix_list (pv 2) (pv 3) (fun _ _ => rfl)) (pa_cons (pe_ix ix_list (pv 2) (pv 3) (fun _ _ => rfl)) (pa_cons (pv 3) (pa_cons (pv 3) pa_nil))))) pa_nil))))) (pss_one (ps_ret pe_bl)) pss_nil))) <|
      pss_one (ps_ret pe_bl), ?_⟩
    refine ⟨_, rfl, b, n + 29, 4, rfl, hB.mono (by omega), by decide, by decide, fun r1 H2 ra3 rb4 hB5 k6 => ?_⟩
    obtain ⟨y_hy7, hy7⟩ := hB.lst
    clear hB
    have hB := hB5
    replace kH := kH.trans k6
    refine ⟨_, _, rfl, rfl, .inl ⟨by omega, by omega⟩, _, _, rfl, rfl, ?_⟩
    have hn : 2 + 2 * r1.toNat ≤ 8 := by omega
    have hn2 : 2 ≤ 2 + 2 * r1.toNat := by omega
    have hev : (2 + 2 * r1.toNat) % 2 = 0 := by omega
    rw [show (fun i j => V.int (i + j)) 2 ((fun i j => i * j) 2 r1) = V.int ((2 + 2 * r1.toNat : Nat) : Int) from congrArg V.int (show (2 + 2 * r1 : Int) = _ by omega)]
    revert hn hn2 hev; generalize 2 + 2 * r1.toNat = N; intro hn hn2 hev
    obtain ⟨r, rfl⟩ : ∃ r, N = 2 * r := ⟨N / 2, by omega⟩
    first | refine st_set [some (.ref b), some (.int ((2 * r) : Nat)), none, none, none, none, none] ?_ rfl | refine st_eq [some (.ref b), some (.int ((2 * r) : Nat)), none, none, none, none, none] ?_ rfl | refine st_eq (t := tSeq _ _) [some (.ref b), some (.int ((2 * r) : Nat)), none, none, none, none, none] ?_ rfl
    refine ⟨_, rfl, _, rfl, RgOk.of_le (by decide) (by omega) (by decide) (by omega), fun l0 nl0 => ?_⟩
    rw [rg_nv]
    have ne_l0 : l0 ≠ b := (hB.ne_new nl0).symm
    have s8 : Same H2 (upd H2 l0 (.lst (nv (List.range (2 * r))))) := same_new nl0
    have e_l0 : upd H2 l0 (.lst (nv (List.range (2 * r)))) l0 = some (.lst (nv (List.range (2 * r)))) := upd_same
    revert s8 e_l0; generalize upd H2 l0 (.lst (nv (List.range (2 * r)))) = H9; intro s8 e_l0
    replace hB := hB.same s8
    replace kH := kH.trans (Keep.of_same s8)
    refine ⟨r, by omega, l0, _, rfl, e_l0, List.length_range, List.nodup_range, by omega, fun x hx => by have := List.mem_range.mp hx; omega, fun H10 t11 es12 s13 n14 e_t11 hE => ?_⟩
    replace e_l0 := s13 _ _ e_l0
    replace hB := hB.same s13
    replace kH := kH.trans (Keep.of_same s13)
    have lap : (apl r).length = dfac r := by unfold apl; rw [List.length_map, List.length_range]
    have l105 := dfac_le (show r ≤ 4 by omega)
    have dpos := dfac_pos r
    have lE : es12.length = dfac r := by rw [hE.length, evs_len r List.length_range List.nodup_range]
    refine ⟨t11, rfl, ⟨_, .inl (.inl e_t11)⟩, fun D nD => ?_⟩
    refine lc_list (xs := es12.map V.ref) (fun k H' => Same H10 H' ∧ ∃ us : List Addr, H' D = some (.lst (us.map V.ref)) ∧ Tups H' us ((apl r).take k)) ⟨same_new nD, [], upd_same, .nil⟩ (fun k H' _ h => .inl (.inl (h.1 _ _ e_t11))) (fun k v H' hv h => ?_) (fun H' h => ?_)
    · obtain ⟨sm, us, eD, hU⟩ := h
      rw [List.getElem?_map] at hv
      obtain ⟨u, hu, rfl⟩ := Option.map_eq_some_iff.mp hv
      obtain ⟨qs, bs, hqs, eu, hb⟩ := cl_get hE hu
      have hm := List.mem_of_getElem? hqs
      have hk : (apl r)[k]? = some (mkp qs) := by rw [← evs_mkp, List.getElem?_map, hqs]; rfl
      obtain ⟨k', hk', hqe⟩ : ∃ k', k' < dfac r ∧ qs = una r (List.range (2 * r)) k' := by
        rw [evs_una r List.length_range List.nodup_range] at hm
        obtain ⟨k', h1', h2'⟩ := List.mem_map.mp hm
        exact ⟨k', List.mem_range.mp h1', h2'.symm⟩
      have hmk : Makes qs (mkp qs) := by rw [hqe]; exact pat_makes hk'
      have lmk : (mkp qs).length = 2 * r := by rw [mkp_len, hqe, una_len]
      refine ⟨rfl, yes_if ⟨_, rfl, _, rfl, u, bs, qs, mkp qs, by rw [lmk]; rfl, sm _ _ eu, prs_same sm hb, hmk, by omega, fun H2 t s2 nt et => ?_⟩⟩
      exact tups_next nD sm eD hU hk (by omega) s2 nt et
    obtain ⟨sD, us, e_D, hA_D⟩ := h
    rw [List.length_map, lE, ← lap, List.take_length] at hA_D
    have ne_D : D ≠ b := (hB.ne_new nD).symm
    clear hE
    replace e_l0 := sD _ _ e_l0
    replace hB := hB.same sD
    replace kH := kH.trans (Keep.of_same sD)
    first | refine st_set [some (.ref b), some (.int ((2 * r) : Nat)), some (.ref D), none, none, none, none] ?_ rfl | refine st_eq [some (.ref b), some (.int ((2 * r) : Nat)), some (.ref D), none, none, none, none] ?_ rfl | refine st_eq (t := tSeq _ _) [some (.ref b), some (.int ((2 * r) : Nat)), some (.ref D), none, none, none, none] ?_ rfl
    have lus : us.length = dfac r := by rw [hA_D.length, lap]
    have gb : ∀ l ∈ apl r, IsPair (2 * r) l := fun l hl => apl_mem.mp hl
    refine ⟨_, rfl, _, rfl, (2 * r), (((2 * r) : Nat) : Int), by omega, D, _, rfl, .inl (.inl e_D), tups_srt hA_D (fun l hl => ⟨(gb l hl).len, (gb l hl).lt⟩), fun ys16 l15 hp17 hs18 nl15 => ?_⟩
    rw [sorted_same (K := K) (B := (((2 * r) : Nat) : Int)) hA_D (pw_map_lt (L := List.range (dfac r)) (G := pat r) List.pairwise_lt_range fun x hx y hy hxy => code_blw (pat_pair (List.mem_range.mp hx)) (pat_pair (List.mem_range.mp hy)) (pat_lt hxy (List.mem_range.mp hy))) hp17 hs18]
    have ne_l15 : l15 ≠ b := (hB.ne_new nl15).symm
    have s19 : Same H' (upd H' l15 (.lst (us.map V.ref))) := same_new nl15
    have e_l15 : upd H' l15 (.lst (us.map V.ref)) l15 = some (.lst (us.map V.ref)) := upd_same
    revert s19 e_l15; generalize upd H' l15 (.lst (us.map V.ref)) = H20; intro s19 e_l15
    replace e_D := s19 _ _ e_D
    replace hA_D := tups_same s19 hA_D
    replace hB := hB.same s19
    replace kH := kH.trans (Keep.of_same s19)
    have hA_l15 := hA_D
    have fk21 : Fi 3 (.list (((apl r)).map td)) := fi_tupsW (⟨by omega, fun l hl => ⟨by rw [(gb l hl).len]; omega, fun i hi => by have := (gb l hl).lt i hi; omega⟩⟩)
    refine ⟨_, _, .lst (.inl (.inl e_D)) (tups_dp hA_D), .lst (.inl (.inl e_l15)) (tups_dp hA_l15), fk21.sh, fk21.sh, _, rfl, iteX (fi_ne fk21) ?_⟩
    have elen : ((us.map V.ref).length : Int) = ((dfac r : Nat) : Int) := by rw [List.length_map, lus]
    refine ⟨_, rfl, r, rfl, by omega, _, rfl, D, _, rfl, .inl (.inl (.inl e_D)), ?_⟩
    rw [elen]
    have fk22 : Fi 0 (.int (((dfac r) : Nat))) := fi_int (by omega)
    refine ⟨_, _, _, rfl, .int _, .int _, Nat.lt_succ_of_le (Nat.le_trans fk22.depth (by decide)), fk22.nar, fun H23 s24 => ?_⟩
    replace e_D := s24 _ _ e_D
    replace hA_D := tups_same s24 hA_D
    replace hB := hB.same s24
    replace kH := kH.trans (Keep.of_same s24)
    refine ⟨true, rfl, iteN ?_⟩
    refine ⟨_, rfl, D, _, rfl, .inl (.inl (.inl e_D)), _, _, rfl, rfl, (by show 2 ≤ sizeLine; decide), fun l25 nl25 => ?_⟩
    rw [show (fun i j => V.int (i - j)) (((us.map V.ref).length : Int)) 1 = V.int (((dfac r) - 1 : Nat) : Int) from congrArg V.int (show (((us.map V.ref).length : Int) : Int) - 1 = _ by have := dpos; omega)]
    have ne_l25 : l25 ≠ b := (hB.ne_new nl25).symm
    have s26 : Same H23 (upd H23 l25 (.lst [V.int 0, V.int (((dfac r) - 1 : Nat) : Int)])) := same_new nl25
    have e_l25 : upd H23 l25 (.lst [V.int 0, V.int (((dfac r) - 1 : Nat) : Int)]) l25 = some (.lst [V.int 0, V.int (((dfac r) - 1 : Nat) : Int)]) := upd_same
    revert s26 e_l25; generalize upd H23 l25 (.lst [V.int 0, V.int (((dfac r) - 1 : Nat) : Int)]) = H27; intro s26 e_l25
    replace e_D := s26 _ _ e_D
    replace hA_D := tups_same s26 hA_D
    replace hB := hB.same s26
    replace kH := kH.trans (Keep.of_same s26)
    refine ⟨20, rfl, by decide, by decide, fun D28 nD28 => ?_⟩
    have dB_D28 : D28 ≠ b := (hB.ne_new nD28).symm
    have dN_D28 := nD28
    have nd_D := ne_of_none e_D nD28
    have nd_l25 := ne_of_none e_l25 nD28
    refine lc_range (n := 20) (fun i H' => Keep b H27 H' ∧ Box (n + 9 + 1 * (20 - i)) H' b ∧ H' D = some (.lst (us.map V.ref)) ∧ Tups H' us (apl r) ∧ H' l25 = some (.lst (nv ([0, (dfac r) - 1]))) ∧ ∃ ws : List Nat, H' D28 = some (.lst (nv ws)) ∧ ws.length = i ∧ ∀ z ∈ ws, z < (dfac r)) ⟨Keep.of_same (same_new nD28), (hB.same (same_new nD28)).mono (by omega), same_new nD28 _ _ e_D, tups_same (same_new nD28) hA_D, same_new nD28 _ _ e_l25, [], upd_same, rfl, fun z h => absurd h List.not_mem_nil⟩ (fun i H' hi h => ?_) (fun H' h => ?_)
    · obtain ⟨kk, hB', e_D, hA_D, e_l25, ws, eD, hl, hws⟩ := h
      refine ⟨rfl, yes_if ⟨_, rfl, _, rfl, D, _, rfl, .inl (.inl (.inl e_D)), b, n + 9 + 1 * (20 - (i + 1)), _, rfl, hB'.mono (by omega), by have := dpos; omega, by have := l105; omega, fun rr H2 r0 r1 hB2 k2 => ?_⟩⟩
      obtain ⟨w, hw⟩ : ∃ w : Nat, (w : Int) = rr := ⟨rr.toNat, by omega⟩
      obtain ⟨yy, hyy⟩ := hB'.lst
      have eD2 := k2 _ _ dB_D28 eD
      refine ⟨_, eD2, ?_, ?_, (hB2.keep (c := D28) keep_upd dB_D28.symm).mono (by omega), (by rw [upd_ne (show D ≠ D28 from nd_D)]; exact k2 _ _ ne_D e_D), tups_keep (b := D28) keep_upd eD2 (tups_keep k2 hyy hA_D), (by rw [upd_ne (show l25 ≠ D28 from nd_l25)]; exact k2 _ _ ne_l25 e_l25), ws ++ [w], ?_, by rw [List.length_append, hl]; rfl, fun z hz => ?_⟩
      · rw [nv_length, hl]; exact line_big (by omega)
      · exact fun x o nx hx => by rw [upd_ne (ne_of_none hx dN_D28)]; exact k2 _ _ nx (kk _ _ nx hx)
      · rw [upd_same, ← hw, nv_snoc']
      · rcases List.mem_append.mp hz with h | h
        · exact hws z h
        · rw [List.mem_singleton.mp h]; omega
    clear hB e_D hA_D e_l25
    obtain ⟨k33, hB, e_D, hA_D, e_l25, ws30, e_D28, hl31, hw32⟩ := h
    replace hB : Box (n + 9) H' b := hB.mono (by omega)
    replace kH := kH.trans k33
    have ne_D28 := dB_D28
    refine ⟨l25, D28, _, _, rfl, rfl, e_l25, e_D28, by rw [nv_length, nv_length, hl31]; exact (show 2 + 20 ≤ sizeLine by decide), fun l34 nl34 => ?_⟩
    have ne_l34 : l34 ≠ b := (hB.ne_new nl34).symm
    have s35 : Same H' (upd H' l34 (.lst (nv [0, (dfac r) - 1] ++ nv ws30))) := same_new nl34
    have e_l34 : upd H' l34 (.lst (nv [0, (dfac r) - 1] ++ nv ws30)) l34 = some (.lst (nv [0, (dfac r) - 1] ++ nv ws30)) := upd_same
    revert s35 e_l34; generalize upd H' l34 (.lst (nv [0, (dfac r) - 1] ++ nv ws30)) = H36; intro s35 e_l34
    replace e_D := s35 _ _ e_D
    replace hA_D := tups_same s35 hA_D
    replace e_l25 := s35 _ _ e_l25
    replace e_D28 := s35 _ _ e_D28
    replace hB := hB.same s35
    replace kH := kH.trans (Keep.of_same s35)
    refine ⟨l34, (zs ([0, (dfac r) - 1] ++ ws30)), rfl, (by rw [zs_nv]; exact .inl (.inl (by unfold nv at e_l34 ⊢; rw [List.map_append]; exact e_l34))), (by rw [List.length_map, List.length_append, hl31]; exact (show 2 + 20 ≤ 1000 by decide)), fun g37 c39 H40 n38 hc_g37 s_g37 g_g37 => ?_⟩
    replace e_D := s_g37 _ _ e_D
    replace hA_D := tups_same s_g37 hA_D
    replace e_l25 := s_g37 _ _ e_l25
    replace e_D28 := s_g37 _ _ e_D28
    replace e_l34 := s_g37 _ _ e_l34
    replace hB := hB.same s_g37
    replace kH := kH.trans (Keep.of_same s_g37)
    refine ⟨g37, _, _, rfl, g_g37, by have hc0 := hc_g37; rw [List.length_map, List.length_append, hl31] at hc0; exact Nat.lt_of_le_of_lt hc0 (show 2 + 20 < 64 by decide), fun ns41 l42 hp43 hm44 hl45 nl42 => ?_⟩
    obtain ⟨L46, hL47, hl48, asc49, lt50, hne51, mem52⟩ := asc_nats (B := (dfac r)) hp43 (fun k => (hm44 k).trans decide_eq_true_iff) (by
      intro k hk
      obtain ⟨z, hz, rfl⟩ := List.mem_map.mp hk
      have p0 := dpos
      rcases List.mem_append.mp hz with h | h
      · rcases List.mem_cons.mp h with h | h
        · subst h; exact ⟨by omega, by omega⟩
        · rw [List.mem_singleton.mp h]; exact ⟨by omega, by omega⟩
      · have := hw32 z h
        exact ⟨by omega, by omega⟩) (by simp)
    rw [hL47]
    have l6_L46 : L46.length ≤ 22 := by have hc0 := hc_g37; rw [List.length_map, List.length_append, hl31] at hc0; have : ([0, (dfac r) - 1] : List Nat).length = 2 := rfl; omega
    have ne_l42 : l42 ≠ b := (hB.ne_new nl42).symm
    have s53 : Same H40 (upd H40 l42 (.lst (nv (L46)))) := same_new nl42
    have e_l42 : upd H40 l42 (.lst (nv (L46))) l42 = some (.lst (nv (L46))) := upd_same
    revert s53 e_l42; generalize upd H40 l42 (.lst (nv (L46))) = H54; intro s53 e_l42
    replace e_D := s53 _ _ e_D
    replace hA_D := tups_same s53 hA_D
    replace e_l25 := s53 _ _ e_l25
    replace e_D28 := s53 _ _ e_D28
    replace e_l34 := s53 _ _ e_l34
    replace hB := hB.same s53
    replace kH := kH.trans (Keep.of_same s53)
    refine ⟨l42, rfl, ⟨_, .inl (.inl e_l42)⟩, ?_⟩
    refine for_list (xs := nv (L46)) (fun i σ H' => Same H54 H' ∧ ∃ y_v0 y_v1 : Option V, σ = [some (.ref b), some (.int ((2 * r) : Nat)), some (.ref D), y_v0, y_v1, none, none]) ⟨Same.refl _, none, none, rfl⟩ (fun i σ H' _ h => .inl (.inl (h.1 _ _ e_l42))) (fun i x σ Hi hx hPv => ?_) (fun σ Hi hPv => ?_)
    · obtain ⟨sm, y_v0, y_v1, rfl⟩ := hPv
      have sm0 := sm
      replace e_D := sm _ _ e_D
      replace hA_D := tups_same sm hA_D
      replace e_l42 := sm _ _ e_l42
      replace hB := hB.same sm
      replace kH := kH.trans (Keep.of_same sm)
      obtain ⟨w0, hw, rfl⟩ := nv_some hx
      have hwm := List.mem_of_getElem? hw
      have lt0 := lt50 w0 hwm
      have hap : (apl r)[w0]? = some (pat r w0) := by unfold apl; rw [List.getElem?_map, List.getElem?_range lt0]; rfl
      obtain ⟨u0, hu0⟩ : ∃ u0, us[w0]? = some u0 := ⟨_, List.getElem?_eq_getElem (show w0 < us.length by omega)⟩
      obtain ⟨l1, hl1, e_u0⟩ := tups_get hA_D hu0
      rw [hap] at hl1
      obtain rfl := Option.some.inj hl1
      have hget : (us.map V.ref)[w0]? = some (V.ref u0) := by rw [List.getElem?_map, hu0]; rfl
      have hpk := prk_pat lt0
      refine st_set [some (.ref b), some (.int ((2 * r) : Nat)), some (.ref D), some (.int (w0 : Nat)), y_v1, none, none] ?_ rfl
      refine ⟨_, rfl, _, rfl, r, w0, rfl, by omega, lt0, fun H55 t56 s57 n58 e_t56 => ?_⟩
      replace e_D := s57 _ _ e_D
      replace hA_D := tups_same s57 hA_D
      replace e_u0 := s57 _ _ e_u0
      replace hB := hB.same s57
      replace kH := kH.trans (Keep.of_same s57)
      refine ⟨_, rfl, _, rfl, rfl, r, w0, rfl, by omega, lt0, fun H59 t60 s61 n62 e_t60 => ?_⟩
      replace e_D := s61 _ _ e_D
      replace hA_D := tups_same s61 hA_D
      replace e_u0 := s61 _ _ e_u0
      replace e_t56 := s61 _ _ e_t56
      replace hB := hB.same s61
      replace kH := kH.trans (Keep.of_same s61)
      refine ⟨(by show 2 ≤ sizeLine; decide), fun l63 nl63 => ?_⟩
      have ne_l63 : l63 ≠ b := (hB.ne_new nl63).symm
      have s64 : Same H59 (upd H59 l63 (.lst [.ref t56, .ref t60])) := same_new nl63
      have e_l63 : upd H59 l63 (.lst [.ref t56, .ref t60]) l63 = some (.lst [.ref t56, .ref t60]) := upd_same
      revert s64 e_l63; generalize upd H59 l63 (.lst [.ref t56, .ref t60]) = H65; intro s64 e_l63
      replace e_D := s64 _ _ e_D
      replace hA_D := tups_same s64 hA_D
      replace e_u0 := s64 _ _ e_u0
      replace e_t56 := s64 _ _ e_t56
      replace e_t60 := s64 _ _ e_t60
      replace hB := hB.same s64
      replace kH := kH.trans (Keep.of_same s64)
      first | refine st_set [some (.ref b), some (.int ((2 * r) : Nat)), some (.ref D), some (.int (w0 : Nat)), some (.ref l63), none, none] ?_ rfl | refine st_eq [some (.ref b), some (.int ((2 * r) : Nat)), some (.ref D), some (.int (w0 : Nat)), some (.ref l63), none, none] ?_ rfl | refine st_eq (t := tSeq _ _) [some (.ref b), some (.int ((2 * r) : Nat)), some (.ref D), some (.int (w0 : Nat)), some (.ref l63), none, none] ?_ rfl
      refine ⟨_, rfl, _, rfl, _, rfl, D, _, ((w0 : Nat) : Int), .ref u0, rfl, rfl, .inl (.inl e_D), atI_nat (j := w0) hget, u0, (pat r w0), r, rfl, .inr (.inl (.inl e_u0)), (pat_pair lt0), by omega, fun H66 s67 => ?_⟩
      replace e_D := s67 _ _ e_D
      replace hA_D := tups_same s67 hA_D
      replace e_u0 := s67 _ _ e_u0
      replace e_t56 := s67 _ _ e_t56
      replace e_t60 := s67 _ _ e_t60
      replace e_l63 := s67 _ _ e_l63
      replace hB := hB.same s67
      replace kH := kH.trans (Keep.of_same s67)
      refine ⟨_, rfl, _, rfl, D, _, ((w0 : Nat) : Int), .ref u0, rfl, rfl, .inl (.inl e_D), atI_nat (j := w0) hget, u0, _, rfl, .inr (.inl (.inl e_u0)), fun l68 nl68 => ?_⟩
      have ne_l68 : l68 ≠ b := (hB.ne_new nl68).symm
      have s69 : Same H66 (upd H66 l68 (.lst (nv ((pat r w0))))) := same_new nl68
      have e_l68 : upd H66 l68 (.lst (nv ((pat r w0)))) l68 = some (.lst (nv ((pat r w0)))) := upd_same
      revert s69 e_l68; generalize upd H66 l68 (.lst (nv ((pat r w0)))) = H70; intro s69 e_l68
      replace e_D := s69 _ _ e_D
      replace hA_D := tups_same s69 hA_D
      replace e_u0 := s69 _ _ e_u0
      replace e_t56 := s69 _ _ e_t56
      replace e_t60 := s69 _ _ e_t60
      replace e_l63 := s69 _ _ e_l63
      replace hB := hB.same s69
      replace kH := kH.trans (Keep.of_same s69)
      refine ⟨rfl, l68, (pat r w0), r, rfl, .inl (.inl (.inl e_l68)), (pat_pair lt0), by omega, fun H71 s72 => ?_⟩
      replace e_D := s72 _ _ e_D
      replace hA_D := tups_same s72 hA_D
      replace e_u0 := s72 _ _ e_u0
      replace e_t56 := s72 _ _ e_t56
      replace e_t60 := s72 _ _ e_t60
      replace e_l63 := s72 _ _ e_l63
      replace e_l68 := s72 _ _ e_l68
      replace hB := hB.same s72
      replace kH := kH.trans (Keep.of_same s72)
      refine ⟨(by show 2 ≤ sizeLine; decide), fun l73 nl73 => ?_⟩
      have ne_l73 : l73 ≠ b := (hB.ne_new nl73).symm
      have s74 : Same H71 (upd H71 l73 (.lst [.int ((prk r (pat r w0)) : Nat), .int ((prk r (pat r w0)) : Nat)])) := same_new nl73
      have e_l73 : upd H71 l73 (.lst [.int ((prk r (pat r w0)) : Nat), .int ((prk r (pat r w0)) : Nat)]) l73 = some (.lst [.int ((prk r (pat r w0)) : Nat), .int ((prk r (pat r w0)) : Nat)]) := upd_same
      revert s74 e_l73; generalize upd H71 l73 (.lst [.int ((prk r (pat r w0)) : Nat), .int ((prk r (pat r w0)) : Nat)]) = H75; intro s74 e_l73
      replace e_D := s74 _ _ e_D
      replace hA_D := tups_same s74 hA_D
      replace e_u0 := s74 _ _ e_u0
      replace e_t56 := s74 _ _ e_t56
      replace e_t60 := s74 _ _ e_t60
      replace e_l63 := s74 _ _ e_l63
      replace e_l68 := s74 _ _ e_l68
      replace hB := hB.same s74
      replace kH := kH.trans (Keep.of_same s74)
      refine ⟨l63, l73, _, _, rfl, rfl, e_l63, e_l73, (by show 2 + 2 ≤ sizeLine; decide), fun l76 nl76 => ?_⟩
      have ne_l76 : l76 ≠ b := (hB.ne_new nl76).symm
      have s77 : Same H75 (upd H75 l76 (.lst ([V.ref t56, V.ref t60] ++ [V.int ((prk r (pat r w0)) : Nat), V.int ((prk r (pat r w0)) : Nat)]))) := same_new nl76
      have e_l76 : upd H75 l76 (.lst ([V.ref t56, V.ref t60] ++ [V.int ((prk r (pat r w0)) : Nat), V.int ((prk r (pat r w0)) : Nat)])) l76 = some (.lst ([V.ref t56, V.ref t60] ++ [V.int ((prk r (pat r w0)) : Nat), V.int ((prk r (pat r w0)) : Nat)])) := upd_same
      revert s77 e_l76; generalize upd H75 l76 (.lst ([V.ref t56, V.ref t60] ++ [V.int ((prk r (pat r w0)) : Nat), V.int ((prk r (pat r w0)) : Nat)])) = H78; intro s77 e_l76
      replace e_D := s77 _ _ e_D
      replace hA_D := tups_same s77 hA_D
      replace e_u0 := s77 _ _ e_u0
      replace e_t56 := s77 _ _ e_t56
      replace e_t60 := s77 _ _ e_t60
      replace e_l63 := s77 _ _ e_l63
      replace e_l68 := s77 _ _ e_l68
      replace e_l73 := s77 _ _ e_l73
      replace hB := hB.same s77
      replace kH := kH.trans (Keep.of_same s77)
      replace e_l76 : H78 l76 = some (.lst [.ref t56, .ref t60, .int ((prk r (pat r w0)) : Nat), .int ((prk r (pat r w0)) : Nat)]) := e_l76
      rw [hpk] at e_l76
      try rw [hpk]
      first | refine st_set [some (.ref b), some (.int ((2 * r) : Nat)), some (.ref D), some (.int (w0 : Nat)), some (.ref l76), none, none] ?_ rfl | refine st_eq [some (.ref b), some (.int ((2 * r) : Nat)), some (.ref D), some (.int (w0 : Nat)), some (.ref l76), none, none] ?_ rfl | refine st_eq (t := tSeq _ _) [some (.ref b), some (.int ((2 * r) : Nat)), some (.ref D), some (.int (w0 : Nat)), some (.ref l76), none, none] ?_ rfl
      refine ⟨_, rfl, _, rfl, _, rfl, D, _, ((w0 : Nat) : Int), .ref u0, rfl, rfl, .inl (.inl e_D), atI_nat (j := w0) hget, _, rfl, _, rfl, D, _, ((w0 : Nat) : Int), .ref u0, rfl, rfl, .inl (.inl e_D), atI_nat (j := w0) hget, _, rfl, _, rfl, (by show 4 ≤ sizeLine; decide), fun l79 nl79 => ?_⟩
      have ne_l79 : l79 ≠ b := (hB.ne_new nl79).symm
      have s80 : Same H78 (upd H78 l79 (.lst [.ref u0, .ref u0, .int (w0 : Nat), .int (w0 : Nat)])) := same_new nl79
      have e_l79 : upd H78 l79 (.lst [.ref u0, .ref u0, .int (w0 : Nat), .int (w0 : Nat)]) l79 = some (.lst [.ref u0, .ref u0, .int (w0 : Nat), .int (w0 : Nat)]) := upd_same
      revert s80 e_l79; generalize upd H78 l79 (.lst [.ref u0, .ref u0, .int (w0 : Nat), .int (w0 : Nat)]) = H81; intro s80 e_l79
      replace e_D := s80 _ _ e_D
      replace hA_D := tups_same s80 hA_D
      replace e_u0 := s80 _ _ e_u0
      replace e_t56 := s80 _ _ e_t56
      replace e_t60 := s80 _ _ e_t60
      replace e_l63 := s80 _ _ e_l63
      replace e_l68 := s80 _ _ e_l68
      replace e_l73 := s80 _ _ e_l73
      replace e_l76 := s80 _ _ e_l76
      replace hB := hB.same s80
      replace kH := kH.trans (Keep.of_same s80)
      have fk82 : Fi 2 (.list [td ((pat r w0)), td ((pat r w0)), .int ((w0 : Nat)), .int ((w0 : Nat))]) := fi_list (j := 1) (n := 4) (fa_cons (fi_tup (pat_pair lt0) (by omega)) (fa_cons (fi_tup (pat_pair lt0) (by omega)) (fa_cons ((fi_int (by omega)).up) (fa_cons ((fi_int (by omega)).up) fa_nil)))) rfl (by decide)
      refine ⟨_, _, _, rfl, .lst (.inl (.inl e_l76)) (.cons (.tup (.inl (.inl e_t56)) (dp_nats _)) (.cons (.tup (.inl (.inl e_t60)) (dp_nats _)) (.cons (.int _) (.cons (.int _) .nil)))), .lst (.inl (.inl e_l79)) (.cons (.tup (.inl (.inl e_u0)) (dp_nats _)) (.cons (.tup (.inl (.inl e_u0)) (dp_nats _)) (.cons (.int _) (.cons (.int _) .nil)))), Nat.lt_succ_of_le (Nat.le_trans fk82.depth (by decide)), fk82.nar, fun H83 s84 => ?_⟩
      replace e_D := s84 _ _ e_D
      replace hA_D := tups_same s84 hA_D
      replace e_u0 := s84 _ _ e_u0
      replace e_t56 := s84 _ _ e_t56
      replace e_t60 := s84 _ _ e_t60
      replace e_l63 := s84 _ _ e_l63
      replace e_l68 := s84 _ _ e_l68
      replace e_l73 := s84 _ _ e_l73
      replace e_l76 := s84 _ _ e_l76
      replace e_l79 := s84 _ _ e_l79
      replace hB := hB.same s84
      replace kH := kH.trans (Keep.of_same s84)
      refine ⟨true, rfl, iteN ?_⟩
      exact ⟨((((((((((sm0.trans s57).trans s61).trans s64).trans s67).trans s69).trans s72).trans s74).trans s77).trans s80).trans s84), _, _, rfl⟩
    obtain ⟨sm, y_v0, y_v1, rfl⟩ := hPv
    replace e_D := sm _ _ e_D
    replace hA_D := tups_same sm hA_D
    replace e_l42 := sm _ _ e_l42
    replace hB := hB.same sm
    replace kH := kH.trans (Keep.of_same sm)
    exact q _ kH (hB.mono (by omega))
end
end Pc
namespace Pc
open PySem PySem.Spec PyProof.Rows L2 RZ
section
variable {P : Program} {w : World} {K : PySem.W.Frag} {mg : Str → Option Value} {base : Heap}
def spRight : Sp := fun vs H Q _ => ∃ (b : Addr) (n : Nat), vs = [.ref b] ∧ Box (n + 1000) H b ∧ ∀ H', Keep b H H' → Box n H' b → Q (.bl true) H'
theorem kw_p_pairings_many_0 (T : Env K mg) : ∀ (s : Shared) (ws : List Value), ws.length = (["size"] : List Str).length → BindsTo s T.d_p_pairings_many ⟨[], (["size"] : List Str).zip ws⟩ ((["size"] : List Str).zip (pm0 ws)) :=
  kw_to T.F_p_pairings_many fun _ _ _ _ _ _ ws hl => match ws, hl with | [_], _ => rfl
theorem ok_right (T : Env K mg) : FnOk P w K mg base CX0 8 T.f_right T.d_right ["_law_box_here"] spRight := by
  have GT : FnOk P w K mg base CX0 1 T.f_take T.d_take ["_law_box_here", "_law_span"] spTake := ok_take T
  have GE : FnOk P w K mg base CX0 5 T.f_same T.d_same ["_law_found", "_law_due"] (spSame K 4) := (ok_same T 4).mono (by decide)
  have GR : FnOk P w K mg base CX0 3 T.f_random T.d_random ["_law_box_here", "_law_count"] spRandom := ok_random T
  have GTW : FnOk P w K mg base CX0 2 T.f_take T.d_take ["_law_box_here", "_law_span"] spTakeW := ok_takeW T
  have GW : FnOk P w K mg base CX0 7 T.f_few_right T.d_few_right ["_law_box_here"] spFew02 := ok_few_right T
  have Gd : FnOk P w K mg base CX0 1 T.f_odd_product T.d_odd_product ["_law_most"] spOdd := ok_odd_product T
  have Gx : FnOk P w K mg base CX0 4 T.f_refused T.d_refused ["_law_count", "_law_far"] spRefused02 := ok_refused T
  have GI : FnOk P w K mg base CX0 3 T.f_p_is_pairing T.d_p_is_pairing ["value"] (spIsPairing K) := ok_p_is_pairing T
  have Gpm : FnOk P w K mg base CX0 1 T.f_p_pairings_many T.d_p_pairings_many ["size"] spMany := ok_p_pairings_many T
  have Gpa : FnOk P w K mg base CX0 2 T.f_p_pairing_at T.d_p_pairing_at ["size", "number"] spPairingAt := ok_p_pairing_at T
  have Gpn : FnOk P w K mg base CX0 1 T.f_p_pairing_number T.d_p_pairing_number ["pairing"] (spPNum K) := ok_p_pairing_number T
  refine T.F_right.ok sc_right (fun vs H Q E h => ?_) (fun cdv A outer s H vs Q E hr h => ?_)
  · obtain ⟨b, n, rfl, _⟩ := h
    rfl
  · obtain ⟨b, n, rfl, hB, q⟩ := h
    have h1 := hr.mono (show 1 ≤ 7 by decide)
    have h2 := hr.mono (show 2 ≤ 7 by decide)
    have h3 := hr.mono (show 3 ≤ 7 by decide)
    have h4 := hr.mono (show 4 ≤ 7 by decide)
    have h5 := hr.mono (show 5 ≤ 7 by decide)
    have h6 := hr.mono (show 6 ≤ 7 by decide)
    have kH : Keep b H H := Keep.refl _ _
    refine ⟨_, pss_cons (ps_if (pt_not (pt_val (pe_call GW hr (by rfl) T.g_few_right T.F_few_right.kp T.b_few_right .nil pass0 (pa_cons (pv 0) pa_nil)))) (pss_one (ps_ret pe_bl)) pss_nil) <|
      pss_cons (ps_set (i := 1) sc_right.nd rfl (.inr rfl) (pe_op op_add pe_int (pe_op op_mul pe_int (pe_call GT h1 (by rfl) T.g_take T.F_take.kp T.b_take .nil pass0 (pa_cons (pv 0) (pa_cons pe_int pa_nil)))))) <|
      pss_cons (ps_set (i := 2) sc_right.nd rfl (.inr rfl) (pe_call Gd h1 (by rfl) T.g_odd_product T.F_odd_product.kp T.b_odd_product .nil pass0 (pa_cons (pe_op op_sub (pv 1) pe_int) pa_nil))) <|
      pss_cons (ps_if (pt_not (pt_val (pe_call GE h5 (by rfl) T.g_same T.F_same.kp T.b_same .nil pass0 (pa_cons (pe_lst (pa_cons (pe_call Gpm h1 (by rfl) T.g_p_pairings_many T.F_p_pairings_many.kp T.b_p_pairings_many .nil pass0 (pa_cons (pv 1) pa_nil)) (pa_cons (pe_kw (gV := pm0) Gpm h1 (by rfl) T.g_p_pairings_many T.F_p_pairings_many.kp (kw_p_pairings_many_0 T) (rel_pm0) pass0 (pk_cons (pv 1) pk_nil)) pa_nil))) (pa_cons (pe_lst (pa_cons (pv 2) (pa_cons (pv 2) pa_nil))) pa_nil))))) (pss_one (ps_ret pe_bl)) pss_nil) <|
      pss_cons (ps_set (i := 3) sc_right.nd rfl (.inl rfl) (pe_callB (cr_sortedSet rfl) (by rfl) T.n_sorted (by decide +kernel) (pa_cons (pe_callTy (cr_setLI rfl) (by rfl) T.n_set (by decide +kernel) (pa_cons (pe_op op_cat (pe_lst (pa_cons pe_int (pa_cons (pe_op op_sub (pv 2) pe_int) pa_nil))) (pe_lc (own := [("_law_turn", 9)]) (g := gName 9) (tt := tYes) (te := tCall spTakeW [] E0 (tCons (tVar 0) (tCons (tVar 2) tNil))) rfl sc_right.nd (pi_range1 (by rfl) T.n_range (pa_cons pe_int pa_nil)) (blkOk_by (N := N_right) (sc := defScope s_right) (by decide +kernel)) (fun _ _ _ _ _ => pg_name (i := 9) sc_right.nd rfl (.inl rfl)) (fun _ _ _ _ _ => pts_nil) (fun _ _ _ _ _ => (pe_call GTW h2 (by rfl) T.g_take T.F_take.kp T.b_take .nil pass0 (pa_cons (pv 0) (pa_cons (pv 2) pa_nil)))))) pa_nil)) pa_nil))) <|
      pss_cons (ps_setLc (i := 5) (own := [("_law_at", 4)]) (g := gName 4) (tt := tYes) (te := tCall spPairingAt [] E0 (tCons (tVar 1) (tCons (tVar 4) tNil))) rfl sc_right.nd rfl rfl (sw_true rfl rfl rfl (by decide +kernel)) (pi_list (pv 3)) (blkOk_by (N := N_right) (sc := defScope s_right) (by decide +kernel)) (fun _ _ _ _ _ => pg_name (i := 4) sc_right.nd rfl (.inl rfl)) (fun _ _ _ _ _ => pts_nil) (fun _ _ _ _ _ => (pe_call Gpa h2 (by rfl) T.g_p_pairing_at T.F_p_pairing_at.kp T.b_p_pairing_at .nil pass0 (pa_cons (pv 1) (pa_cons (pv 4) pa_nil))))) <|
      pss_cons (ps_if (PW.pt (pw_or (pt_cmpR (op_neD hr.units) (pv 5) (pe_callB cr_sortTA (by rfl) T.n_sorted (by decide +kernel) (pa_cons (pv 5) pa_nil)) (nomark _)) (pw_or1 (pt_not (pt_val (pe_callB (cr_all rfl) (by rfl) T.n_all (by decide +kernel) (pa_cons (pe_lc (own := [("_law_it", 8)]) (g := gName 8) (tt := tYes) (te := tAndV (tCall (spIsPairing K) [] E0 (tCons (tVar 8) tNil)) (tOp rEq (tCB (fun xs H Q => ∃ p ys, xs = [.ref p] ∧ (SqL K H p ys ∨ SqT K H p ys) ∧ Q (.int ys.length) H) (tCons (tVar 8) tNil)) (tVar 1))) rfl sc_right.nd (pi_list (pv 5)) (blkOk_by (N := N_right) (sc := defScope s_right) (by decide +kernel)) (fun _ _ _ _ _ => pg_name (i := 8) sc_right.nd rfl (.inl rfl)) (fun _ _ _ _ _ => pts_nil) (fun _ _ _ _ _ => pe_and (pe_call GI h3 (by rfl) T.g_p_is_pairing T.F_p_is_pairing.kp T.b_p_is_pairing .nil pass0 (pa_cons (pv 8) pa_nil)) (pe_one (pe_cmpR op_eq (pe_callB call_len_seq (by rfl) T.n_len PySem.boot_len (pa_cons (pv 8) pa_nil)) (pv 1) (nomark _))))) pa_nil))))))) (pss_one (ps_ret pe_bl)) pss_nil) <|
      pss_cons (ps_if (pt_not (pt_val (pe_call GE h5 (by rfl) T.g_same T.F_same.kp T.b_same .nil pass0 (pa_cons (pe_lc (own := [("_law_it", 8)]) (g := gName 8) (tt := tYes) (te := tCall (spPNum K) [] E0 (tCons (tVar 8) tNil)) rfl sc_right.nd (pi_list (pv 5)) (blkOk_by (N := N_right) (sc := defScope s_right) (by decide +kernel)) (fun _ _ _ _ _ => pg_name (i := 8) sc_right.nd rfl (.inl rfl)) (fun _ _ _ _ _ => pts_nil) (fun _ _ _ _ _ => (pe_call Gpn h1 (by rfl) T.g_p_pairing_number T.F_p_pairing_number.kp T.b_p_pairing_number .nil pass0 (pa_cons (pv 8) pa_nil)))) (pa_cons (pv 3) pa_nil))))) (pss_one (ps_ret pe_bl)) pss_nil) <|
      pss_cons (ps_set (i := 6) sc_right.nd rfl (.inl rfl) (pe_call GR h3 (by rfl) T.g_random T.F_random.kp T.b_random .nil pass0 (pa_cons (pv 0) (pa_cons (pv 1) pa_nil)))) <|
      pss_cons (ps_set (i := 4) sc_right.nd rfl (.inl rfl) (pe_call Gpn h1 (by rfl) T.g_p_pairing_number T.F_p_pairing_number.kp T.b_p_pairing_number .nil pass0 (pa_cons (pv 6) pa_nil))) <|
      pss_cons (ps_if (PW.pt (pw_or (pt_cmpR (op_neD hr.units) (pe_call Gpa h2 (by rfl) T.g_p_pairing_at T.F_p_pairing_at.kp T.b_p_pairing_at .nil pass0 (pa_cons (pv 1) (pa_cons (pv 4) pa_nil))) (pv 6) (nomark _)) (pw_or1 (PW.pt (pw_and (pt_cmpR op_lt (pe_op op_add (pv 4) pe_int) (pv 2) (nomark _)) (pw_and1 (pt_not (pt_cmpR (op_gtD hr.units) (pe_call Gpa h2 (by rfl) T.g_p_pairing_at T.F_p_pairing_at.kp T.b_p_pairing_at .nil pass0 (pa_cons (pv 1) (pa_cons (pe_op op_add (pv 4) pe_int) pa_nil))) (pv 6) (nomark _))))))))) (pss_one (ps_ret pe_bl)) pss_nil) <|
      pss_one (ps_ret (pe_callB (cr_all rfl) (by rfl) T.n_all (by decide +kernel) (pa_cons (pe_lc (own := [("_law_far", 7)]) (g := gName 7) (tt := tYes) (te := tCall (spSame K 4) [] E0 (tCons (tCall spRefused02 [] E0 (tCons (tVar 1) (tCons (tVar 7) tNil))) (tCons (tVar 7) tNil))) rfl sc_right.nd (pi_tup (pe_tup (pa_cons (pe_un un_neg pe_int) (pa_cons (pv 2) (pa_cons (pe_op op_add (pv 2) pe_int) (pa_cons (pe_op op_sub pe_int (pv 2)) (pa_cons (pe_op op_pow pe_int pe_int) pa_nil))))))) (blkOk_by (N := N_right) (sc := defScope s_right) (by decide +kernel)) (fun _ _ _ _ _ => pg_name (i := 7) sc_right.nd rfl (.inl rfl)) (fun _ _ _ _ _ => pts_nil) (fun _ _ _ _ _ => (pe_call GE h5 (by rfl) T.g_same T.F_same.kp T.b_same .nil pass0 (pa_cons (pe_call Gx h4 (by rfl) T.g_refused T.F_refused.kp T.b_refused .nil pass0 (pa_cons (pv 1) (pa_cons (pv 7) pa_nil))) (pa_cons (pv 7) pa_nil))))) pa_nil))), ?_⟩
    refine ⟨_, rfl, b, n + 970, rfl, hB.mono (by omega), fun H1 k2 hB3 => ?_⟩
    obtain ⟨y_hy4, hy4⟩ := hB.lst
    clear hB
    have hB := hB3
    replace kH := kH.trans k2
    refine ⟨true, rfl, iteN ?_⟩
    refine ⟨_, rfl, b, n + 969, 10, rfl, hB.mono (by omega), by decide, by decide, fun r5 H6 ra7 rb8 hB9 k10 => ?_⟩
    obtain ⟨y_hy11, hy11⟩ := hB.lst
    clear hB
    have hB := hB9
    replace kH := kH.trans k10
    refine ⟨_, _, rfl, rfl, .inl ⟨by omega, by omega⟩, _, _, rfl, rfl, ?_⟩
    have hn : 2 + 2 * r5.toNat ≤ 20 := by omega
    have hn2 : 2 ≤ 2 + 2 * r5.toNat := by omega
    have hev : (2 + 2 * r5.toNat) % 2 = 0 := by omega
    rw [show (fun i j => V.int (i + j)) 2 ((fun i j => i * j) 2 r5) = V.int ((2 + 2 * r5.toNat : Nat) : Int) from congrArg V.int (show (2 + 2 * r5 : Int) = _ by omega)]
    revert hn hn2 hev; generalize 2 + 2 * r5.toNat = N; intro hn hn2 hev
    obtain ⟨r, rfl⟩ : ∃ r, N = 2 * r := ⟨N / 2, by omega⟩
    first | refine st_set [some (.ref b), some (.int ((2 * r) : Nat)), none, none, none, none, none, none, none, none] ?_ rfl | refine st_eq [some (.ref b), some (.int ((2 * r) : Nat)), none, none, none, none, none, none, none, none] ?_ rfl | refine st_eq (t := tSeq _ _) [some (.ref b), some (.int ((2 * r) : Nat)), none, none, none, none, none, none, none, none] ?_ rfl
    have htop := dfac_small (r := r) (by omega)
    have htop0 := dfac_pos r
    refine ⟨_, rfl, _, _, rfl, rfl, r, (by show [V.int (((2 * r : Nat) : Int) - 1)] = _; exact congrArg (fun z => [V.int z]) (by omega)), by omega, ?_⟩
    first | refine st_set [some (.ref b), some (.int ((2 * r) : Nat)), some (.int ((dfac r) : Nat)), none, none, none, none, none, none, none] ?_ rfl | refine st_eq [some (.ref b), some (.int ((2 * r) : Nat)), some (.int ((dfac r) : Nat)), none, none, none, none, none, none, none] ?_ rfl | refine st_eq (t := tSeq _ _) [some (.ref b), some (.int ((2 * r) : Nat)), some (.int ((dfac r) : Nat)), none, none, none, none, none, none, none] ?_ rfl
    refine ⟨_, rfl, r, rfl, by omega, _, rfl, rfl, r, rfl, by omega, (by show 2 ≤ sizeLine; decide), fun l12 nl12 => ?_⟩
    have ne_l12 : l12 ≠ b := (hB.ne_new nl12).symm
    have s13 : Same H6 (upd H6 l12 (.lst [.int ((dfac r) : Nat), .int ((dfac r) : Nat)])) := same_new nl12
    have e_l12 : upd H6 l12 (.lst [.int ((dfac r) : Nat), .int ((dfac r) : Nat)]) l12 = some (.lst [.int ((dfac r) : Nat), .int ((dfac r) : Nat)]) := upd_same
    revert s13 e_l12; generalize upd H6 l12 (.lst [.int ((dfac r) : Nat), .int ((dfac r) : Nat)]) = H14; intro s13 e_l12
    replace hB := hB.same s13
    replace kH := kH.trans (Keep.of_same s13)
    refine ⟨_, rfl, _, rfl, (by show 2 ≤ sizeLine; decide), fun l15 nl15 => ?_⟩
    have ne_l15 : l15 ≠ b := (hB.ne_new nl15).symm
    have s16 : Same H14 (upd H14 l15 (.lst [.int ((dfac r) : Nat), .int ((dfac r) : Nat)])) := same_new nl15
    have e_l15 : upd H14 l15 (.lst [.int ((dfac r) : Nat), .int ((dfac r) : Nat)]) l15 = some (.lst [.int ((dfac r) : Nat), .int ((dfac r) : Nat)]) := upd_same
    revert s16 e_l15; generalize upd H14 l15 (.lst [.int ((dfac r) : Nat), .int ((dfac r) : Nat)]) = H17; intro s16 e_l15
    replace e_l12 := s16 _ _ e_l12
    replace hB := hB.same s16
    replace kH := kH.trans (Keep.of_same s16)
    have fk18 : Fi 1 (.list [.int (((dfac r) : Nat)), .int (((dfac r) : Nat))]) := fi_list (j := 0) (n := 2) (fa_cons (fi_int (by have := htop; omega)) (fa_cons (fi_int (by have := htop; omega)) fa_nil)) rfl (by decide)
    refine ⟨_, _, _, rfl, .lst (.inl (.inl e_l12)) (.cons (.int _) (.cons (.int _) .nil)), .lst (.inl (.inl e_l15)) (.cons (.int _) (.cons (.int _) .nil)), Nat.lt_succ_of_le (Nat.le_trans fk18.depth (by decide)), fk18.nar, fun H19 s20 => ?_⟩
    replace e_l12 := s20 _ _ e_l12
    replace e_l15 := s20 _ _ e_l15
    replace hB := hB.same s20
    replace kH := kH.trans (Keep.of_same s20)
    refine ⟨true, rfl, iteN ?_⟩
    refine ⟨_, rfl, _, _, rfl, rfl, (by show 2 ≤ sizeLine; decide), fun l21 nl21 => ?_⟩
    rw [show (fun i j => V.int (i - j)) (((dfac r : Nat) : Int)) 1 = V.int (((dfac r) - 1 : Nat) : Int) from congrArg V.int (show (((dfac r : Nat) : Int) : Int) - 1 = _ by have := htop0; omega)]
    have ne_l21 : l21 ≠ b := (hB.ne_new nl21).symm
    have s22 : Same H19 (upd H19 l21 (.lst [V.int 0, V.int (((dfac r) - 1 : Nat) : Int)])) := same_new nl21
    have e_l21 : upd H19 l21 (.lst [V.int 0, V.int (((dfac r) - 1 : Nat) : Int)]) l21 = some (.lst [V.int 0, V.int (((dfac r) - 1 : Nat) : Int)]) := upd_same
    revert s22 e_l21; generalize upd H19 l21 (.lst [V.int 0, V.int (((dfac r) - 1 : Nat) : Int)]) = H23; intro s22 e_l21
    replace hB := hB.same s22
    replace kH := kH.trans (Keep.of_same s22)
    refine ⟨4, rfl, by decide, by decide, fun D24 nD24 => ?_⟩
    have dB_D24 : D24 ≠ b := (hB.ne_new nD24).symm
    have dN_D24 := nD24
    have nd_l21 := ne_of_none e_l21 nD24
    refine lc_range (n := 4) (fun i H' => Keep b H23 H' ∧ Box (n + 961 + 2 * (4 - i)) H' b ∧ H' l21 = some (.lst (nv ([0, (dfac r) - 1]))) ∧ ∃ ws : List Nat, H' D24 = some (.lst (nv ws)) ∧ ws.length = i ∧ ∀ z ∈ ws, z < (dfac r)) ⟨Keep.of_same (same_new nD24), (hB.same (same_new nD24)).mono (by omega), same_new nD24 _ _ e_l21, [], upd_same, rfl, fun z h => absurd h List.not_mem_nil⟩ (fun i H' hi h => ?_) (fun H' h => ?_)
    · obtain ⟨kk, hB', e_l21, ws, eD, hl, hws⟩ := h
      refine ⟨rfl, yes_if ⟨_, rfl, _, rfl, b, n + 961 + 2 * (4 - (i + 1)), _, rfl, hB'.mono (by omega), by have := htop0; omega, by have := htop; omega, fun rr H2 r0 r1 hB2 k2 => ?_⟩⟩
      obtain ⟨w, hw⟩ : ∃ w : Nat, (w : Int) = rr := ⟨rr.toNat, by omega⟩
      obtain ⟨yy, hyy⟩ := hB'.lst
      have eD2 := k2 _ _ dB_D24 eD
      refine ⟨_, eD2, ?_, ?_, (hB2.keep (c := D24) keep_upd dB_D24.symm).mono (by omega), (by rw [upd_ne (show l21 ≠ D24 from nd_l21)]; exact k2 _ _ ne_l21 e_l21), ws ++ [w], ?_, by rw [List.length_append, hl]; rfl, fun z hz => ?_⟩
      · rw [nv_length, hl]; exact line_big (by omega)
      · exact fun x o nx hx => by rw [upd_ne (ne_of_none hx dN_D24)]; exact k2 _ _ nx (kk _ _ nx hx)
      · rw [upd_same, ← hw, nv_snoc']
      · rcases List.mem_append.mp hz with h | h
        · exact hws z h
        · rw [List.mem_singleton.mp h]; omega
    clear hB e_l21
    obtain ⟨k29, hB, e_l21, ws26, e_D24, hl27, hw28⟩ := h
    replace hB : Box (n + 961) H' b := hB.mono (by omega)
    replace kH := kH.trans k29
    have ne_D24 := dB_D24
    refine ⟨l21, D24, _, _, rfl, rfl, e_l21, e_D24, by rw [nv_length, nv_length, hl27]; exact (show 2 + 4 ≤ sizeLine by decide), fun l30 nl30 => ?_⟩
    have ne_l30 : l30 ≠ b := (hB.ne_new nl30).symm
    have s31 : Same H' (upd H' l30 (.lst (nv [0, (dfac r) - 1] ++ nv ws26))) := same_new nl30
    have e_l30 : upd H' l30 (.lst (nv [0, (dfac r) - 1] ++ nv ws26)) l30 = some (.lst (nv [0, (dfac r) - 1] ++ nv ws26)) := upd_same
    revert s31 e_l30; generalize upd H' l30 (.lst (nv [0, (dfac r) - 1] ++ nv ws26)) = H32; intro s31 e_l30
    replace e_l21 := s31 _ _ e_l21
    replace e_D24 := s31 _ _ e_D24
    replace hB := hB.same s31
    replace kH := kH.trans (Keep.of_same s31)
    refine ⟨l30, (zs ([0, (dfac r) - 1] ++ ws26)), rfl, (by rw [zs_nv]; exact .inl (.inl (by unfold nv at e_l30 ⊢; rw [List.map_append]; exact e_l30))), (by rw [List.length_map, List.length_append, hl27]; exact (show 2 + 4 ≤ 1000 by decide)), fun g33 c35 H36 n34 hc_g33 s_g33 g_g33 => ?_⟩
    replace e_l21 := s_g33 _ _ e_l21
    replace e_D24 := s_g33 _ _ e_D24
    replace e_l30 := s_g33 _ _ e_l30
    replace hB := hB.same s_g33
    replace kH := kH.trans (Keep.of_same s_g33)
    refine ⟨g33, _, _, rfl, g_g33, by have hc0 := hc_g33; rw [List.length_map, List.length_append, hl27] at hc0; exact Nat.lt_of_le_of_lt hc0 (show 2 + 4 < 64 by decide), fun ns37 l38 hp39 hm40 hl41 nl38 => ?_⟩
    obtain ⟨L42, hL43, hl44, asc45, lt46, hne47, mem48⟩ := asc_nats (B := (dfac r)) hp39 (fun k => (hm40 k).trans decide_eq_true_iff) (by
      intro k hk
      obtain ⟨z, hz, rfl⟩ := List.mem_map.mp hk
      have p0 := htop0
      rcases List.mem_append.mp hz with h | h
      · rcases List.mem_cons.mp h with h | h
        · subst h; exact ⟨by omega, by omega⟩
        · rw [List.mem_singleton.mp h]; exact ⟨by omega, by omega⟩
      · have := hw28 z h
        exact ⟨by omega, by omega⟩) (by simp)
    rw [hL43]
    have l6_L42 : L42.length ≤ 6 := by have hc0 := hc_g33; rw [List.length_map, List.length_append, hl27] at hc0; have : ([0, (dfac r) - 1] : List Nat).length = 2 := rfl; omega
    have ne_l38 : l38 ≠ b := (hB.ne_new nl38).symm
    have s49 : Same H36 (upd H36 l38 (.lst (nv (L42)))) := same_new nl38
    have e_l38 : upd H36 l38 (.lst (nv (L42))) l38 = some (.lst (nv (L42))) := upd_same
    revert s49 e_l38; generalize upd H36 l38 (.lst (nv (L42))) = H50; intro s49 e_l38
    replace e_l21 := s49 _ _ e_l21
    replace e_D24 := s49 _ _ e_D24
    replace e_l30 := s49 _ _ e_l30
    replace hB := hB.same s49
    replace kH := kH.trans (Keep.of_same s49)
    first | refine st_set [some (.ref b), some (.int ((2 * r) : Nat)), some (.int ((dfac r) : Nat)), some (.ref l38), none, none, none, none, none, none] ?_ rfl | refine st_eq [some (.ref b), some (.int ((2 * r) : Nat)), some (.int ((dfac r) : Nat)), some (.ref l38), none, none, none, none, none, none] ?_ rfl | refine st_eq (t := tSeq _ _) [some (.ref b), some (.int ((2 * r) : Nat)), some (.int ((dfac r) : Nat)), some (.ref l38), none, none, none, none, none, none] ?_ rfl
    refine ⟨_, rfl, l38, rfl, ⟨_, .inl (.inl e_l38)⟩, fun D51 nD51 => ?_⟩
    refine lc_list (xs := nv (L42)) (fun i H' => Same H50 H' ∧ ∃ us : List Addr, H' D51 = some (.lst (us.map V.ref)) ∧ Tups H' us (((L42).map fun w0 => pat r w0).take i)) ⟨same_new nD51, [], upd_same, .nil⟩ (fun i H' _ h => .inl (.inl (h.1 _ _ e_l38))) (fun i v H' hv h => ?_) (fun H' h => ?_)
    · obtain ⟨sm, us, eD, hU⟩ := h
      obtain ⟨w0, hw, rfl⟩ := nv_some hv
      have hwm := List.mem_of_getElem? hw
      have lt0 : w0 < dfac r := lt46 w0 hwm
      have hk : ((L42).map fun w0 => pat r w0)[i]? = some (pat r w0) := by rw [List.getElem?_map, hw]; rfl
      refine ⟨rfl, yes_if ⟨_, rfl, _, rfl, r, w0, rfl, by omega, lt0, fun H2 t s2 nt et => ?_⟩⟩
      exact tups_next nD51 sm eD hU hk (by rw [List.length_map]; omega) s2 nt et
    obtain ⟨s52, us53, e_D51, hA_D51⟩ := h
    rw [nv_length, show (L42).length = ((L42).map fun w0 => pat r w0).length from (List.length_map _).symm, List.take_length] at hA_D51
    have ne_D51 : D51 ≠ b := (hB.ne_new nD51).symm
    revert s52 e_D51 hA_D51; generalize H' = H54; intro s52 e_D51 hA_D51
    replace e_l38 := s52 _ _ e_l38
    replace hB := hB.same s52
    replace kH := kH.trans (Keep.of_same s52)
    first | refine st_set [some (.ref b), some (.int ((2 * r) : Nat)), some (.int ((dfac r) : Nat)), some (.ref l38), none, some (.ref D51), none, none, none, none] ?_ rfl | refine st_eq [some (.ref b), some (.int ((2 * r) : Nat)), some (.int ((dfac r) : Nat)), some (.ref l38), none, some (.ref D51), none, none, none, none] ?_ rfl | refine st_eq (t := tSeq _ _) [some (.ref b), some (.int ((2 * r) : Nat)), some (.int ((dfac r) : Nat)), some (.ref l38), none, some (.ref D51), none, none, none, none] ?_ rfl
    have gb : ∀ l ∈ (L42).map (fun w0 => pat r w0), IsPair (2 * r) l := fun l hl => by obtain ⟨w0, hw, rfl⟩ := List.mem_map.mp hl; exact pat_pair (lt46 w0 hw)
    have gl : ((L42).map fun w0 => pat r w0).length ≤ 6 := by rw [List.length_map]; omega
    refine ⟨_, rfl, _, rfl, (2 * r), (((2 * r) : Nat) : Int), by omega, D51, _, rfl, .inl (.inl e_D51), tups_srt hA_D51 (fun l hl => ⟨(gb l hl).len, (gb l hl).lt⟩), fun ys56 l55 hp57 hs58 nl55 => ?_⟩
    rw [sorted_same (K := K) (B := (((2 * r) : Nat) : Int)) hA_D51 (pw_map_lt asc45 fun x hx y hy hxy => code_blw (pat_pair (lt46 x hx)) (pat_pair (lt46 y hy)) (pat_lt hxy (lt46 y hy))) hp57 hs58]
    have ne_l55 : l55 ≠ b := (hB.ne_new nl55).symm
    have s59 : Same H54 (upd H54 l55 (.lst (us53.map V.ref))) := same_new nl55
    have e_l55 : upd H54 l55 (.lst (us53.map V.ref)) l55 = some (.lst (us53.map V.ref)) := upd_same
    revert s59 e_l55; generalize upd H54 l55 (.lst (us53.map V.ref)) = H60; intro s59 e_l55
    replace e_l38 := s59 _ _ e_l38
    replace e_D51 := s59 _ _ e_D51
    replace hA_D51 := tups_same s59 hA_D51
    replace hB := hB.same s59
    replace kH := kH.trans (Keep.of_same s59)
    have hA_l55 := hA_D51
    have fk61 : Fi 2 (.list ((((L42).map fun w0 => pat r w0)).map td)) := fi_tups (⟨by omega, fun l hl => ⟨by rw [(gb l hl).len]; omega, fun i hi => by have := (gb l hl).lt i hi; omega⟩⟩)
    refine ⟨_, _, .lst (.inl (.inl e_D51)) (tups_dp hA_D51), .lst (.inl (.inl e_l55)) (tups_dp hA_l55), fk61.sh, fk61.sh, _, rfl, iteX (fi_ne fk61) ?_⟩
    refine ⟨_, rfl, D51, rfl, ⟨_, .inl (.inl e_D51)⟩, fun D62 nD62 => ?_⟩
    refine lc_list (xs := us53.map V.ref) (fun i H' => Same H60 H' ∧ H' D62 = some (.lst (List.replicate i (.bl true)))) ⟨same_new nD62, upd_same⟩ (fun i H' _ h => .inl (.inl (h.1 _ _ e_D51))) (fun i v H' hv h => ?_) (fun H' h => ?_)
    · obtain ⟨sm, eD⟩ := h
      rw [List.getElem?_map] at hv
      obtain ⟨u0, hu0, rfl⟩ := Option.map_eq_some_iff.mp hv
      have hAs := tups_same sm hA_D51
      obtain ⟨w0, hw, eu0⟩ := tups_get hAs hu0
      have hwm := List.mem_of_getElem? hw
      have wp := gb w0 hwm
      have fk : Fi 1 (td w0) := fi_tup wp (by omega)
      refine ⟨rfl, yes_if ⟨_, rfl, .ref u0, td w0, rfl, .tup (.inl (.inl eu0)) (dp_nats _), fk.nar, fun H2 s2 => ?_⟩⟩
      refine ⟨_, rfl, iteY (is_pair_td wp (by omega)) ?_⟩
      refine ⟨_, rfl, u0, _, rfl, .inr (.inl (.inl (s2 _ _ eu0))), _, rfl, rfl, ?_⟩
      rw [show decide (V.int ((nv w0).length : Int) = V.int ((2 * r : Nat) : Int)) = true from decide_eq_true (by rw [nv_length, wp.len])]
      exact yes_next nD62 sm eD (by have := get_lt hw; omega) s2
    obtain ⟨s63, e_D62⟩ := h
    rw [List.length_map, hA_D51.length] at e_D62
    revert s63 e_D62; generalize H' = H64; intro s63 e_D62
    replace e_l38 := s63 _ _ e_l38
    replace e_D51 := s63 _ _ e_D51
    replace hA_D51 := tups_same s63 hA_D51
    replace hB := hB.same s63
    replace kH := kH.trans (Keep.of_same s63)
    refine ⟨D62, List.replicate (((L42).map fun w0 => pat r w0)).length true, rfl, by rw [List.map_replicate]; exact .inl (.inl e_D62), _, rfl, ?_⟩
    rw [all_rep]
    refine iteN ?_
    refine ⟨_, rfl, D51, rfl, ⟨_, .inl (.inl e_D51)⟩, fun D65 nD65 => ?_⟩
    refine lc_list (xs := us53.map V.ref) (fun i H' => Same H64 H' ∧ H' D65 = some (.lst (nv (((((L42).map fun w0 => pat r w0)).map fun w0 => prk r w0).take i)))) ⟨same_new nD65, upd_same⟩ (fun i H' _ h => .inl (.inl (h.1 _ _ e_D51))) (fun i v H' hv h => ?_) (fun H' h => ?_)
    · obtain ⟨sm, eD⟩ := h
      rw [List.getElem?_map] at hv
      obtain ⟨u0, hu0, rfl⟩ := Option.map_eq_some_iff.mp hv
      have hAs := tups_same sm hA_D51
      obtain ⟨w0, hw, eu0⟩ := tups_get hAs hu0
      have hwm := List.mem_of_getElem? hw
      have wp := gb w0 hwm
      have hk : ((((L42).map fun w0 => pat r w0)).map fun w0 => prk r w0)[i]? = some (prk r w0) := by rw [List.getElem?_map, hw]; rfl
      refine ⟨rfl, yes_if ⟨_, rfl, u0, w0, r, rfl, .inr (.inl (.inl eu0)), wp, by omega, fun H2 s2 => ?_⟩⟩
      exact nv_next nD65 sm eD hk (by rw [List.length_map]; omega) s2
    obtain ⟨s66, e_D65⟩ := h
    rw [List.length_map, hA_D51.length, show (((L42).map fun w0 => pat r w0)).length = ((((L42).map fun w0 => pat r w0)).map fun w0 => prk r w0).length from (List.length_map _).symm, List.take_length] at e_D65
    have ne_D65 : D65 ≠ b := (hB.ne_new nD65).symm
    revert s66 e_D65; generalize H' = H67; intro s66 e_D65
    replace e_l38 := s66 _ _ e_l38
    replace e_D51 := s66 _ _ e_D51
    replace hA_D51 := tups_same s66 hA_D51
    replace hB := hB.same s66
    replace kH := kH.trans (Keep.of_same s66)
    have en : (((((L42).map fun w0 => pat r w0)).map fun w0 => prk r w0)) = L42 := by rw [List.map_map]; exact (List.map_congr_left fun w0 hw => show prk r (pat r w0) = w0 from prk_pat (lt46 w0 hw)).trans (List.map_id' _)
    rw [en] at e_D65
    have fk68 : Fi 1 (.list (nd (L42))) := fi_lst (⟨by omega, fun i hi => by have := lt46 i hi; have := htop; omega⟩)
    refine ⟨_, rfl, _, _, _, rfl, .lst (.inl (.inl e_D65)) (dp_nats _), .lst (.inl (.inl e_l38)) (dp_nats _), Nat.lt_succ_of_le (Nat.le_trans fk68.depth (by decide)), fk68.nar, fun H69 s70 => ?_⟩
    replace e_l38 := s70 _ _ e_l38
    replace e_D51 := s70 _ _ e_D51
    replace hA_D51 := tups_same s70 hA_D51
    replace e_D65 := s70 _ _ e_D65
    replace hB := hB.same s70
    replace kH := kH.trans (Keep.of_same s70)
    refine ⟨true, rfl, iteN ?_⟩
    refine ⟨_, rfl, _, rfl, b, n + 941, (2 * r), rfl, hB.mono (by omega), by omega, by omega, fun H71 t72 ps73 hp74 k75 hB76 n77 e_t72 => ?_⟩
    obtain ⟨y_hy78, hy78⟩ := hB.lst
    clear hB
    have hB := hB76
    replace kH := kH.trans k75
    first | refine st_set [some (.ref b), some (.int ((2 * r) : Nat)), some (.int ((dfac r) : Nat)), some (.ref l38), none, some (.ref D51), some (.ref t72), none, none, none] ?_ rfl | refine st_eq [some (.ref b), some (.int ((2 * r) : Nat)), some (.int ((dfac r) : Nat)), some (.ref l38), none, some (.ref D51), some (.ref t72), none, none, none] ?_ rfl | refine st_eq (t := tSeq _ _) [some (.ref b), some (.int ((2 * r) : Nat)), some (.int ((dfac r) : Nat)), some (.ref l38), none, some (.ref D51), some (.ref t72), none, none, none] ?_ rfl
    have hcl := prk_lt hp74
    refine ⟨_, rfl, t72, ps73, r, rfl, .inr (.inl (.inl e_t72)), hp74, by omega, fun H79 s80 => ?_⟩
    replace e_t72 := s80 _ _ e_t72
    replace hB := hB.same s80
    replace kH := kH.trans (Keep.of_same s80)
    first | refine st_set [some (.ref b), some (.int ((2 * r) : Nat)), some (.int ((dfac r) : Nat)), some (.ref l38), some (.int ((prk r ps73) : Nat)), some (.ref D51), some (.ref t72), none, none, none] ?_ rfl | refine st_eq [some (.ref b), some (.int ((2 * r) : Nat)), some (.int ((dfac r) : Nat)), some (.ref l38), some (.int ((prk r ps73) : Nat)), some (.ref D51), some (.ref t72), none, none, none] ?_ rfl | refine st_eq (t := tSeq _ _) [some (.ref b), some (.int ((2 * r) : Nat)), some (.int ((dfac r) : Nat)), some (.ref l38), some (.int ((prk r ps73) : Nat)), some (.ref D51), some (.ref t72), none, none, none] ?_ rfl
    refine ⟨_, rfl, _, rfl, r, (prk r ps73), rfl, by omega, hcl, fun H81 t82 s83 n84 e_t82 => ?_⟩
    replace e_t72 := s83 _ _ e_t72
    replace hB := hB.same s83
    replace kH := kH.trans (Keep.of_same s83)
    rw [pat_prk hp74] at e_t82
    have fk85 : Fi 1 (td (ps73)) := fi_tup hp74 (by omega)
    refine ⟨_, rfl, _, _, .tup (.inl (.inl e_t82)) (dp_nats _), .tup (.inl (.inl e_t72)) (dp_nats _), fk85.sh, fk85.sh, _, rfl, iteX (fi_ne fk85) ?_⟩
    refine ⟨_, rfl, _, _, rfl, rfl, _, rfl, _, _, rfl, rfl, _, rfl, ?_⟩
    by_cases hA : ((prk r ps73 : Nat) : Int) + 1 < ((dfac r : Nat) : Int)
    · have hA := hA
      refine iteY (decide_eq_true hA) ?_
      have lt1 : prk r ps73 + 1 < dfac r := by omega
      refine ⟨_, rfl, _, rfl, _, _, rfl, rfl, r, prk r ps73 + 1, rfl, by omega, lt1, ?_⟩
      refine fun H86 t87 s88 n89 e_t87 => ?_
      replace e_t72 := s88 _ _ e_t72
      replace hB := hB.same s88
      replace kH := kH.trans (Keep.of_same s88)
      have hg : PySem.W.dataLt (td ps73) (td (pat r (prk r ps73 + 1))) = true := by
        have := lt_blw (pat_pair (show prk r ps73 < dfac r by omega)) (pat_pair lt1) (pat_lt (Nat.lt_succ_self _) lt1)
        rw [pat_prk hp74] at this
        exact this
      refine ⟨_, rfl, _, _, .tup (.inl (.inl e_t87)) (dp_nats _), .tup (.inl (.inl e_t72)) (dp_nats _), alike_td (by rw [(pat_pair lt1).len, hp74.len]), (fun z => by cases z), by show (PyData.tuple (nd _)).depth ≤ 64; exact Nat.le_trans (fi_tup (pat_pair lt1) (by omega) : Fi 1 (td _)).depth (by decide), _, rfl, ?_⟩
      refine iteX (by show (!PySem.W.dataLt (td ps73) (td (pat r (prk r ps73 + 1)))) = false; rw [hg]; rfl) ?_
      refine ⟨_, rfl, _, rfl, _, rfl, _, _, rfl, rfl, _, rfl, _, _, rfl, rfl, 10, 40, rfl, rfl, ⟨by decide, by decide, by decide⟩, (by show 5 ≤ sizeLine; decide), fun l90 nl90 => ?_⟩
      have s91 : Same H86 (upd H86 l90 (.tup [.int ((-1 : Int)), .int (((dfac r : Nat) : Int)), .int ((((dfac r : Nat) : Int) + 5)), .int ((0 - ((dfac r : Nat) : Int))), .int (((10 : Int) ^ Int.toNat 40))])) := same_new nl90
      have e_l90 : upd H86 l90 (.tup [.int ((-1 : Int)), .int (((dfac r : Nat) : Int)), .int ((((dfac r : Nat) : Int) + 5)), .int ((0 - ((dfac r : Nat) : Int))), .int (((10 : Int) ^ Int.toNat 40))]) l90 = some (.tup [.int ((-1 : Int)), .int (((dfac r : Nat) : Int)), .int ((((dfac r : Nat) : Int) + 5)), .int ((0 - ((dfac r : Nat) : Int))), .int (((10 : Int) ^ Int.toNat 40))]) := upd_same
      revert s91 e_l90; generalize upd H86 l90 (.tup [.int ((-1 : Int)), .int (((dfac r : Nat) : Int)), .int ((((dfac r : Nat) : Int) + 5)), .int ((0 - ((dfac r : Nat) : Int))), .int (((10 : Int) ^ Int.toNat 40))]) = H92; intro s91 e_l90
      replace e_t72 := s91 _ _ e_t72
      replace hB := hB.same s91
      replace kH := kH.trans (Keep.of_same s91)
      refine ⟨l90, rfl, ⟨_, .inl (.inl e_l90)⟩, fun D93 nD93 => ?_⟩
      refine lc_tup (xs := [V.int (-1 : Int), V.int ((dfac r : Nat) : Int), V.int (((dfac r : Nat) : Int) + 5), V.int (0 - ((dfac r : Nat) : Int)), V.int ((10 : Int) ^ Int.toNat 40)]) (fun i H' => Same H92 H' ∧ H' D93 = some (.lst (List.replicate i (.bl true)))) ⟨same_new nD93, upd_same⟩ (fun i H' _ h => .inl (.inl (h.1 _ _ e_l90))) (fun i v H' hv h => ?_) (fun H' h => ?_)
      · obtain ⟨sm, eD⟩ := h
        have hi : i < 5 := get_lt hv
        have big : ((dfac r : Nat) : Int) < (10 : Int) ^ Int.toNat 40 := Int.lt_of_le_of_lt (show ((dfac r : Nat) : Int) ≤ 654729075 by omega) (by decide)
        obtain ⟨u, rfl, hu⟩ : ∃ u : Int, v = .int u ∧ ¬ (0 ≤ u ∧ u < ((dfac r : Nat) : Int)) := by
          rcases (show i = 0 ∨ i = 1 ∨ i = 2 ∨ i = 3 ∨ i = 4 by omega) with z | z | z | z | z <;> subst z <;> refine ⟨_, (Option.some.inj hv).symm, ?_⟩ <;> omega
        refine ⟨rfl, yes_if ⟨_, rfl, _, rfl, r, u, rfl, by omega, hu, fun H2 s2 => ⟨_, rfl, _, _, .int u, rfl, .int _, .int _, (show 0 < 4 by decide), trivial, fun H3 s3 => ?_⟩⟩⟩
        exact yes_next nD93 sm eD (by omega) (s2.trans s3)
      obtain ⟨sL, eD⟩ := h
      refine ⟨D93, List.replicate 5 true, rfl, by rw [List.map_replicate]; exact .inl (.inl eD), ?_⟩
      rw [all_rep]
      exact q _ (kH.trans (Keep.of_same sL)) ((hB.same sL).mono (by omega))
    · have hA := hA
      refine iteX (decide_eq_false hA) ?_
      refine ⟨_, rfl, _, rfl, _, rfl, _, _, rfl, rfl, _, rfl, _, _, rfl, rfl, 10, 40, rfl, rfl, ⟨by decide, by decide, by decide⟩, (by show 5 ≤ sizeLine; decide), fun l94 nl94 => ?_⟩
      have s95 : Same H81 (upd H81 l94 (.tup [.int ((-1 : Int)), .int (((dfac r : Nat) : Int)), .int ((((dfac r : Nat) : Int) + 5)), .int ((0 - ((dfac r : Nat) : Int))), .int (((10 : Int) ^ Int.toNat 40))])) := same_new nl94
      have e_l94 : upd H81 l94 (.tup [.int ((-1 : Int)), .int (((dfac r : Nat) : Int)), .int ((((dfac r : Nat) : Int) + 5)), .int ((0 - ((dfac r : Nat) : Int))), .int (((10 : Int) ^ Int.toNat 40))]) l94 = some (.tup [.int ((-1 : Int)), .int (((dfac r : Nat) : Int)), .int ((((dfac r : Nat) : Int) + 5)), .int ((0 - ((dfac r : Nat) : Int))), .int (((10 : Int) ^ Int.toNat 40))]) := upd_same
      revert s95 e_l94; generalize upd H81 l94 (.tup [.int ((-1 : Int)), .int (((dfac r : Nat) : Int)), .int ((((dfac r : Nat) : Int) + 5)), .int ((0 - ((dfac r : Nat) : Int))), .int (((10 : Int) ^ Int.toNat 40))]) = H96; intro s95 e_l94
      replace e_t72 := s95 _ _ e_t72
      replace hB := hB.same s95
      replace kH := kH.trans (Keep.of_same s95)
      refine ⟨l94, rfl, ⟨_, .inl (.inl e_l94)⟩, fun D97 nD97 => ?_⟩
      refine lc_tup (xs := [V.int (-1 : Int), V.int ((dfac r : Nat) : Int), V.int (((dfac r : Nat) : Int) + 5), V.int (0 - ((dfac r : Nat) : Int)), V.int ((10 : Int) ^ Int.toNat 40)]) (fun i H' => Same H96 H' ∧ H' D97 = some (.lst (List.replicate i (.bl true)))) ⟨same_new nD97, upd_same⟩ (fun i H' _ h => .inl (.inl (h.1 _ _ e_l94))) (fun i v H' hv h => ?_) (fun H' h => ?_)
      · obtain ⟨sm, eD⟩ := h
        have hi : i < 5 := get_lt hv
        have big : ((dfac r : Nat) : Int) < (10 : Int) ^ Int.toNat 40 := Int.lt_of_le_of_lt (show ((dfac r : Nat) : Int) ≤ 654729075 by omega) (by decide)
        obtain ⟨u, rfl, hu⟩ : ∃ u : Int, v = .int u ∧ ¬ (0 ≤ u ∧ u < ((dfac r : Nat) : Int)) := by
          rcases (show i = 0 ∨ i = 1 ∨ i = 2 ∨ i = 3 ∨ i = 4 by omega) with z | z | z | z | z <;> subst z <;> refine ⟨_, (Option.some.inj hv).symm, ?_⟩ <;> omega
        refine ⟨rfl, yes_if ⟨_, rfl, _, rfl, r, u, rfl, by omega, hu, fun H2 s2 => ⟨_, rfl, _, _, .int u, rfl, .int _, .int _, (show 0 < 4 by decide), trivial, fun H3 s3 => ?_⟩⟩⟩
        exact yes_next nD97 sm eD (by omega) (s2.trans s3)
      obtain ⟨sL, eD⟩ := h
      refine ⟨D97, List.replicate 5 true, rfl, by rw [List.map_replicate]; exact .inl (.inl eD), ?_⟩
      rw [all_rep]
      exact q _ (kH.trans (Keep.of_same sL)) ((hB.same sL).mono (by omega))
end
end Pc
namespace Pc
open PySem PySem.Spec PyProof.Rows L2 RZ
section
variable {P : Program} {w : World} {K : PySem.W.Frag} {mg : Str → Option Value} {base : Heap}
/-! ### the law -/
def spLaw (K : PySem.W.Frag) : Sp := fun vs H Q _ => ∃ (a : Addr) (ns : List Int), vs = [.ref a] ∧ SqL K H a (ns.map V.int) ∧ ns.length ≤ 63 ∧ ∀ H', Q (.bl true) H'
theorem ok_law (T : Env K mg) {f : Addr} {fd : FuncData} (F : Fun K "law" "law" s_law f fd) : FnOk P w K mg base CX0 9 f fd ["_law_script"] (spLaw K) := by
  have GC : FnOk P w K mg base CX0 1 T.f_cells T.d_cells ["_law_script", "_law_most"] (spCells K) := ok_cells T
  have GB : FnOk P w K mg base CX0 1 T.f_box T.d_box ["_law_script", "_law_k"] (spBox K) := ok_box T
  have GR : FnOk P w K mg base CX0 8 T.f_right T.d_right ["_law_box_here"] spRight := ok_right T
  refine F.ok sc_law (fun vs H Q E h => ?_) (fun cdv A outer s H vs Q E hr h => ?_)
  · obtain ⟨a, ns, rfl, _⟩ := h
    rfl
  · obtain ⟨a, ns, rfl, hS, hn, q⟩ := h
    have h1 := hr.mono (show 1 ≤ 8 by decide)
    refine ⟨_, pss_cons (ps_set (i := 1) sc_law.nd rfl (.inl rfl) (pe_call GC h1 (by rfl) T.g_cells T.F_cells.kp T.b_cells .nil pass0 (pa_cons (pv 0) (pa_cons pe_int pa_nil)))) <|
      pss_cons (ps_for PassesOwn.never rfl (pi_range1 (by rfl) T.n_range (pa_cons (pe_callB call_len_seq (by rfl) T.n_len PySem.boot_len (pa_cons (pv 1) pa_nil)) pa_nil)) (pg_name (i := 2) sc_law.nd rfl (.inl rfl))
        (pss_cons (ps_set (i := 3) sc_law.nd rfl (.inr rfl) (pe_call GB h1 (by rfl) T.g_box T.F_box.kp T.b_box .nil pass0 (pa_cons (pv 1) (pa_cons (pv 2) pa_nil))))
        (pss_one (ps_if (pt_not (pt_val (pe_callB (cr_all rfl) (by rfl) T.n_all (by decide +kernel) (pa_cons
          (pe_lc (own := [("_law_turn", 4)]) (g := gName 4) (tt := tYes) rfl sc_law.nd (pi_range1 (by rfl) T.n_range (pa_cons pe_int pa_nil)) (blkOk_by (N := N_law) (sc := defScope s_law) (by decide +kernel))
            (fun _ _ _ _ _ => pg_name (i := 4) sc_law.nd rfl (.inl rfl)) (fun _ _ _ _ _ => pts_nil)
            (fun _ _ _ _ _ => pe_call GR hr (by rfl) T.g_right T.F_right.kp T.b_right .nil pass0 (pa_cons (pv 3) pa_nil))) pa_nil)))) (pss_one (ps_ret pe_bl)) pss_nil)))) <|
      pss_one (ps_ret pe_bl), ?_⟩
    refine ⟨.ref a, rfl, a, ns, 3, rfl, hS, hn, by decide, by decide, fun Hc p cs sc np ep hc1 hc2 => ?_⟩
    have hlen : (cs.map V.int).length = cs.length := List.length_map _
    refine ⟨.ref p, rfl, p, _, rfl, .inl (.inl (.inl ep)), _, rfl, by omega, by omega, ?_⟩
    have hj : ((cs.map V.int).length : Int).toNat = cs.length := by rw [hlen]; rfl
    rw [hj]
    refine for_range (fun i σ H' => H' p = some (.lst (cs.map V.int)) ∧ ∃ (y2 y3 y4 : Option V), σ = [some (.ref a), some (.ref p), y2, y3, y4]) ⟨ep, none, none, none, rfl⟩ (fun i σ H1 hi hPv => ?_) (fun σ H' hPv => q _)
    obtain ⟨ep1, y2, y3, y4, rfl⟩ := hPv
    refine ⟨.ref p, rfl, _, rfl, p, cs, i, ?_, .inl (.inl ep1), by omega, fun Hb b sb nb hBb => ?_⟩
    · show [V.ref p, V.int ((0 : Int) + (i : Nat))] = _
      rw [Int.zero_add]
    have epb := sb _ _ ep1
    have pb : p ≠ b := ne_of_none ep1 nb
    refine ⟨2, rfl, by decide, by decide, fun D nD => ?_⟩
    have bD : b ≠ D := hBb.ne_new nD
    have pD : p ≠ D := ne_of_none epb nD
    refine lc_range (n := 2) (fun j H' => H' p = some (.lst (cs.map V.int)) ∧ Box (1000 * (2 - j)) H' b ∧ H' D = some (.lst (List.replicate j (.bl true))))
      ⟨same_new nD _ _ epb, (hBb.same (same_new nD)).mono (by decide), upd_same⟩ (fun j H' hj hPv => ?_) (fun H' hPv => ?_)
    · obtain ⟨ep', hB', eD⟩ := hPv
      refine ⟨rfl, yes_if ⟨_, rfl, b, 1000 * (2 - (j + 1)), rfl, hB'.mono (by omega), fun H2 k2 hB2 => ⟨_, k2 _ _ bD.symm eD, ?_, ?_, ?_, ?_⟩⟩⟩
      · rw [List.length_replicate]; exact small1000 (by omega)
      · rw [upd_ne pD]; exact k2 _ _ pb ep'
      · exact hB2.keep (c := D) keep_upd bD
      · rw [upd_same, List.replicate_succ']
    · obtain ⟨ep', hB', eD⟩ := hPv
      refine ⟨D, List.replicate 2 true, rfl, by rw [List.map_replicate]; exact .inl (.inl eD), _, rfl, ?_⟩
      rw [all_rep]
      exact iteN ⟨ep', _, _, _, rfl⟩
end
end Pc
namespace Pc
open PySem PySem.Spec PyProof.Rows L2 RZ
theorem all_mk {l : PySem.W.OpenLaw} {w : World} {K : PySem.W.Frag} {h : Heap} {mg : Str → Option Value} {fa f_p_is_integer_below f_p_joins_in_pairs f_p_is_pairing f_p_pairing_of f_p_pairings_many f_p_pairing_at f_p_pairing_number f_box f_take f_cells f_strewn f_same f_paired f_random f_every f_of_couples f_odd_product f_refused f_few_right f_right f_law C_NoNumber C_NoDeed C_NoPerson f_i_NoNumber : Addr} (X : K.In h) (G : h.Ns mainGlobals mg) (hfa : mg "law" = some (.ref fa))
    {od_p_is_integer_below an_p_is_integer_below : Option Addr} {sl_p_is_integer_below : Array (Option Value)} {oc_p_is_integer_below kV_p_is_integer_below dc_p_is_integer_below pm_p_is_integer_below cd_p_is_integer_below ct_p_is_integer_below : Value}
    {od_p_joins_in_pairs an_p_joins_in_pairs : Option Addr} {sl_p_joins_in_pairs : Array (Option Value)} {oc_p_joins_in_pairs kV_p_joins_in_pairs dc_p_joins_in_pairs pm_p_joins_in_pairs cd_p_joins_in_pairs ct_p_joins_in_pairs : Value}
    {od_p_is_pairing an_p_is_pairing : Option Addr} {sl_p_is_pairing : Array (Option Value)} {oc_p_is_pairing kV_p_is_pairing dc_p_is_pairing pm_p_is_pairing cd_p_is_pairing ct_p_is_pairing : Value}
    {od_p_pairing_of an_p_pairing_of : Option Addr} {sl_p_pairing_of : Array (Option Value)} {oc_p_pairing_of kV_p_pairing_of dc_p_pairing_of pm_p_pairing_of cd_p_pairing_of ct_p_pairing_of : Value}
    {od_p_pairings_many an_p_pairings_many : Option Addr} {sl_p_pairings_many : Array (Option Value)} {oc_p_pairings_many kV_p_pairings_many dc_p_pairings_many pm_p_pairings_many cd_p_pairings_many ct_p_pairings_many : Value}
    {od_p_pairing_at an_p_pairing_at : Option Addr} {sl_p_pairing_at : Array (Option Value)} {oc_p_pairing_at kV_p_pairing_at dc_p_pairing_at pm_p_pairing_at cd_p_pairing_at ct_p_pairing_at : Value}
    {od_p_pairing_number an_p_pairing_number : Option Addr} {sl_p_pairing_number : Array (Option Value)} {oc_p_pairing_number kV_p_pairing_number dc_p_pairing_number pm_p_pairing_number cd_p_pairing_number ct_p_pairing_number : Value}
    {od_box an_box : Option Addr} {sl_box : Array (Option Value)} {oc_box kV_box dc_box pm_box cd_box ct_box : Value}
    {od_take an_take : Option Addr} {sl_take : Array (Option Value)} {oc_take kV_take dc_take pm_take cd_take ct_take : Value}
    {od_cells an_cells : Option Addr} {sl_cells : Array (Option Value)} {oc_cells kV_cells dc_cells pm_cells cd_cells ct_cells : Value}
    {od_strewn an_strewn : Option Addr} {sl_strewn : Array (Option Value)} {oc_strewn kV_strewn dc_strewn pm_strewn cd_strewn ct_strewn : Value}
    {od_same an_same : Option Addr} {sl_same : Array (Option Value)} {oc_same kV_same dc_same pm_same cd_same ct_same : Value}
    {od_paired an_paired : Option Addr} {sl_paired : Array (Option Value)} {oc_paired kV_paired dc_paired pm_paired cd_paired ct_paired : Value}
    {od_random an_random : Option Addr} {sl_random : Array (Option Value)} {oc_random kV_random dc_random pm_random cd_random ct_random : Value}
    {od_every an_every : Option Addr} {sl_every : Array (Option Value)} {oc_every kV_every dc_every pm_every cd_every ct_every : Value}
    {od_of_couples an_of_couples : Option Addr} {sl_of_couples : Array (Option Value)} {oc_of_couples kV_of_couples dc_of_couples pm_of_couples cd_of_couples ct_of_couples : Value}
    {od_odd_product an_odd_product : Option Addr} {sl_odd_product : Array (Option Value)} {oc_odd_product kV_odd_product dc_odd_product pm_odd_product cd_odd_product ct_odd_product : Value}
    {od_refused an_refused : Option Addr} {sl_refused : Array (Option Value)} {oc_refused kV_refused dc_refused pm_refused cd_refused ct_refused : Value}
    {od_few_right an_few_right : Option Addr} {sl_few_right : Array (Option Value)} {oc_few_right kV_few_right dc_few_right pm_few_right cd_few_right ct_few_right : Value}
    {od_right an_right : Option Addr} {sl_right : Array (Option Value)} {oc_right kV_right dc_right pm_right cd_right ct_right : Value}
    {od_law an_law : Option Addr} {sl_law : Array (Option Value)} {oc_law kV_law dc_law pm_law cd_law ct_law : Value}
    {nm_NoNumber qn_NoNumber : Str} {Nn_NoNumber : Addr} {bs_NoNumber : List Value} {sn_NoNumber : List Str} {sub_NoNumber : List Value} {ab_NoNumber : Bool} {col_NoNumber : Option Bool} {dd_NoNumber : Option Addr} {m0_NoNumber m1_NoNumber m2_NoNumber m3_NoNumber m5_NoNumber : Option Value} {od_i_NoNumber an_i_NoNumber : Option Addr} {sl_i_NoNumber : Array (Option Value)} {oc_i_NoNumber kV_i_NoNumber dc_i_NoNumber pm_i_NoNumber cd_i_NoNumber ct_i_NoNumber : Value}
    (a_p_is_integer_below : PySem.W.nsIn K mainGlobals "is_integer_below" = some (some (.ref f_p_is_integer_below))) (l_p_is_integer_below : K.lookup f_p_is_integer_below = some ⟨oc_p_is_integer_below, od_p_is_integer_below, .func (PySem.W.fnOf "is_integer_below" "is_integer_below" (defArgs s_p_is_integer_below) (defBody s_p_is_integer_below) (defScope s_p_is_integer_below) .none kV_p_is_integer_below dc_p_is_integer_below pm_p_is_integer_below an_p_is_integer_below cd_p_is_integer_below ct_p_is_integer_below), sl_p_is_integer_below⟩) (c_p_is_integer_below : PySem.W.codeIn K cd_p_is_integer_below "is_integer_below" = true) (k_p_is_integer_below : PySem.W.keepIn K (.ref f_p_is_integer_below) = true)
    (a_p_joins_in_pairs : PySem.W.nsIn K mainGlobals "joins_in_pairs" = some (some (.ref f_p_joins_in_pairs))) (l_p_joins_in_pairs : K.lookup f_p_joins_in_pairs = some ⟨oc_p_joins_in_pairs, od_p_joins_in_pairs, .func (PySem.W.fnOf "joins_in_pairs" "joins_in_pairs" (defArgs s_p_joins_in_pairs) (defBody s_p_joins_in_pairs) (defScope s_p_joins_in_pairs) .none kV_p_joins_in_pairs dc_p_joins_in_pairs pm_p_joins_in_pairs an_p_joins_in_pairs cd_p_joins_in_pairs ct_p_joins_in_pairs), sl_p_joins_in_pairs⟩) (c_p_joins_in_pairs : PySem.W.codeIn K cd_p_joins_in_pairs "joins_in_pairs" = true) (k_p_joins_in_pairs : PySem.W.keepIn K (.ref f_p_joins_in_pairs) = true)
    (a_p_is_pairing : PySem.W.nsIn K mainGlobals "is_pairing" = some (some (.ref f_p_is_pairing))) (l_p_is_pairing : K.lookup f_p_is_pairing = some ⟨oc_p_is_pairing, od_p_is_pairing, .func (PySem.W.fnOf "is_pairing" "is_pairing" (defArgs s_p_is_pairing) (defBody s_p_is_pairing) (defScope s_p_is_pairing) .none kV_p_is_pairing dc_p_is_pairing pm_p_is_pairing an_p_is_pairing cd_p_is_pairing ct_p_is_pairing), sl_p_is_pairing⟩) (c_p_is_pairing : PySem.W.codeIn K cd_p_is_pairing "is_pairing" = true) (k_p_is_pairing : PySem.W.keepIn K (.ref f_p_is_pairing) = true)
    (a_p_pairing_of : PySem.W.nsIn K mainGlobals "pairing_of" = some (some (.ref f_p_pairing_of))) (l_p_pairing_of : K.lookup f_p_pairing_of = some ⟨oc_p_pairing_of, od_p_pairing_of, .func (PySem.W.fnOf "pairing_of" "pairing_of" (defArgs s_p_pairing_of) (defBody s_p_pairing_of) (defScope s_p_pairing_of) .none kV_p_pairing_of dc_p_pairing_of pm_p_pairing_of an_p_pairing_of cd_p_pairing_of ct_p_pairing_of), sl_p_pairing_of⟩) (c_p_pairing_of : PySem.W.codeIn K cd_p_pairing_of "pairing_of" = true) (k_p_pairing_of : PySem.W.keepIn K (.ref f_p_pairing_of) = true)
    (a_p_pairings_many : PySem.W.nsIn K mainGlobals "pairings_many" = some (some (.ref f_p_pairings_many))) (l_p_pairings_many : K.lookup f_p_pairings_many = some ⟨oc_p_pairings_many, od_p_pairings_many, .func (PySem.W.fnOf "pairings_many" "pairings_many" (defArgs s_p_pairings_many) (defBody s_p_pairings_many) (defScope s_p_pairings_many) .none kV_p_pairings_many dc_p_pairings_many pm_p_pairings_many an_p_pairings_many cd_p_pairings_many ct_p_pairings_many), sl_p_pairings_many⟩) (c_p_pairings_many : PySem.W.codeIn K cd_p_pairings_many "pairings_many" = true) (k_p_pairings_many : PySem.W.keepIn K (.ref f_p_pairings_many) = true)
    (a_p_pairing_at : PySem.W.nsIn K mainGlobals "pairing_at" = some (some (.ref f_p_pairing_at))) (l_p_pairing_at : K.lookup f_p_pairing_at = some ⟨oc_p_pairing_at, od_p_pairing_at, .func (PySem.W.fnOf "pairing_at" "pairing_at" (defArgs s_p_pairing_at) (defBody s_p_pairing_at) (defScope s_p_pairing_at) .none kV_p_pairing_at dc_p_pairing_at pm_p_pairing_at an_p_pairing_at cd_p_pairing_at ct_p_pairing_at), sl_p_pairing_at⟩) (c_p_pairing_at : PySem.W.codeIn K cd_p_pairing_at "pairing_at" = true) (k_p_pairing_at : PySem.W.keepIn K (.ref f_p_pairing_at) = true)
    (a_p_pairing_number : PySem.W.nsIn K mainGlobals "pairing_number" = some (some (.ref f_p_pairing_number))) (l_p_pairing_number : K.lookup f_p_pairing_number = some ⟨oc_p_pairing_number, od_p_pairing_number, .func (PySem.W.fnOf "pairing_number" "pairing_number" (defArgs s_p_pairing_number) (defBody s_p_pairing_number) (defScope s_p_pairing_number) .none kV_p_pairing_number dc_p_pairing_number pm_p_pairing_number an_p_pairing_number cd_p_pairing_number ct_p_pairing_number), sl_p_pairing_number⟩) (c_p_pairing_number : PySem.W.codeIn K cd_p_pairing_number "pairing_number" = true) (k_p_pairing_number : PySem.W.keepIn K (.ref f_p_pairing_number) = true)
    (a_box : PySem.W.nsIn K mainGlobals "_law_box" = some (some (.ref f_box))) (l_box : K.lookup f_box = some ⟨oc_box, od_box, .func (PySem.W.fnOf "_law_box" "_law_box" (defArgs s_box) (defBody s_box) (defScope s_box) .none kV_box dc_box pm_box an_box cd_box ct_box), sl_box⟩) (c_box : PySem.W.codeIn K cd_box "_law_box" = true) (k_box : PySem.W.keepIn K (.ref f_box) = true)
    (a_take : PySem.W.nsIn K mainGlobals "_law_take" = some (some (.ref f_take))) (l_take : K.lookup f_take = some ⟨oc_take, od_take, .func (PySem.W.fnOf "_law_take" "_law_take" (defArgs s_take) (defBody s_take) (defScope s_take) .none kV_take dc_take pm_take an_take cd_take ct_take), sl_take⟩) (c_take : PySem.W.codeIn K cd_take "_law_take" = true) (k_take : PySem.W.keepIn K (.ref f_take) = true)
    (a_cells : PySem.W.nsIn K mainGlobals "_law_cells" = some (some (.ref f_cells))) (l_cells : K.lookup f_cells = some ⟨oc_cells, od_cells, .func (PySem.W.fnOf "_law_cells" "_law_cells" (defArgs s_cells) (defBody s_cells) (defScope s_cells) .none kV_cells dc_cells pm_cells an_cells cd_cells ct_cells), sl_cells⟩) (c_cells : PySem.W.codeIn K cd_cells "_law_cells" = true) (k_cells : PySem.W.keepIn K (.ref f_cells) = true)
    (a_strewn : PySem.W.nsIn K mainGlobals "_law_strewn" = some (some (.ref f_strewn))) (l_strewn : K.lookup f_strewn = some ⟨oc_strewn, od_strewn, .func (PySem.W.fnOf "_law_strewn" "_law_strewn" (defArgs s_strewn) (defBody s_strewn) (defScope s_strewn) .none kV_strewn dc_strewn pm_strewn an_strewn cd_strewn ct_strewn), sl_strewn⟩) (c_strewn : PySem.W.codeIn K cd_strewn "_law_strewn" = true) (k_strewn : PySem.W.keepIn K (.ref f_strewn) = true)
    (a_same : PySem.W.nsIn K mainGlobals "_law_same" = some (some (.ref f_same))) (l_same : K.lookup f_same = some ⟨oc_same, od_same, .func (PySem.W.fnOf "_law_same" "_law_same" (defArgs s_same) (defBody s_same) (defScope s_same) .none kV_same dc_same pm_same an_same cd_same ct_same), sl_same⟩) (c_same : PySem.W.codeIn K cd_same "_law_same" = true) (k_same : PySem.W.keepIn K (.ref f_same) = true)
    (a_paired : PySem.W.nsIn K mainGlobals "_law_paired" = some (some (.ref f_paired))) (l_paired : K.lookup f_paired = some ⟨oc_paired, od_paired, .func (PySem.W.fnOf "_law_paired" "_law_paired" (defArgs s_paired) (defBody s_paired) (defScope s_paired) .none kV_paired dc_paired pm_paired an_paired cd_paired ct_paired), sl_paired⟩) (c_paired : PySem.W.codeIn K cd_paired "_law_paired" = true) (k_paired : PySem.W.keepIn K (.ref f_paired) = true)
    (a_random : PySem.W.nsIn K mainGlobals "_law_random" = some (some (.ref f_random))) (l_random : K.lookup f_random = some ⟨oc_random, od_random, .func (PySem.W.fnOf "_law_random" "_law_random" (defArgs s_random) (defBody s_random) (defScope s_random) .none kV_random dc_random pm_random an_random cd_random ct_random), sl_random⟩) (c_random : PySem.W.codeIn K cd_random "_law_random" = true) (k_random : PySem.W.keepIn K (.ref f_random) = true)
    (a_every : PySem.W.nsIn K mainGlobals "_law_every" = some (some (.ref f_every))) (l_every : K.lookup f_every = some ⟨oc_every, od_every, .func (PySem.W.fnOf "_law_every" "_law_every" (defArgs s_every) (defBody s_every) (defScope s_every) .none kV_every dc_every pm_every an_every cd_every ct_every), sl_every⟩) (c_every : PySem.W.codeIn K cd_every "_law_every" = true) (k_every : PySem.W.keepIn K (.ref f_every) = true)
    (a_of_couples : PySem.W.nsIn K mainGlobals "_law_of_couples" = some (some (.ref f_of_couples))) (l_of_couples : K.lookup f_of_couples = some ⟨oc_of_couples, od_of_couples, .func (PySem.W.fnOf "_law_of_couples" "_law_of_couples" (defArgs s_of_couples) (defBody s_of_couples) (defScope s_of_couples) .none kV_of_couples dc_of_couples pm_of_couples an_of_couples cd_of_couples ct_of_couples), sl_of_couples⟩) (c_of_couples : PySem.W.codeIn K cd_of_couples "_law_of_couples" = true) (k_of_couples : PySem.W.keepIn K (.ref f_of_couples) = true)
    (a_odd_product : PySem.W.nsIn K mainGlobals "_law_odd_product" = some (some (.ref f_odd_product))) (l_odd_product : K.lookup f_odd_product = some ⟨oc_odd_product, od_odd_product, .func (PySem.W.fnOf "_law_odd_product" "_law_odd_product" (defArgs s_odd_product) (defBody s_odd_product) (defScope s_odd_product) .none kV_odd_product dc_odd_product pm_odd_product an_odd_product cd_odd_product ct_odd_product), sl_odd_product⟩) (c_odd_product : PySem.W.codeIn K cd_odd_product "_law_odd_product" = true) (k_odd_product : PySem.W.keepIn K (.ref f_odd_product) = true)
    (a_refused : PySem.W.nsIn K mainGlobals "_law_refused" = some (some (.ref f_refused))) (l_refused : K.lookup f_refused = some ⟨oc_refused, od_refused, .func (PySem.W.fnOf "_law_refused" "_law_refused" (defArgs s_refused) (defBody s_refused) (defScope s_refused) .none kV_refused dc_refused pm_refused an_refused cd_refused ct_refused), sl_refused⟩) (c_refused : PySem.W.codeIn K cd_refused "_law_refused" = true) (k_refused : PySem.W.keepIn K (.ref f_refused) = true)
    (a_few_right : PySem.W.nsIn K mainGlobals "_law_few_right" = some (some (.ref f_few_right))) (l_few_right : K.lookup f_few_right = some ⟨oc_few_right, od_few_right, .func (PySem.W.fnOf "_law_few_right" "_law_few_right" (defArgs s_few_right) (defBody s_few_right) (defScope s_few_right) .none kV_few_right dc_few_right pm_few_right an_few_right cd_few_right ct_few_right), sl_few_right⟩) (c_few_right : PySem.W.codeIn K cd_few_right "_law_few_right" = true) (k_few_right : PySem.W.keepIn K (.ref f_few_right) = true)
    (a_right : PySem.W.nsIn K mainGlobals "_law_right" = some (some (.ref f_right))) (l_right : K.lookup f_right = some ⟨oc_right, od_right, .func (PySem.W.fnOf "_law_right" "_law_right" (defArgs s_right) (defBody s_right) (defScope s_right) .none kV_right dc_right pm_right an_right cd_right ct_right), sl_right⟩) (c_right : PySem.W.codeIn K cd_right "_law_right" = true) (k_right : PySem.W.keepIn K (.ref f_right) = true)
    (a_law : PySem.W.nsIn K mainGlobals "law" = some (some (.ref f_law))) (l_law : K.lookup f_law = some ⟨oc_law, od_law, .func (PySem.W.fnOf "law" "law" (defArgs s_law) (defBody s_law) (defScope s_law) .none kV_law dc_law pm_law an_law cd_law ct_law), sl_law⟩) (c_law : PySem.W.codeIn K cd_law "law" = true) (k_law : PySem.W.keepIn K (.ref f_law) = true)
    (aC_NoNumber : PySem.W.nsIn K mainGlobals "NoNumber" = some (some (.ref C_NoNumber)))
    (eC_NoNumber : PySem.W.subIn K (.ref C_NoNumber) (.type "BaseException") = some true)
    (tC_NoNumber : PySem.W.typeIn K (.ref C_NoNumber) = some (.type "type"))
    (is_NoNumber : PySem.W.isClsIn K C_NoNumber = true)
    (aC_NoDeed : PySem.W.nsIn K mainGlobals "NoDeed" = some (some (.ref C_NoDeed)))
    (eC_NoDeed : PySem.W.subIn K (.ref C_NoDeed) (.type "BaseException") = some true)
    (tC_NoDeed : PySem.W.typeIn K (.ref C_NoDeed) = some (.type "type"))
    (is_NoDeed : PySem.W.isClsIn K C_NoDeed = true)
    (aC_NoPerson : PySem.W.nsIn K mainGlobals "NoPerson" = some (some (.ref C_NoPerson)))
    (eC_NoPerson : PySem.W.subIn K (.ref C_NoPerson) (.type "BaseException") = some true)
    (tC_NoPerson : PySem.W.typeIn K (.ref C_NoPerson) = some (.type "type"))
    (is_NoPerson : PySem.W.isClsIn K C_NoPerson = true)
    (xC_NoNumber : K.lookup C_NoNumber = some (excClassObj nm_NoNumber qn_NoNumber C_NoNumber Nn_NoNumber bs_NoNumber [.type "LookupError", .type "Exception", .type "BaseException", .type "object"] true sn_NoNumber sub_NoNumber ab_NoNumber col_NoNumber dd_NoNumber m0_NoNumber m1_NoNumber m2_NoNumber m3_NoNumber m5_NoNumber "LookupError.__new__"))
    (sa_NoNumber : PySem.W.findIn K (.ref C_NoNumber) "__setattr__" = some (some (.builtin "object.__setattr__")))
    (ga_NoNumber : PySem.W.findIn K (.ref C_NoNumber) "__getattribute__" = some (some (.builtin "BaseException.__getattribute__")))
    (gg_NoNumber : PySem.W.findIn K (.ref C_NoNumber) "__getattr__" = some none)
    (kC_NoNumber : PySem.W.keepIn K (.ref C_NoNumber) = true)
    (hC_NoNumber : PySem.W.hasDictIn K C_NoNumber = true)
    (cl_NoNumber : PySem.W.findIn K (.ref C_NoNumber) "__class__" = some (some (.builtin "object.__class__")))
    (mr_NoNumber : PySem.W.mroIn K C_NoNumber (.type "object") = some true)
    (iC_NoNumber : PySem.W.findIn K (.ref C_NoNumber) "__init__" = some (some (.ref f_i_NoNumber)))
    (tI_NoNumber : PySem.W.typeIn K (.ref f_i_NoNumber) = some (.type "function"))
    (lI_NoNumber : K.lookup f_i_NoNumber = some ⟨oc_i_NoNumber, od_i_NoNumber, .func (PySem.W.fnOf "__init__" "NoNumber.__init__" (defArgs s_i_NoNumber) (defBody s_i_NoNumber) (defScope s_i_NoNumber) .none kV_i_NoNumber dc_i_NoNumber pm_i_NoNumber an_i_NoNumber cd_i_NoNumber ct_i_NoNumber), sl_i_NoNumber⟩)
    (cI_NoNumber : PySem.W.codeIn K cd_i_NoNumber "NoNumber.__init__" = true)
    (kI_NoNumber : PySem.W.keepIn K (.ref f_i_NoNumber) = true)
    (su_NoNumber : PySem.W.subIn K (.ref C_NoNumber) (.ref C_NoNumber) = some true)
    (no_NoNumber : PySem.W.findIn K (.ref C_NoNumber) "number" = some none)
    (su_NoNumber_NoDeed : PySem.W.subIn K (.ref C_NoNumber) (.ref C_NoDeed) = some false)
    (su_NoNumber_NoPerson : PySem.W.subIn K (.ref C_NoNumber) (.ref C_NoPerson) = some false)
    (sb_NoNumber_LookupError : PySem.W.subIn K (.ref C_NoNumber) (.type "LookupError") = some true)
    (sb_NoNumber_IndexError : PySem.W.subIn K (.ref C_NoNumber) (.type "IndexError") = some false)
    (sb_NoNumber_KeyError : PySem.W.subIn K (.ref C_NoNumber) (.type "KeyError") = some false)
    (vV_LookupError : PySem.W.findCls K (.type "LookupError") (.type "type") "__init__" = some (.val (.builtin "LookupError.__init__")))
    (spG : PySem.W.specialIn K (.builtin "object.__class__") "__get__" = some (some (.builtin "getset_descriptor.__get__")))
    (tkG : PySem.W.takesIn K (.builtin "object.__class__") = some true)
    (z_isinstance : PySem.W.nsIn K mainGlobals "isinstance" = some none) (z_int : PySem.W.nsIn K mainGlobals "int" = some none) (z_bool : PySem.W.nsIn K mainGlobals "bool" = some none) (z_len : PySem.W.nsIn K mainGlobals "len" = some none) (z_tuple : PySem.W.nsIn K mainGlobals "tuple" = some none) (z_all : PySem.W.nsIn K mainGlobals "all" = some none) (z_enumerate : PySem.W.nsIn K mainGlobals "enumerate" = some none) (z_range : PySem.W.nsIn K mainGlobals "range" = some none) (z_list : PySem.W.nsIn K mainGlobals "list" = some none) (z_divmod : PySem.W.nsIn K mainGlobals "divmod" = some none) (z_abs : PySem.W.nsIn K mainGlobals "abs" = some none) (z_zip : PySem.W.nsIn K mainGlobals "zip" = some none) (z_str : PySem.W.nsIn K mainGlobals "str" = some none) (z_LookupError : PySem.W.nsIn K mainGlobals "LookupError" = some none) (z_IndexError : PySem.W.nsIn K mainGlobals "IndexError" = some none) (z_KeyError : PySem.W.nsIn K mainGlobals "KeyError" = some none) (z_sorted : PySem.W.nsIn K mainGlobals "sorted" = some none) (z_set : PySem.W.nsIn K mainGlobals "set" = some none) :
    ∃ fd : FuncData, (∀ (s : Shared) (v : Value), BindsTo s fd ⟨[v], []⟩ [("_law_script", v)]) ∧ ∀ base : Heap, K.In base → base.Ns mainGlobals mg → FnOk l.prog w K mg base CX0 9 fa fd ["_law_script"] (spLaw K) := by
  have e := hfa.symm.trans (PySem.W.mg_of X G a_law)
  cases e
  let T : Env K mg := {
    n_isinstance := PySem.W.mg_none_of X G z_isinstance,
    n_int := PySem.W.mg_none_of X G z_int,
    n_bool := PySem.W.mg_none_of X G z_bool,
    n_len := PySem.W.mg_none_of X G z_len,
    n_tuple := PySem.W.mg_none_of X G z_tuple,
    n_all := PySem.W.mg_none_of X G z_all,
    n_enumerate := PySem.W.mg_none_of X G z_enumerate,
    n_range := PySem.W.mg_none_of X G z_range,
    n_list := PySem.W.mg_none_of X G z_list,
    n_divmod := PySem.W.mg_none_of X G z_divmod,
    n_abs := PySem.W.mg_none_of X G z_abs,
    n_zip := PySem.W.mg_none_of X G z_zip,
    n_str := PySem.W.mg_none_of X G z_str,
    n_LookupError := PySem.W.mg_none_of X G z_LookupError,
    n_IndexError := PySem.W.mg_none_of X G z_IndexError,
    n_KeyError := PySem.W.mg_none_of X G z_KeyError,
    n_sorted := PySem.W.mg_none_of X G z_sorted,
    n_set := PySem.W.mg_none_of X G z_set,
    f_p_is_integer_below := f_p_is_integer_below, d_p_is_integer_below := _, F_p_is_integer_below := fun_mk (st := s_p_is_integer_below) l_p_is_integer_below c_p_is_integer_below k_p_is_integer_below, g_p_is_integer_below := PySem.W.mg_of X G a_p_is_integer_below,
    f_p_joins_in_pairs := f_p_joins_in_pairs, d_p_joins_in_pairs := _, F_p_joins_in_pairs := fun_mk (st := s_p_joins_in_pairs) l_p_joins_in_pairs c_p_joins_in_pairs k_p_joins_in_pairs, g_p_joins_in_pairs := PySem.W.mg_of X G a_p_joins_in_pairs,
    f_p_is_pairing := f_p_is_pairing, d_p_is_pairing := _, F_p_is_pairing := fun_mk (st := s_p_is_pairing) l_p_is_pairing c_p_is_pairing k_p_is_pairing, g_p_is_pairing := PySem.W.mg_of X G a_p_is_pairing,
    f_p_pairing_of := f_p_pairing_of, d_p_pairing_of := _, F_p_pairing_of := fun_mk (st := s_p_pairing_of) l_p_pairing_of c_p_pairing_of k_p_pairing_of, g_p_pairing_of := PySem.W.mg_of X G a_p_pairing_of,
    f_p_pairings_many := f_p_pairings_many, d_p_pairings_many := _, F_p_pairings_many := fun_mk (st := s_p_pairings_many) l_p_pairings_many c_p_pairings_many k_p_pairings_many, g_p_pairings_many := PySem.W.mg_of X G a_p_pairings_many,
    f_p_pairing_at := f_p_pairing_at, d_p_pairing_at := _, F_p_pairing_at := fun_mk (st := s_p_pairing_at) l_p_pairing_at c_p_pairing_at k_p_pairing_at, g_p_pairing_at := PySem.W.mg_of X G a_p_pairing_at,
    f_p_pairing_number := f_p_pairing_number, d_p_pairing_number := _, F_p_pairing_number := fun_mk (st := s_p_pairing_number) l_p_pairing_number c_p_pairing_number k_p_pairing_number, g_p_pairing_number := PySem.W.mg_of X G a_p_pairing_number,
    f_box := f_box, d_box := _, F_box := fun_mk (st := s_box) l_box c_box k_box, g_box := PySem.W.mg_of X G a_box,
    f_take := f_take, d_take := _, F_take := fun_mk (st := s_take) l_take c_take k_take, g_take := PySem.W.mg_of X G a_take,
    f_cells := f_cells, d_cells := _, F_cells := fun_mk (st := s_cells) l_cells c_cells k_cells, g_cells := PySem.W.mg_of X G a_cells,
    f_strewn := f_strewn, d_strewn := _, F_strewn := fun_mk (st := s_strewn) l_strewn c_strewn k_strewn, g_strewn := PySem.W.mg_of X G a_strewn,
    f_same := f_same, d_same := _, F_same := fun_mk (st := s_same) l_same c_same k_same, g_same := PySem.W.mg_of X G a_same,
    f_paired := f_paired, d_paired := _, F_paired := fun_mk (st := s_paired) l_paired c_paired k_paired, g_paired := PySem.W.mg_of X G a_paired,
    f_random := f_random, d_random := _, F_random := fun_mk (st := s_random) l_random c_random k_random, g_random := PySem.W.mg_of X G a_random,
    f_every := f_every, d_every := _, F_every := fun_mk (st := s_every) l_every c_every k_every, g_every := PySem.W.mg_of X G a_every,
    f_of_couples := f_of_couples, d_of_couples := _, F_of_couples := fun_mk (st := s_of_couples) l_of_couples c_of_couples k_of_couples, g_of_couples := PySem.W.mg_of X G a_of_couples,
    f_odd_product := f_odd_product, d_odd_product := _, F_odd_product := fun_mk (st := s_odd_product) l_odd_product c_odd_product k_odd_product, g_odd_product := PySem.W.mg_of X G a_odd_product,
    f_refused := f_refused, d_refused := _, F_refused := fun_mk (st := s_refused) l_refused c_refused k_refused, g_refused := PySem.W.mg_of X G a_refused,
    f_few_right := f_few_right, d_few_right := _, F_few_right := fun_mk (st := s_few_right) l_few_right c_few_right k_few_right, g_few_right := PySem.W.mg_of X G a_few_right,
    f_right := f_right, d_right := _, F_right := fun_mk (st := s_right) l_right c_right k_right, g_right := PySem.W.mg_of X G a_right,
    C_NoNumber := C_NoNumber, gC_NoNumber := PySem.W.mg_of X G aC_NoNumber,
    C_NoDeed := C_NoDeed, gC_NoDeed := PySem.W.mg_of X G aC_NoDeed,
    C_NoPerson := C_NoPerson, gC_NoPerson := PySem.W.mg_of X G aC_NoPerson,
    own_NoNumber := ⟨⟨nm_NoNumber, qn_NoNumber, Nn_NoNumber, bs_NoNumber, sn_NoNumber, sub_NoNumber, ab_NoNumber, col_NoNumber, dd_NoNumber, m0_NoNumber, m1_NoNumber, m2_NoNumber, m3_NoNumber, m5_NoNumber, xC_NoNumber⟩, over_of xC_NoNumber (by decide +kernel), sa_NoNumber, ga_NoNumber, gg_NoNumber, eC_NoNumber, tC_NoNumber, kC_NoNumber, hC_NoNumber, cl_NoNumber, mr_NoNumber⟩,
    kpt_NoNumber := ⟨ga_NoNumber, gg_NoNumber, eC_NoNumber, hC_NoNumber, cl_NoNumber, mr_NoNumber, spG, tkG⟩,
    f_i_NoNumber := f_i_NoNumber, d_i_NoNumber := _, F_i_NoNumber := fun_mk (st := s_i_NoNumber) lI_NoNumber cI_NoNumber kI_NoNumber, iC_NoNumber := iC_NoNumber, tI_NoNumber := tI_NoNumber, ee_NoNumber := exm_of' eC_NoNumber is_NoNumber tC_NoNumber su_NoNumber, kk_NoNumber := kit_own su_NoNumber is_NoNumber tC_NoNumber su_NoNumber,
    no_NoNumber := no_NoNumber,
    ex_NoNumber_NoDeed := exm_of' eC_NoDeed is_NoDeed tC_NoDeed su_NoNumber_NoDeed, ki_NoNumber_NoDeed := kit_own su_NoNumber is_NoDeed tC_NoDeed su_NoNumber_NoDeed,
    ex_NoNumber_NoPerson := exm_of' eC_NoPerson is_NoPerson tC_NoPerson su_NoNumber_NoPerson, ki_NoNumber_NoPerson := kit_own su_NoNumber is_NoPerson tC_NoPerson su_NoNumber_NoPerson,
    kb_NoNumber_LookupError := kit_blt (by decide +kernel) sb_NoNumber_LookupError,
    kb_NoNumber_IndexError := kit_blt (by decide +kernel) sb_NoNumber_IndexError,
    kb_NoNumber_KeyError := kit_blt (by decide +kernel) sb_NoNumber_KeyError,
    vV_LookupError := vV_LookupError }
  exact ⟨PySem.W.fnOf "law" "law" (defArgs s_law) (defBody s_law) (defScope s_law) .none kV_law dc_law pm_law an_law cd_law ct_law, fun s v => .of_eq rfl, fun base _ _ => ok_law T (fun_mk (st := s_law) l_law c_law k_law)⟩
end Pc
open PySem PySem.W PyProof.Rows
set_option maxHeartbeats 0 in
theorem PySem.Challenge.cw_partnercall_k02_pairings_by_number_holds : PySem.Challenge.rw_partnercall_k02_pairings_by_number.Holds := by
  w_on; o_law; k_head; (case hw => w_witness2)
  k_fill
  refine L2.walk_of (l := PySem.Challenge.rw_partnercall_k02_pairings_by_number) (n := 63) (k := 9) (x := "_law_script") (CX := fun _ => L2.CX0) (sp := fun w => Pc.spLaw _) rfl (by decide) rfl ⟨rfl, by decide, by decide⟩ (fun w h Y => PySem.W.kIn_of Y) ?F (fun _ _ a ns hl _ hS => ⟨a, ns, rfl, hS, hl, fun _ => rfl⟩) (fun _ _ _ _ _ h => h)
  case F =>
    intro w mg fa h KX G hmg
    refine' Pc.all_mk KX G hmg ?a_p_is_integer_below ?l_p_is_integer_below ?c_p_is_integer_below ?k_p_is_integer_below ?a_p_joins_in_pairs ?l_p_joins_in_pairs ?c_p_joins_in_pairs ?k_p_joins_in_pairs ?a_p_is_pairing ?l_p_is_pairing ?c_p_is_pairing ?k_p_is_pairing ?a_p_pairing_of ?l_p_pairing_of ?c_p_pairing_of ?k_p_pairing_of ?a_p_pairings_many ?l_p_pairings_many ?c_p_pairings_many ?k_p_pairings_many ?a_p_pairing_at ?l_p_pairing_at ?c_p_pairing_at ?k_p_pairing_at ?a_p_pairing_number ?l_p_pairing_number ?c_p_pairing_number ?k_p_pairing_number ?a_box ?l_box ?c_box ?k_box ?a_take ?l_take ?c_take ?k_take ?a_cells ?l_cells ?c_cells ?k_cells ?a_strewn ?l_strewn ?c_strewn ?k_strewn ?a_same ?l_same ?c_same ?k_same ?a_paired ?l_paired ?c_paired ?k_paired ?a_random ?l_random ?c_random ?k_random ?a_every ?l_every ?c_every ?k_every ?a_of_couples ?l_of_couples ?c_of_couples ?k_of_couples ?a_odd_product ?l_odd_product ?c_odd_product ?k_odd_product ?a_refused ?l_refused ?c_refused ?k_refused ?a_few_right ?l_few_right ?c_few_right ?k_few_right ?a_right ?l_right ?c_right ?k_right ?a_law ?l_law ?c_law ?k_law ?aC_NoNumber ?eC_NoNumber ?tC_NoNumber ?is_NoNumber ?aC_NoDeed ?eC_NoDeed ?tC_NoDeed ?is_NoDeed ?aC_NoPerson ?eC_NoPerson ?tC_NoPerson ?is_NoPerson ?xC_NoNumber ?sa_NoNumber ?ga_NoNumber ?gg_NoNumber ?kC_NoNumber ?hC_NoNumber ?cl_NoNumber ?mr_NoNumber ?iC_NoNumber ?tI_NoNumber ?lI_NoNumber ?cI_NoNumber ?kI_NoNumber ?su_NoNumber ?no_NoNumber ?su_NoNumber_NoDeed ?su_NoNumber_NoPerson ?sb_NoNumber_LookupError ?sb_NoNumber_IndexError ?sb_NoNumber_KeyError ?vV_LookupError ?spG ?tkG ?z_isinstance ?z_int ?z_bool ?z_len ?z_tuple ?z_all ?z_enumerate ?z_range ?z_list ?z_divmod ?z_abs ?z_zip ?z_str ?z_LookupError ?z_IndexError ?z_KeyError ?z_sorted ?z_set
    (case a_p_is_integer_below => k_is); (case l_p_is_integer_below => k_is); (case c_p_is_integer_below => k_is); (case k_p_is_integer_below => k_is); (case a_p_joins_in_pairs => k_is); (case l_p_joins_in_pairs => k_is); (case c_p_joins_in_pairs => k_is); (case k_p_joins_in_pairs => k_is); (case a_p_is_pairing => k_is); (case l_p_is_pairing => k_is); (case c_p_is_pairing => k_is); (case k_p_is_pairing => k_is); (case a_p_pairing_of => k_is); (case l_p_pairing_of => k_is); (case c_p_pairing_of => k_is); (case k_p_pairing_of => k_is); (case a_p_pairings_many => k_is); (case l_p_pairings_many => k_is); (case c_p_pairings_many => k_is); (case k_p_pairings_many => k_is); (case a_p_pairing_at => k_is); (case l_p_pairing_at => k_is); (case c_p_pairing_at => k_is); (case k_p_pairing_at => k_is); (case a_p_pairing_number => k_is); (case l_p_pairing_number => k_is); (case c_p_pairing_number => k_is); (case k_p_pairing_number => k_is); (case a_box => k_is); (case l_box => k_is); (case c_box => k_is); (case k_box => k_is); (case a_take => k_is); (case l_take => k_is); (case c_take => k_is); (case k_take => k_is); (case a_cells => k_is); (case l_cells => k_is); (case c_cells => k_is); (case k_cells => k_is); (case a_strewn => k_is); (case l_strewn => k_is); (case c_strewn => k_is); (case k_strewn => k_is); (case a_same => k_is); (case l_same => k_is); (case c_same => k_is); (case k_same => k_is); (case a_paired => k_is); (case l_paired => k_is); (case c_paired => k_is); (case k_paired => k_is); (case a_random => k_is); (case l_random => k_is); (case c_random => k_is); (case k_random => k_is); (case a_every => k_is); (case l_every => k_is); (case c_every => k_is); (case k_every => k_is); (case a_of_couples => k_is); (case l_of_couples => k_is); (case c_of_couples => k_is); (case k_of_couples => k_is); (case a_odd_product => k_is); (case l_odd_product => k_is); (case c_odd_product => k_is); (case k_odd_product => k_is); (case a_refused => k_is); (case l_refused => k_is); (case c_refused => k_is); (case k_refused => k_is); (case a_few_right => k_is); (case l_few_right => k_is); (case c_few_right => k_is); (case k_few_right => k_is); (case a_right => k_is); (case l_right => k_is); (case c_right => k_is); (case k_right => k_is); (case a_law => k_is); (case l_law => k_is); (case c_law => k_is); (case k_law => k_is); (case aC_NoNumber => k_is); (case eC_NoNumber => k_is); (case tC_NoNumber => k_is); (case is_NoNumber => k_is); (case aC_NoDeed => k_is); (case eC_NoDeed => k_is); (case tC_NoDeed => k_is); (case is_NoDeed => k_is); (case aC_NoPerson => k_is); (case eC_NoPerson => k_is); (case tC_NoPerson => k_is); (case is_NoPerson => k_is); (case xC_NoNumber => k_is); (case sa_NoNumber => k_is); (case ga_NoNumber => k_is); (case gg_NoNumber => k_is); (case kC_NoNumber => k_is); (case hC_NoNumber => k_is); (case cl_NoNumber => k_is); (case mr_NoNumber => k_is); (case iC_NoNumber => k_is); (case tI_NoNumber => k_is); (case lI_NoNumber => k_is); (case cI_NoNumber => k_is); (case kI_NoNumber => k_is); (case su_NoNumber => k_is); (case no_NoNumber => k_is); (case su_NoNumber_NoDeed => k_is); (case su_NoNumber_NoPerson => k_is); (case sb_NoNumber_LookupError => k_is); (case sb_NoNumber_IndexError => k_is); (case sb_NoNumber_KeyError => k_is); (case vV_LookupError => k_is); (case spG => k_is); (case tkG => k_is); (case z_isinstance => k_is); (case z_int => k_is); (case z_bool => k_is); (case z_len => k_is); (case z_tuple => k_is); (case z_all => k_is); (case z_enumerate => k_is); (case z_range => k_is); (case z_list => k_is); (case z_divmod => k_is); (case z_abs => k_is); (case z_zip => k_is); (case z_str => k_is); (case z_LookupError => k_is); (case z_IndexError => k_is); (case z_KeyError => k_is); (case z_sorted => k_is); (case z_set => k_is)
