import PyProof.Rows.All
import Wide.All
import OpenK.AllK
import Wide.FinOn
import HandS.ForMost
import HandS.IsInst
import HandS.Zip
import HandS.Style
import HandS.Walk
import HandS.Flow
import HandS.Conv
import HandS.RaiseMore
import HandS.NoneIn
import HandS.WordsList
import HandS.Deep
import HandS.Exc
import HandS.ExcOwn
import HandS.WordsExc
import HandS.ExcInit
import HandS.ExcIs
import KE.KExcIs
import KE.KExcInit
import KE.KTryMore
import HandS.SortRule
import HandS.SortInts
import HandS.Strs
import HandS.Wide
import HandS.DictComp
import HandS.SetFor
import HandS.TupSets
import HandS.SortOrd
import KE.SortData
import KE.DataCmp
import KE.KDictSum
import HandS.TupLen
import HandS.DictTup
import HandS.Small
import HandS.TryOnly
import KE.KMinBuiltin
import HandS.SortKw
import KE.KDictZip
import KE.GoesEnum
import KE.KDictDisplayH
import PySem.Challenge.RW_partnercall_k80_whole_fewest_calls_of_sh
set_option Elab.async false
set_option linter.all false
set_option maxRecDepth 100000
set_option maxHeartbeats 4000000
namespace RZ
end RZ
namespace Pc
open PySem PySem.Spec PyProof.Rows L2 RZ
/-! ### heaps -/
/-- all that was tracked, but for b, is as it was -/
def Keep (b : Addr) (H H' : Hp) : Prop := ∀ a o, a ≠ b → H a = some o → H' a = some o
theorem Keep.refl (b : Addr) (H : Hp) : Keep b H H := fun _ _ _ h => h
theorem Keep.trans {b : Addr} {H H1 H2 : Hp} (p : Keep b H H1) (q : Keep b H1 H2) : Keep b H H2 := fun a o n h => q a o n (p a o n h)
theorem Keep.of_same {b : Addr} {H H' : Hp} (s : Same H H') : Keep b H H' := fun a o _ h => s a o h
theorem same_new {H : Hp} {p : Addr} {o : HO} (h : H p = none) : Same H (upd H p o) := fun b x e => by
  rw [upd_ne (ne_of_none e h)]; exact e
theorem keep_upd {H : Hp} {b : Addr} {o : HO} : Keep b H (upd H b o) := fun a x n e => by
  rw [upd_ne n]; exact e
/-- a list, a tuple under Keep -/
theorem Keep.tup {b : Addr} {H H' : Hp} (k : Keep b H H') {a : Addr} {xs ys : List V} (hb : H b = some (.lst ys)) (h : H a = some (.tup xs)) : H' a = some (.tup xs) :=
  k a _ (fun e => by rw [e, hb] at h; cases h) h
/-! ### small numbers -/
theorem one0 (c : Prop) [Decidable c] : (0 : Int) ≤ (if c then 1 else 0) ∧ (if c then (1 : Int) else 0) ≤ 1 := by
  split <;> decide
theorem in64 {i : Int} (h : 0 ≤ i ∧ i ≤ 1) : -(2 ^ 64) < i ∧ i < 2 ^ 64 := ⟨by omega, by omega⟩
/-! ### the source of draws -/
/-- at b a source that serves n more draws -/
def Box (n : Nat) (H : Hp) (b : Addr) : Prop := ∃ x y z : Int, H b = some (.lst [.int x, .int y, .int z]) ∧ 0 ≤ x ∧ 0 ≤ y ∧ y < 2 ^ 62 ∧ 0 ≤ z ∧ z + n ≤ 1000000000
theorem Box.lst {n : Nat} {H : Hp} {b : Addr} (h : Box n H b) : ∃ ys, H b = some (.lst ys) := let ⟨_, _, _, e, _⟩ := h; ⟨_, e⟩
theorem Box.mono {n m : Nat} {H : Hp} {b : Addr} (h : Box n H b) (l : m ≤ n) : Box m H b := by
  obtain ⟨x, y, z, e, h1, h2, h3, h4, h5⟩ := h
  exact ⟨x, y, z, e, h1, h2, h3, h4, by omega⟩
theorem Box.same {n : Nat} {H H' : Hp} {b : Addr} (h : Box n H b) (s : Same H H') : Box n H' b := by
  obtain ⟨x, y, z, e, r⟩ := h
  exact ⟨x, y, z, s _ _ e, r⟩
theorem Box.keep {n : Nat} {H H' : Hp} {b c : Addr} (h : Box n H b) (k : Keep c H H') (d : b ≠ c) : Box n H' b := by
  obtain ⟨x, y, z, e, r⟩ := h
  exact ⟨x, y, z, k _ _ d e, r⟩
theorem Box.ne_new {n : Nat} {H : Hp} {b p : Addr} (h : Box n H b) (np : H p = none) : b ≠ p := by
  obtain ⟨x, y, z, e, r⟩ := h
  exact ne_of_none e np
theorem Box.ne_tup {n : Nat} {H : Hp} {b p : Addr} {xs : List V} (h : Box n H b) (e2 : H p = some (.tup xs)) : p ≠ b := by
  obtain ⟨x, y, z, e, r⟩ := h
  intro q; rw [q, e] at e2; cases e2
end Pc
namespace Pc
open PySem PySem.Spec PyProof.Rows L2 RZ
/-! ### errors of the program: made -/
section
open PySem.W Builtin Builtin.ObjectAttr
variable {prog : Program} {w : World} {A : Around} {R : Result → Shared → Prop} {hp : Heap} {g : Array GenState} {d : Drawn} {t : Nat} {os : OsState} {B : String} {bmB : List Value}
/-- the first field of an error that has no dict yet -/
theorem osa_first {K : Frag} {f : Str} {tk : Tok} {v : Value} {x C : Addr} {fv : Array Value} {cd : ClassData} (SF : StoreFacts B bmB "object.__setattr__" "object") (X : K.In hp)
    (hx : hp.get? x = some { cls := .ref C, data := .fields fv }) (hcd : clsIn K C = some cd) (ho : excOver K C bmB = true) (hh : cd.hasDict = true) (hf : takerIn K C f = some none)
    (hq : ∀ h' tk' dx, (∀ b o, b ≠ x → hp.get? b = some o → h'.get? b = some o) → hp.objs.size ≤ dx → dx ≠ x →
      h'.get? x = some { cls := .ref C, dict := some dx, data := .fields fv } → h'.Ns1 dx (fun y => if y = f then some v else none) → R (.ok (.ret .none)) ⟨h', g, d, tk', os⟩) :
    codeAny (model prog w) A (.call (.builtin "object.__setattr__") ⟨[.ref x, .str f tk, v], []⟩) R ⟨hp, g, d, t, os⟩ := by
  have hne : x ≠ hp.objs.size := fun e => absurd (Heap.lt_size hx) (by rw [← e]; exact Nat.lt_irrefl x)
  have LC : Looks (model prog w) hp (classData C) cd := looks_clsIn X hcd
  refine osa_openX (s := ⟨hp, g, d, t, os⟩) (od := none) SF X ⟨hx, rfl, rfl, trivial⟩ ho hf fun b => ?_
  obtain ⟨c1, c2, c3, c4, c5, c6, c7, c8, c9, c10, c11⟩ := cd
  dsimp only at hh; subst hh
  dsimp only
  unfold storeInOwnDict ownDictForStores
  repeat (first | with_reducible refine HandSPX.store_in_new ?_ ?_ | with_reducible refine wpAny_loadPart_at hx ?_ | with_reducible refine LC.at ?_ | wp_step)
  · exact ⟨_, #[], _, (Heap.get?_update_ne _ _ _ _ hne.symm).trans (Heap.get?_push_at rfl rfl), rfl, fun e he => absurd he (by simp), fun _ => rfl⟩
  · intro h' tk' n1 n2
    refine hq h' tk' hp.objs.size (fun b o q r => ?_) (Nat.le_refl _) hne.symm ?_ n1
    · exact (n2.2 b (Nat.ne_of_lt (Heap.lt_size r))).trans ((Heap.get?_update_ne _ _ _ _ q).trans (Heap.get?_push_of_some _ r))
    · exact (n2.2 x hne).trans (Heap.get?_update_self _ (Heap.get?_push_of_some _ hx) rfl)
end
/-- what is known of a built-in error class -/
structure Bs (B newId initId : String) (bmB : List Value) : Prop where
  fb : ExcBaseFacts B newId initId bmB
  sf : StoreFacts B bmB "object.__setattr__" "object"
theorem bsV : Bs "ValueError" "ValueError.__new__" "ValueError.__init__" [.type "ValueError", .type "Exception", .type "BaseException", .type "object"] := ⟨F.excBase_ValueError, F.store_ValueError⟩
theorem bsL : Bs "LookupError" "LookupError.__new__" "LookupError.__init__" [.type "LookupError", .type "Exception", .type "BaseException", .type "object"] := ⟨F.excBase_LookupError, F.store_LookupError⟩
theorem bsR : Bs "RuntimeError" "RuntimeError.__new__" "RuntimeError.__init__" [.type "RuntimeError", .type "Exception", .type "BaseException", .type "object"] := ⟨F.excBase_RuntimeError, F.store_RuntimeError⟩
theorem bsO : Bs "OverflowError" "OverflowError.__new__" "OverflowError.__init__" [.type "OverflowError", .type "ArithmeticError", .type "Exception", .type "BaseException", .type "object"] := ⟨F.excBase_OverflowError, F.store_OverflowError⟩
/-- an error class of the program, straight over a built-in one -/
structure Own (K : PySem.W.Frag) (newId : String) (bmB : List Value) (C : Addr) : Prop where
  cls : ∃ nm q N bs sn sub ab col dd k0 k1 k2 k3 k5, K.lookup C = some (excClassObj nm q C N bs bmB true sn sub ab col dd k0 k1 k2 k3 k5 newId)
  over : PySem.W.excOver K C bmB = true
  sa : PySem.W.findIn K (.ref C) "__setattr__" = some (some (.builtin "object.__setattr__"))
  ga : PySem.W.findIn K (.ref C) "__getattribute__" = some (some (.builtin "BaseException.__getattribute__"))
  gg : PySem.W.findIn K (.ref C) "__getattr__" = some none
  exC : PySem.W.subIn K (.ref C) (.type "BaseException") = some true
  tyC : PySem.W.typeIn K (.ref C) = some (.type "type")
  kC : PySem.W.keepIn K (.ref C) = true
  hdC : PySem.W.hasDictIn K C = true
  clC : PySem.W.findIn K (.ref C) "__class__" = some (some (.builtin "object.__class__"))
  mrO : PySem.W.mroIn K C (.type "object") = some true
theorem Own.data {K : PySem.W.Frag} {newId : String} {bmB : List Value} {C : Addr} (T : Own K newId bmB C) : ∃ cd, PySem.W.clsIn K C = some cd ∧ cd.hasDict = true := by
  obtain ⟨nm, q, N, bs, sn, sub, ab, col, dd, k0, k1, k2, k3, k5, e⟩ := T.cls
  refine ⟨{ name := nm, bases := bs, mro := .ref C :: bmB, ns := N, qualname := q, hasDict := true, slotNames := sn, subclasses := sub, abstract := ab, collection := col, hasDel := false }, ?_, rfl⟩
  unfold PySem.W.clsIn
  rw [e] <;> rfl
theorem taker_of {K : PySem.W.Frag} {C : Addr} {f : Str} (h : PySem.W.findIn K (.ref C) f = some none) : PySem.W.takerIn K C f = some none := by
  unfold PySem.W.takerIn
  rw [h]; rfl
section
variable {X : Cx} {pins : List (Addr × Obj)} {σ : L2.St} {H H1 H2 : Hp} {s : Shared} {a C dx : Addr} {f : Str} {newId initId B : String} {bmB : List Value}
/-- an object that stands in the heap, untracked and not of the entry, is tracked from now on -/
theorem adopt {o : HO} (I : Inv X pins σ H s) (hn : H a = none) (n0 : X.s_0.heap.get? a = none) (nL : a ≠ X.env.locals) (nC : ∀ x c, X.env.cells.lookup x = some c → c ≠ a) (nP : ∀ p ∈ X.pn ++ pins, p.1 ≠ a)
    (new : ObjOk X.prog X.w (upd H a o) s.heap a o) : Inv X pins σ (upd H a o) s := by
  have up : ∀ {b : Addr} {u : HO}, H b = some u → upd H a o b = some u := fun {b u} e => by rw [upd_ne (ne_of_none e hn)]; exact e
  refine ⟨I.ok, I.os, I.bare, ⟨I.base.keep, I.base.slot, fun b q e n x => ?_, I.base.there, fun b xs e => up (I.base.tups b xs e), fun b q u e => up (I.base.frzs b q u e), fun b ps e => ?_⟩, I.loc, I.cell, ?_, fun x c e => ?_, fun p hp => ?_, fun b u e => ?_, I.len⟩
  · rw [upd_ne (fun z => by rw [z, n0] at e; cases e)]
    exact I.base.free b q e n x
  · obtain ⟨m, z⟩ := I.base.tbls b ps e
    exact ⟨m, up z⟩
  · rw [upd_ne (Ne.symm nL)]; exact I.free
  · rw [upd_ne (nC x c e)]; exact I.freeC x c e
  · obtain ⟨e, n, r⟩ := I.pin p hp
    exact ⟨e, by rw [upd_ne (nP p hp)]; exact n, r⟩
  · by_cases hb : b = a
    · subst hb
      rw [upd_same] at e; cases e
      exact new
    · rw [upd_ne hb] at e
      exact (I.hok b u e).stay (fun _ _ _ z => z) (fun c z => up z) (fun c xs z => up z)
theorem low_ne {n : Nat} {b a : Addr} (h : b < n) (h' : n ≤ a) : b ≠ a := Nat.ne_of_lt (Nat.lt_of_lt_of_le h h')
theorem get_lt_size {h : Heap} {b : Addr} {o : Obj} (e : h.get? b = some o) : b < h.objs.size := Heap.lt_size e
/-- self.f = y -/
theorem ost_one {y : V} {u : Value} {Q : Unit → Shared → Prop} {E : Value → Shared → Prop} {A : Around} (T : Own X.K newId bmB C) (SF : StoreFacts B bmB "object.__setattr__" "object") (I : Inv X pins σ H s) (e : H a = some (exo a C none)) (hno : PySem.W.findIn X.K (.ref C) f = some none) (ry : RelV y u)
    (h : ∀ dx s', H dx = none → dx ≠ a → Inv X pins σ (upd (upd H a (exo a C (some dx))) dx (exd dx [(f, y)])) s' → Q () s') : wpAny (model X.prog X.w) A (setAttr (.ref a) f u) Q E s := by
  obtain ⟨cd, hcd, hh⟩ := T.data
  obtain ⟨t1, ho⟩ := exo_at I.hok e
  obtain ⟨hp, g, d, t, os⟩ := s
  refine PySem.W.set_plain I.kIn (ox := { cls := .ref C, dict := none, data := .fields #[.ref t1, .none, .none, .none, .bool false, .none] }) (od := none) ⟨ho, rfl, rfl, trivial⟩ T.sa ?_
  refine osa_first SF I.kIn ho hcd T.over hh (taker_of hno) fun h' tk' dx k dn dne hx hns => ?_
  have hnd : H dx = none := I.hok.fresh dn
  have J := I.write (t' := tk') (x := a) (e := a) (o := exo a C (some dx)) (by rw [e]; exact True.intro) (.inl rfl) k ⟨_, hx⟩ (exo_ok hx)
  refine h dx _ hnd dne (adopt J (by rw [upd_ne dne]; exact hnd) ?_ ?_ ?_ ?_ (exd_ok hns (relO_put (fs := []) ry fun _ => True.intro)))
  · cases z : X.s_0.heap.get? dx with
    | none => rfl
    | some o => exact absurd rfl (low_ne (Nat.lt_of_lt_of_le (Heap.lt_size z) I.sz) dn)
  · exact Ne.symm (low_ne I.lt dn)
  · intro x c ec
    obtain ⟨v, ob, eo, _⟩ := I.cell x c ec
    exact low_ne (Heap.lt_size eo) dn
  · intro p hp'
    exact low_ne (Heap.lt_size (I.pin p hp').1) dn
/-- B.__init__(self, ..) -/
theorem oinit_any {us : List Value} {Q : Value → Shared → Prop} {E : Value → Shared → Prop} {A : Around} (T : Own X.K newId bmB C) (F : ExcBaseFacts B newId initId bmB) (I : Inv X pins σ H s) (e : H a = some (exo a C none)) (hl : us.length ≤ sizeLine) (h : ∀ s', Inv X pins σ H s' → Q .none s') :
    wpAny (model X.prog X.w) A (call (.builtin initId) (.ref a :: us)) Q E s := by
  obtain ⟨nm, q, N, bs, sn, sub, ab, col, dd, k0, k1, k2, k3, k5, hC⟩ := T.cls
  obtain ⟨t1, ho⟩ := exo_at I.hok e
  obtain ⟨hp, g, d, t, os⟩ := s
  refine wpAny_call (HandSPX.init_base F (fun _ => rfl) (I.kIn _ _ hC) ho hl fun h' t2 k hx => ?_)
  have J := I.write (t' := t) (x := a) (e := a) (o := exo a C none) (by rw [e]; exact True.intro) (.inl rfl) k ⟨_, hx⟩ (exo_ok hx)
  have eu : upd H a (exo a C none) = H := by
    funext b
    unfold upd
    split
    · rename_i z; rw [z, e]
    · rfl
  rw [eu] at J
  exact h _ J
def tBi (K : PySem.W.Frag) (newId : String) (bmB : List Value) (ta : TA) : TE := fun σ H Q => ta σ H fun vs H1 => ∃ (a C : Addr) (ws : List V), vs = .ref a :: ws ∧ ws.length ≤ 1000 ∧ Own K newId bmB C ∧ H1 a = some (exo a C none) ∧ Q .non H1
def tOs (K : PySem.W.Frag) (newId : String) (bmB : List Value) (f : Str) (to te : TE) : TS := fun D σ H => te σ H fun y H1 => to σ H1 fun x H2 => ∃ a C : Addr, x = .ref a ∧ Own K newId bmB C ∧ PySem.W.findIn K (.ref C) f = some none ∧ H2 a = some (exo a C none) ∧
  ∀ dx, H2 dx = none → dx ≠ a → D.nx σ (upd (upd H2 a (exo a C (some dx))) dx (exd dx [(f, y)]))
theorem pe_binit {n : Str} {o e : Expr} {es : List Expr} {ta : TA} {p1 p2 pos : Pos} {pl : Sem Bool} (F : ExcBaseFacts B newId initId bmB) (hg : Gl X n) (hm : X.mg n = none) (hv : bootBuiltins n = some (.type B)) (hn : n ≠ "__name__") (hdb : (n == ("__debug__" : Str)) = false)
    (hty : typeOf (.type B) = pure (.type "type")) (hst : Manifest.isStub B = false) (hha : PySem.W.handedIn (.builtin initId) = true) (vV : PySem.W.findCls X.K (.type B) (.type "type") "__init__" = some (.val (.builtin initId))) (ha : PA X (e :: es) ta)
    (hc : eval (.Call (.Attribute (.Name n p1) "__init__" p2) (e :: es) [] pos) X.env = (do
      let ov ← eval (.Name n p1) X.env
      standAt p2.atName
      let (f, first) ← holding [ov] (getMethod ov "__init__" pl)
      callWith pos f first (backTo pos (starEach (e :: es) X.env)) (backToKw pos (keywordEach [] X.env))) := by rfl)
    (he : starEach (e :: es) X.env = (false, eval e X.env) :: starEach es X.env := by rfl) (hpl : (backTo pos (starEach es X.env)).any (·.1) = false := by rfl) :
    PE X (.Call (.Attribute (.Name n p1) "__init__" p2) (e :: es) [] pos) (tBi X.K newId bmB ta) := by
  refine ⟨fun pins s σ H Q I h => PySem.W.methodCall_KW (ld_blt I hg hm hv ?_ hn hdb) hc⟩
  obtain ⟨m, fr⟩ := I.fr
  refine PySem.W.method_type fr I.ok.mod.kin hty hst vV hha ?_
  show wpAny _ _ (callWith pos (Value.builtin initId) [] (backTo pos (starEach (e :: es) X.env)) []) _ _ _
  refine PyProof.Rows.callWith_method1 (thn (ha.run pos pins _ σ H _ (I.tok _) h) fun us s1 ⟨vs, H1, I1, r1, a, C, ws, ev, hl, T, ea, q⟩ => ?_) he hpl
  subst ev
  cases r1 with
  | @cons _ u0 _ ur ra rr =>
    obtain rfl : u0 = Value.ref a := ra
    exact oinit_any T F I1 ea (by rw [← Paired.length rr, sizeLine_eq]; omega) fun s' J => ⟨.non, H1, J, rfl, q⟩
theorem ps_os {o e : Expr} {to te : TE} {p' pos : Pos} (SF : StoreFacts B bmB "object.__setattr__" "object") (ho : PE X o to) (he : PE X e te) (hs : swapsWith e (some (.Attribute o f p')) pos.line X.env = pure false := by rfl) : PS X (.Assign [.Attribute o f p'] e pos) (tOs X.K newId bmB f to te) := by
  refine ⟨fun pins s σ H D I h => plainObj_wpAny_Assign_Attribute (thn (he.run pins s σ H _ I h) fun v s1 ⟨y, H1, I1, r1, q1⟩ => thn (ho.run pins s1 σ H1 _ I1 q1) fun u s2 ⟨x, H2, I2, r2, a, C, ex, T, hno, ea, q⟩ => ?_) hs⟩
  subst ex
  obtain rfl : u = Value.ref a := r2
  exact ost_one T SF I2 ea hno r1 fun dx s' n ne J => ⟨σ, _, J, q dx n ne⟩
/-- the new error is let go: the heap without it -/
theorem mk_gone {hp hp2 h2 : Heap} {g1 g2 : Array GenState} {d1 d2 : Drawn} {t1 t2 : Nat} {os1 os2 : OsState} {dv : Option Addr} (I1 : Inv X pins σ H1 ⟨hp, g1, d1, t1, os1⟩)
    (ha : hp.objs.size ≤ a) (k : ∀ b o, hp.get? b = some o → hp2.get? b = some o) (un : Un (frs X.stack) [] (upd H1 a (exo a C none)) H2 hp2 h2) (hok : HOk X.prog X.w H2 h2) (ho : os2 = os1) (hb : AllBare g2) (ea : H2 a = some (exo a C dv)) :
    ∃ (t0 : Addr) (G : Heap), Inv X pins σ (del H2 a) ⟨G, g2, d2, t2, os2⟩ ∧ (∀ b o, G.get? b = some o → h2.get? b = some o) ∧ G.get? a = none ∧
      h2.get? a = some ({ cls := .ref C, dict := dv, data := .fields #[.ref t0, .none, .none, .none, .bool false, .none] } : Obj) := by
  obtain ⟨t0, hoe⟩ := exo_at hok ea
  have hn : H1 a = none := I1.hok.fresh ha
  obtain ⟨G, g1', g2'⟩ := restrict h2 fun b => decide (b ≠ a)
  have gk : ∀ b, b ≠ a → G.get? b = h2.get? b := fun b q => g1' b (decide_eq_true q)
  have ga : G.get? a = none := g2' a (decide_eq_false (fun z => z rfl))
  have na : ∀ {b : Addr} {o : Obj}, hp.get? b = some o → b ≠ a := fun q => low_ne (Heap.lt_size q) ha
  have up : ∀ {b : Addr}, b ≠ a → H1 b = none → upd H1 a (exo a C none) b = none := fun q n => by rw [upd_ne q]; exact n
  have tr : ∀ {b : Addr} {u : HO}, H1 b = some u → upd H1 a (exo a C none) b = some u ∧ b ≠ a := fun q => ⟨by rw [upd_ne (ne_of_none q hn)]; exact q, ne_of_none q hn⟩
  have U : Un (frs X.stack) [] H1 (del H2 a) hp G := {
    keep := fun b o z n hf hx => by rw [gk b (na z)]; exact un.keep b o (k b o z) (up (na z) n) hf hx
    slot := fun b o z n hf hx => by rw [gk b (na z)]; exact un.slot b o (k b o z) (up (na z) n) hf hx
    free := fun b o z n hx => by rw [del_ne (na z)]; exact un.free b o (k b o z) (up (na z) n) hx
    there := fun b o z hx => by rw [gk b (na z)]; exact un.there b o (k b o z) hx
    tups := fun b xs z => by rw [del_ne (tr z).2]; exact un.tups b xs (tr z).1
    frzs := fun b o v z => by rw [del_ne (tr z).2]; exact un.frzs b o v (tr z).1
    tbls := fun b ps z => by rw [del_ne (tr z).2]; exact un.tbls b ps (tr z).1 }
  have hok3 : HOk X.prog X.w (del H2 a) G := fun b o z => by
    have hba : b ≠ a := fun e => by rw [e, del_same] at z; cases z
    rw [del_ne hba] at z
    have noa : ∀ {c : Addr}, H2 c = some (.own b) → c ≠ a := fun hc => at_ne ea hc exo_own
    refine (hok b o z).stay (fun c v hc y => ?_) (fun c hc => by rw [del_ne (noa hc)]; exact hc) (fun c xs hc => by rw [del_ne (at_ne ea hc exo_tup)]; exact hc)
    have hca : c ≠ a := hc.elim (fun q => by rw [q]; exact hba) noa
    rw [gk c hca]; exact y
  have J : Inv X pins σ (del H2 a) ⟨G, g2, d2, t2, os2⟩ := I1.call' (ch := []) ho U hok3 hb (fun b z => absurd z (by simp))
  refine ⟨t0, G, J, fun b o z => ?_, ga, hoe⟩
  by_cases hba : b = a
  · rw [hba, ga] at z; cases z
  · exact (gk b hba).symm.trans z
/-- C(e, ..), C's own __init__ keeping sp -/
def tMkE (C : Addr) (sp : Sp) (ta : TA) : L2.St → Hp → XK → Prop := fun σ H Q => ta σ H fun vs H1 => vs.length ≤ 1000 ∧ ∀ a, H1 a = none → sp (.ref a :: vs) (upd H1 a (exo a C none))
  (fun v H2 => v = .non ∧ ((H2 a = some (exo a C none) ∧ Q (.ref C) none (del H2 a)) ∨ ∃ (d : Addr) (fs : List (Str × V)), H2 a = some (exo a C (some d)) ∧ H2 d = some (exd d fs) ∧ Q (.ref C) (some d) (upd (del H2 a) d (.xd fs)))) (fun _ _ _ => False)
/-- what such a call leaves -/
theorem made_run {vs : List V} {us : List Value} {fI : Addr} {k : Nat} {fd : FuncData} {ps : List Str} {sp : Sp} {Q : XK} {CX : CXT} (T : Own X.K newId bmB C) (F : ExcBaseFacts B newId initId bmB) (iC : PySem.W.findIn X.K (.ref C) "__init__" = some (some (.ref fI))) (tI : PySem.W.typeIn X.K (.ref fI) = some (.type "function"))
    (F1 : FnOk X.prog X.w X.K X.mg X.base CX k fI fd ps sp) (hr : Room (k + 1) X.A) (hb : Binds X.K fd ps []) (hx : Passes CX X (fun _ _ _ => False)) (I1 : Inv X pins σ H1 s) (r1 : Vals vs us) (hz : vs.length ≤ 1000)
    (q1 : ∀ a, H1 a = none → sp (.ref a :: vs) (upd H1 a (exo a C none)) (fun v H2 => v = .non ∧ ((H2 a = some (exo a C none) ∧ Q (.ref C) none (del H2 a)) ∨ ∃ (d : Addr) (fs : List (Str × V)), H2 a = some (exo a C (some d)) ∧ H2 d = some (exd d fs) ∧ Q (.ref C) (some d) (upd (del H2 a) d (.xd fs)))) (fun _ _ _ => False)) :
    wpAny (model X.prog X.w) X.A (call (.ref C) us) (MkP X pins σ Q) X.xe s := by
  obtain ⟨nm, q, N, bs, sn, sub, ab, col, dd, k0, k1, k2, k3, k5, hC⟩ := T.cls
  obtain ⟨hp, g, dr, tk, os⟩ := s
  have hsz : hp.objs.size ≤ hp.objs.size + 1 := Nat.le_succ _
  have hq := q1 (hp.objs.size + 1) (I1.hok.fresh hsz)
  obtain ⟨hp2, ehp⟩ : ∃ hp2, hp2 = (hp.push (PySem.W.kdv_tup us)).push (HandSPX.excO C hp.objs.size) := ⟨_, rfl⟩
  have kk : ∀ b o, hp.get? b = some o → hp2.get? b = some o := fun b o e => by rw [ehp]; exact Heap.get?_push_of_some _ (Heap.get?_push_of_some _ e)
  have hget : hp2.get? (hp.objs.size + 1) = some (HandSPX.excO C hp.objs.size) := by rw [ehp]; heap_get
  have I2 : Inv X pins σ (upd H1 (hp.objs.size + 1) (exo (hp.objs.size + 1) C none)) ⟨hp2, g, dr, tk, os⟩ := I1.laid (t' := tk) kk hsz (exo_ok hget)
  have r2 : Vals (V.ref (hp.objs.size + 1) :: vs) (Value.ref (hp.objs.size + 1) :: us) := .cons rfl r1
  have hl : (Value.ref (hp.objs.size + 1) :: us ++ []).length = ps.length := by
    rw [List.append_nil, ← r2.length]; exact F1.len _ _ _ _ hq
  have hus : us.length ≤ sizeLine := by rw [← Paired.length r1, sizeLine_eq]; omega
  refine wpAny_call (HandSPX.call_own F (fun _ => rfl) (I1.kIn _ _ hC) (PySem.W.looks_findIn I1.kIn iC) (fun self => PySem.W.bind_fn I1.kIn self tI) hus ?_)
  rw [← ehp]
  refine codeAny_mono (F1.run _ X.stack _ _ ⟨Value.ref (hp.objs.size + 1) :: us, []⟩ (Value.ref (hp.objs.size + 1) :: us) _ _ (fun _ _ _ => False) (hr.make C us []) (I2.env0.make C us []) ?_ r2 hq) fun r s' hq' => ?_
  · have z := hb ⟨hp2, g, dr, tk, os⟩ (Value.ref (hp.objs.size + 1) :: us) I2.kIn hl
    rw [List.append_nil] at z; exact z
  cases r with
  | error er => exact hx pins σ _ _ er s' I2 hq'
  | ok fl =>
    cases fl with
    | ret u =>
      obtain ⟨v, H2, os2, bare2, un2, hok2, rv, ev, alt⟩ := hq'
      subst ev
      obtain ⟨h2, g2, d2, t2, os'⟩ := s'
      refine ⟨rv, ?_⟩
      rcases alt with ⟨ea, q2⟩ | ⟨d, fs, ea, ed, q2⟩
      · obtain ⟨t0, G, J, kG, ge, hoe⟩ := mk_gone (d2 := d2) (t2 := t2) I1 hsz kk un2 hok2 os2 bare2 ea
        exact ⟨_, _, _, ⟨G, g2, d2, t2, os'⟩, _, .ref C, none, rfl, J, kG, ge, hoe, ⟨rfl, rfl⟩, rfl, rfl, del_same, rfl, bare2, raises_own T.exC T.tyC, q2⟩
      · obtain ⟨t0, G, J, kG, ge, hoe⟩ := mk_gone (d2 := d2) (t2 := t2) I1 hsz kk un2 hok2 os2 bare2 ea
        have hda : d ≠ hp.objs.size + 1 := fun z => by
          rw [z] at ed
          obtain ⟨mA, ⟨ob, es, ep, e1, e2, _⟩, _⟩ := exd_at hok2 ed
          rw [hoe] at e1
          have z2 := Option.some.inj e1
          subst z2
          cases e2
        have ed' : del H2 (hp.objs.size + 1) d = some (exd d fs) := by rw [del_ne hda]; exact ed
        obtain ⟨mA, ns, rel⟩ := exd_at J.hok ed'
        have J2 := J.write (t' := t2) (h' := G) (x := d) (e := d) (o := .xd fs) (by rw [ed']; exact True.intro) (.inl rfl) (fun _ _ _ z => z) (by obtain ⟨ob, _, _, e1, _⟩ := ns; exact ⟨ob, e1⟩) ⟨mA, ns, rel⟩
        exact ⟨_, _, _, ⟨G, g2, d2, t2, os'⟩, _, .ref C, some d, rfl, J2, kG, ge, hoe, ⟨rfl, rfl⟩, rfl, rfl, by rw [upd_ne (Ne.symm hda)]; exact del_same, rfl, bare2, raises_own T.exC T.tyC, q2⟩
    | next => exact False.elim hq'
    | brk => exact False.elim hq'
    | cont => exact False.elim hq'
theorem pmk_e {x : Str} {fI : Addr} {k : Nat} {fd : FuncData} {ps : List Str} {sp : Sp} {CX : CXT} {e : Expr} {es : List Expr} {ta : TA} {p pos : Pos} (T : Own X.K newId bmB C) (F : ExcBaseFacts B newId initId bmB) (iC : PySem.W.findIn X.K (.ref C) "__init__" = some (some (.ref fI))) (tI : PySem.W.typeIn X.K (.ref fI) = some (.type "function"))
    (F1 : FnOk X.prog X.w X.K X.mg X.base CX k fI fd ps sp) (hr : Room (k + 1) X.A) (hb : Binds X.K fd ps []) (hx : Passes CX X (fun _ _ _ => False)) (hg : Gl X x) (hm : X.mg x = some (.ref C)) (ha : PA X (e :: es) ta)
    (hdb : (x == ("__debug__" : Str)) = false := by decide) (he : starEach (e :: es) X.env = (false, eval e X.env) :: starEach es X.env := by rfl) (hpl : (backTo pos (starEach es X.env)).any (·.1) = false := by rfl) :
    PMk X (.Call (.Name x p) (e :: es) [] pos) (tMkE C sp ta) := by
  intro pins s σ H Q I h
  refine wpAny_Call_Name_kw (ld_glob I hg hm ?_ hdb)
  exact PySem.W.callWith_K (h₀ := X.base) I.ok.mod.kin T.kC (thn (ha.run pos pins s σ H _ I h) fun us s1 ⟨vs, H1, I1, r1, hz, q1⟩ => ⟨I1.kIn, made_run T F iC tI F1 hr hb hx I1 r1 hz q1⟩) he hpl
end
end Pc
namespace Pc
open PySem PySem.Spec PyProof.Rows L2 RZ
/-! ### errors of the program: caught, kept, looked at -/
section
open PySem.W
variable {M : Model} {K : Frag} {h : Heap}
theorem Looks.bind' {α β : Type} {x : Sem α} {f : α → Sem β} {a : α} {b : β} (hx : Looks M h x a) (hf : Looks M h (f a) b) : Looks M h (x >>= f) b := fun A Q E s k q =>
  wpAny_bind (hx A _ E s k (hf A Q E s k q))
theorem loop_all {α β : Type} {f : α → β → Sem (ForInStep β)} {b : β} : ∀ cs : List α, (∀ c ∈ cs, Looks M h (f c b) (.yield b)) → Looks M h (forIn cs b f) b
  | [], _ => by rw [List.forIn_nil]; exact .now
  | c :: cs, hc => by
    rw [List.forIn_cons]
    exact Looks.bind' (hc c List.mem_cons_self) (loop_all cs fun c' h' => hc c' (List.mem_cons_of_mem _ h'))
theorem loop_any {α β : Type} {f : α → β → Sem (ForInStep β)} {b b1 : β} : ∀ (bs : List Bool) (cs : List α), bs.length = cs.length → bs.any id = true → (∀ (i : Nat) (c : α) (y : Bool), cs[i]? = some c → bs[i]? = some y → Looks M h (f c b) (if y = true then .done b1 else .yield b)) → Looks M h (forIn cs b f) b1
  | [], [], _, e, _ => absurd e (by decide)
  | y :: bs, c :: cs, hl, e, hc => by
    rw [List.forIn_cons]
    have h0 := hc 0 c y rfl rfl
    cases y with
    | true => exact Looks.bind' h0 .now
    | false => exact Looks.bind' h0 (loop_any bs cs (Nat.succ.inj hl) e fun i c' y' h1 h2 => hc (i + 1) c' y' h1 h2)
/-- an except clause with several classes, of which one is the error's -/
theorem exm_some {cls : Value} {cs : List Value} {tp e : Addr} {o : Obj} {n : Nat} (X : K.In h) (LT : Looks M h (typeOf (.ref e)) cls) (hp : h.get? tp = some o) (hc : o.cls = .type "tuple") (hd : o.data = .seq cs.toArray n) (bs : List Bool) (hl : bs.length = cs.length) (hb : bs.any id = true)
    (hx : ∀ (i : Nat) (c : Value) (y : Bool), cs[i]? = some c → bs[i]? = some y → exmOne K cls c = some y) : Looks M h (excMatches (.ref e) (.ref tp)) true := by
  have at_ : ∀ c ∈ cs, ∃ y, exmOne K cls c = some y := fun c hm => by
    obtain ⟨i, hi, rfl⟩ := List.getElem_of_mem hm
    exact ⟨bs[i]'(by omega), hx i _ _ (List.getElem?_eq_getElem hi) (List.getElem?_eq_getElem _)⟩
  have L0 : Looks M h (isInstance (.ref tp) (.type "tuple")) true := fun A Q E s k q => by
    refine wpAny_bind (wpAny_typeOf_ref (k _ _ hp) ?_)
    rw [hc]
    exact (Looks.of_pure isSubtype_tuple_tuple) A Q E s k q
  unfold excMatches
  refine Looks.bind' L0 ?_
  dsimp only
  rw [if_pos rfl]
  refine Looks.bind' (a := some cs.toArray) (fun A Q E s k q => wpAny_seqItems (k _ _ hp) hd q) ?_
  refine Looks.bind' (a := cs) .now ?_
  refine Looks.bind' (a := PUnit.unit) (loop_all cs fun c hm => ?_) ?_
  · obtain ⟨y, hy⟩ := at_ c hm
    refine Looks.bind' (exm_cls X hy).1 ?_
    exact .now
  refine Looks.bind' LT ?_
  refine Looks.bind' (loop_any (b1 := (some true, ())) bs cs hl hb fun i c y h1 h2 => Looks.bind' (exm_cls X (hx i c y h1 h2)).2 ?_) ?_
  · cases y <;> exact .now
  · exact .now
end
end Pc
namespace Pc
open PySem PySem.Spec PyProof.Rows L2 RZ
/-- an error that was caught and is kept: its class, its dict -/
def exk (a : Addr) (cls : Value) (d : Option Addr) : HO := .ext fun h => ∃ (oe : Obj) (vs : Array Value), h.get? a = some oe ∧ Zc cls d oe ∧ oe.data = .fields vs
theorem exk_ok {P : Program} {w : World} {H : Hp} {h : Heap} {a : Addr} {cls : Value} {d : Option Addr} {oe : Obj} {vs : Array Value} (e : h.get? a = some oe) (z : Zc cls d oe) (q : oe.data = .fields vs) : ObjOk P w H h a (exk a cls d) :=
  ⟨⟨oe, vs, e, z, q⟩, ⟨oe, e⟩, fun _ _ ⟨o, v, r, r'⟩ k => ⟨o, v, k o r, r'⟩⟩
theorem exk_at {P : Program} {w : World} {H : Hp} {h : Heap} {a : Addr} {cls : Value} {d : Option Addr} (hok : HOk P w H h) (e : H a = some (exk a cls d)) : ∃ (oe : Obj) (vs : Array Value), h.get? a = some oe ∧ Zc cls d oe ∧ oe.data = .fields vs := by
  have x : ObjOk P w H h a (.ext fun h => ∃ (oe : Obj) (vs : Array Value), h.get? a = some oe ∧ Zc cls d oe ∧ oe.data = .fields vs) := hok a _ e
  exact x.1
theorem fly_keeps {B h h' : Heap} {l : List PySem.Env} {e : Addr} {Z : Obj → Prop} (R : HandSPX.FlyingZ B l e Z h) (k : ∀ b o, h.get? b = some o → h'.get? b = some o) : HandSPX.FlyingZ B l e Z h' := by
  obtain ⟨f1, f2, f3, oe, ws, T, oT, ts, r1, r2, r3, r4, r5, r6, r7, r8⟩ := R
  exact ⟨fun b o q => k b o (f1 b o q), f2, f3.of_keeps fun b o q _ => ⟨o, k b o q, rfl⟩, oe, ws, T, oT, ts, k _ _ r1, r2, r3, r4, r5, r6, k _ _ r7, r8⟩
/-- names of classes, one by one -/
def NamesAll (X : Cx) (es : List Expr) (cs : List Value) : Prop := Paired (fun (e : Expr) c => ∃ (x : Str) (p : Pos), e = .Name x p ∧ Names X x c) es cs
theorem names_run {X : Cx} {pins : List (Addr × Obj)} {σ : L2.St} {H : Hp} {s : Shared} {E : Value → Shared → Prop} {pos : Pos} (I : Inv X pins σ H s) :
    ∀ {es : List Expr} {cs : List Value} {Q : List Value → Shared → Prop}, NamesAll X es cs → Q cs s → wpAny (model X.prog X.w) X.A (spliced (backTo pos (starEach es X.env))) Q E s := by
  intro es cs Q h
  revert Q
  induction h with
  | nil => intro Q q; exact wpAny_items_nil q
  | cons h1 _ ih =>
    intro Q q
    obtain ⟨x, p, rfl, hg, hdb, hm⟩ := h1
    refine wpAny_items_cons ?_
    rcases hm with hm | ⟨hm, hv, hn⟩
    · exact ld_glob I hg hm (ih q) hdb
    · exact ld_blt I hg hm hv (ih q) hn hdb
/-- of which classes the error is -/
def Hits (K : PySem.W.Frag) (cls : Value) (cs : List Value) : Prop := ∃ bs : List Bool, bs.length = cs.length ∧ bs.any id = true ∧ ∀ (i : Nat) (c : Value) (y : Bool), cs[i]? = some c → bs[i]? = some y → PySem.W.exmOne K cls c = some y
/-- what 'except (..) as n: suite' wishes of an error of the body (slot i is n's): the error is kept -/
def wKept (K : PySem.W.Frag) (cs : List Value) (i : Nat) (ts : Addr → TS) (D : Ends) : WX := fun cls d σ H => Hits K cls cs ∧ ∀ a, H a = none →
  ts a { nx := fun σ' H' => D.nx (σ'.set i none) (upd H' a (exk a cls d)), rt := fun _ _ => False } (σ.set i (some (.ref a))) H
section
variable {X : Cx} {n : Str} {i : Nat} {body suite : List Stmt} {b₀ : Stmt} {es : List Expr} {cs : List Value} {kk : Nat} {tpos pos pos' : Pos} {tb : WX → TS} {ts : Addr → TS}
theorem ps_try_kept (hex : X.ex = []) (hs : X.stack = X.env :: X.outer) (hf : X.env.frame = some X.env.locals) (hN : X.N.Nodup) (hi : X.N[i]? = some n) (hln : X.env.kindOf n = some .local) (hc : NamesAll X es cs) (hcl : cs.length ≤ 1000)
    (hb : ∀ (W : WX) (pn : List (Addr × Obj)) (xe : Value → Shared → Prop), Takes (X.tr pn xe) W → PassesOwn (model X.prog X.w) X.A X.env xe → PSs (X.tr pn xe) body (tb W))
    (hsu : ∀ (a : Addr) (oe : Obj) (pn : List (Addr × Obj)), PSs (X.suite a ((a, oe) :: pn)) (b₀ :: suite) (ts a)) :
    PS X (.Try body [.ExceptHandler (some (.Tuple es kk tpos)) (some n) (b₀ :: suite) pos'] [] [] pos) (fun D σ H => tb (wKept X.K cs i ts D) D σ H) := by
  refine ⟨fun pins s σ H D I h => ?_⟩
  have ok := I.ok
  have hfr : X.A.frames = some (X.env :: X.outer) := by rw [ok.frames, hs]
  refine wpAny_Try_except (wpAny_mono ((hb (wKept X.K cs i ts D) (X.pn ++ pins) (fun e s₁ => wpAny (model X.prog X.w) X.A (noteFrame e X.env) (fun _ s₂ => wpAny (model X.prog X.w) X.A (setFlight e none) (fun _ s₃ =>
    wpAny (model X.prog X.w) X.A (handleBy e X.env [.ExceptHandler (some (.Tuple es kk tpos)) (some n) (b₀ :: suite) pos']) (SP X pins D) X.xe s₃) X.xe s₂) X.xe s₁) (fun u s' xx => ?_) PassesOwn.looking).run [] s σ H D (I.toTry _) h) (fun f s1 hsp => ?_) (fun e s1 he => he))
  · obtain ⟨a, B, sI, pins', σ', H', cls, d, rfl, J', nb, up, sky, na, os, ag, ⟨bs, hbl, hba, hbx⟩, hyes⟩ := xx
    have J : Inv X pins σ' H' sI := J'.ofTry ok
    rw [hs] at sky
    show wpAny (model X.prog X.w) X.A (noteFrame (.ref a) X.env) _ _ _
    refine Sky.land Zc.steady hfr hf sky fun h3 fl3 up3 => ?_
    obtain ⟨oe3, vs3, he3, hz3, hd3⟩ := fl3.there
    have nfr : a ∉ frs (X.env :: X.outer) := fun hm => by
      obtain ⟨_, o', e', hnf⟩ := fl3.2.2.1.mem hm
      rw [he3] at e'; cases e'
      exact hnf _ hd3
    have nL : a ≠ X.env.locals := fun z => nfr (List.mem_filterMap.mpr ⟨X.env, List.mem_cons_self, by rw [hf, z]⟩)
    have nF : a ∉ X.fs := fun hm => by
      obtain ⟨e, he, q⟩ := List.mem_filterMap.mp hm
      exact nfr (List.mem_filterMap.mpr ⟨e, List.mem_cons_of_mem _ he, q⟩)
    have nI : sI.heap.get? a = none := by
      cases z : sI.heap.get? a with
      | none => rfl
      | some o =>
        have y := nb a o z (by rw [hs]; exact nfr)
        rw [fl3.2.1] at y; cases y
    have J3 : Inv X pins σ' H' { s' with heap := h3 } := J.landed nb fl3.1 (up.trans up3) os ag
    have S3 := J3.suite he3 hd3 na nL nF
    refine wpAny_handleBy_cons (codeAny_handlers_test (wpAny_Tuple_spliced (names_run (X := X.suite a ((a, oe3) :: (X.pn ++ pins))) (cs := cs) S3 (L2.Paired.mapP hc fun _ _ z => z) ⟨by rw [sizeLine_eq]; omega, ?_⟩))) (by intro q; cases q)
    dsimp only
    have kp : ∀ b o, h3.get? b = some o → (h3.push { cls := .type "tuple", data := .seq cs.toArray }).get? b = some o := fun _ _ z => Heap.get?_push_of_some _ z
    have LT : PySem.W.Looks (model X.prog X.w) (h3.push { cls := .type "tuple", data := .seq cs.toArray }) (typeOf (.ref a)) cls := fun A Q E s k q => wpAny_typeOf_ref (k _ _ (kp _ _ he3)) (by rw [hz3.1]; exact q)
    refine (exm_some (J3.kIn.keeps kp) LT (Heap.get?_push_size h3 rfl) rfl rfl bs hbl hba hbx).here ?_
    refine codeAny_handlers_suite_as (HandSPX.lands_againZ (fly_keeps fl3 kp) fun h4 fl4 up4 => ?_)
    have J4 : Inv X pins σ' H' { s' with heap := h4 } := J.landed nb fl4.1 (((up.trans up3).trans (Heap.UpToSlots.of_keeps kp)).trans up4) os ag
    obtain ⟨oe4, vs4, he4, hz4, hd4⟩ := fl4.there
    have S4 := J4.suite he4 hd4 na nL nF
    refine store_ok (X := X.suite a ((a, oe4) :: (X.pn ++ pins))) (v := .ref a) S4 hN hi (.inl hln) rfl (fun s5 S5 => ?_) (.inr hln)
    refine wpAny_mono ((hsu a oe4 (X.pn ++ pins)).run [] s5 _ H' _ S5 (hyes a na)) (fun f s6 hsp => ?_) (fun _ _ z => False.elim z)
    cases f with
    | next =>
      obtain ⟨σ6, H6, S6, q6⟩ := hsp
      refine gone_ok (X := X.suite a ((a, oe4) :: (X.pn ++ pins))) S6 hN hi hln fun s7 S7 => ⟨_, _, adopt (S7.unsuite ok) ?_ ?_ nL ?_ ?_ ?_, q6⟩
      · exact (S7.pin (a, oe4) (List.mem_append_left _ List.mem_cons_self)).2.1
      · cases z : X.s_0.heap.get? a with
        | none => rfl
        | some o =>
          obtain ⟨o', y⟩ := J.base.there a o z (by rw [hex]; exact fun q => nomatch q)
          rw [nI] at y; cases y
      · intro x c ec z
        obtain ⟨v, ob, eo, _⟩ := J.cell x c ec
        rw [z, nI] at eo; cases eo
      · intro p hp z
        have y := (J.pin p hp).1
        rw [z, nI] at y; cases y
      · exact exk_ok (S7.pin (a, oe4) (List.mem_append_left _ List.mem_cons_self)).1 hz4 hd4
    | brk => obtain ⟨σ6, H6, S6, q6⟩ := hsp; exact q6.elim
    | cont => obtain ⟨σ6, H6, S6, q6⟩ := hsp; exact q6.elim
    | ret u => obtain ⟨v6, σ6, H6, S6, r6, q6⟩ := hsp; exact q6.elim
  · cases f with
    | next => obtain ⟨σ', H', J', q⟩ := hsp; exact wpAny_execs_nil ⟨σ', H', J'.ofTry ok, q⟩
    | brk => obtain ⟨σ', H', J', q⟩ := hsp; exact ⟨σ', H', J'.ofTry ok, q⟩
    | cont => obtain ⟨σ', H', J', q⟩ := hsp; exact ⟨σ', H', J'.ofTry ok, q⟩
    | ret u => obtain ⟨v, σ', H', J', r, q⟩ := hsp; exact ⟨v, σ', H', J'.ofTry ok, r, q⟩
end
end Pc
namespace Pc
open PySem PySem.Spec PyProof.Rows L2 RZ
/-- what isinstance asks of the class of a kept error -/
structure KeptC (K : PySem.W.Frag) (C : Addr) : Prop where
  ga : PySem.W.findIn K (.ref C) "__getattribute__" = some (some (.builtin "BaseException.__getattribute__"))
  gg : PySem.W.findIn K (.ref C) "__getattr__" = some none
  exC : PySem.W.subIn K (.ref C) (.type "BaseException") = some true
  hdC : PySem.W.hasDictIn K C = true
  clC : PySem.W.findIn K (.ref C) "__class__" = some (some (.builtin "object.__class__"))
  mrO : PySem.W.mroIn K C (.type "object") = some true
  sp : PySem.W.specialIn K (.builtin "object.__class__") "__get__" = some (some (.builtin "getset_descriptor.__get__"))
  tk : PySem.W.takesIn K (.builtin "object.__class__") = some true
/-- a kept error with its dict -/
def Kept (H : Hp) (a C : Addr) (d : Option Addr) : Prop := H a = some (exk a (.ref C) d) ∧ (d = none ∨ ∃ dd fs, d = some dd ∧ H dd = some (.xd fs))
section
variable {X : Cx} {pins : List (Addr × Obj)} {σ : L2.St} {H : Hp} {s : Shared} {a C : Addr} {d : Option Addr}
theorem kept_inst (I : Inv X pins σ H s) (h : Kept H a C d) : ∃ (oe : Obj) (od : Option Obj), PySem.W.InstAt s.heap a oe C od := by
  obtain ⟨e, hd⟩ := h
  obtain ⟨oe, vs, ho, hz, hv⟩ := exk_at I.hok e
  have nc : PySem.W.notCls oe = true := by unfold PySem.W.notCls; rw [hv] <;> rfl
  rcases hd with rfl | ⟨dd, fs, rfl, ed⟩
  · exact ⟨oe, none, ho, hz.1, nc, by rw [hz.2]; trivial⟩
  · obtain ⟨mA, ⟨od, es, ep, q, _⟩, _⟩ := (show ObjOk X.prog X.w H s.heap dd (.xd fs) from I.hok dd _ ed)
    exact ⟨oe, some od, ho, hz.1, nc, by rw [hz.2]; exact q⟩
theorem kept_kit (T : KeptC X.K C) {oe : Obj} {od : Option Obj} : PySem.W.KitX X.K (.ref a) (.ref C) (fun h => PySem.W.InstAt h a oe C od) :=
  PySem.W.kitx_exc (by obtain ⟨cd, hc, _⟩ := PySem.W.any_some T.hdC; rw [hc]; rfl) T.ga T.gg T.exC T.clC T.sp T.tk T.mrO
/-- isinstance(e, c), e a kept error -/
def rIsk (K : PySem.W.Frag) : List V → Hp → VK → Prop := fun xs H Q => ∃ (a C : Addr) (d : Option Addr) (c : V) (u : Value) (b : Bool), xs = [.ref a, c] ∧ Kept H a C d ∧ KeptC K C ∧ ClsV c u ∧ PySem.W.kitOne K (.ref C) u = some b ∧ Q (.bl b) H
theorem call_isk : CallR X (.builtin "isinstance") (rIsk X.K) := by
  intro pins s σ H xs us Q I r h
  obtain ⟨a, C, d, c, u, b, rfl, hk, T, k, e, q⟩ := h
  obtain ⟨u1, u2, rfl, r1, r2⟩ := vals2 r
  cases (show u1 = Value.ref a from r1)
  have e2 := k.eq r2
  subst e2
  obtain ⟨oe, od, J⟩ := kept_inst I hk
  exact PySem.W.kia_one (kept_kit T) I.kIn J e (fun z => nomatch z) fun tk => ⟨.bl b, H, I.tok tk, rfl, q⟩
/-- isinstance(e, (c, ..)) -/
def rIskT (K : PySem.W.Frag) : List V → Hp → VK → Prop := fun xs H Q => ∃ (a C : Addr) (d : Option Addr) (tp : Addr) (cs : List V) (us : List Value) (b : Bool), xs = [.ref a, .ref tp] ∧ Kept H a C d ∧ KeptC K C ∧ H tp = some (.tup cs) ∧ Paired ClsV cs us ∧ PySem.W.kitAny K (.ref C) us = some b ∧ Q (.bl b) H
theorem call_iskT : CallR X (.builtin "isinstance") (rIskT X.K) := by
  intro pins s σ H xs us Q I r h
  obtain ⟨a, C, d, tp, cs, ws, b, rfl, hk, T, hT, k, e, q⟩ := h
  obtain ⟨u1, u2, rfl, r1, r2⟩ := vals2 r
  cases (show u1 = Value.ref a from r1)
  cases (show u2 = Value.ref tp from r2)
  obtain ⟨oe, od, J⟩ := kept_inst I hk
  obtain ⟨_, its, rv, o, h1, h2, n, h3⟩ := (show ObjOk X.prog X.w H s.heap tp (.tup cs) from I.hok tp _ hT)
  have e3 := ClsV.all k rv
  subst e3
  obtain ⟨oc, od', dt, sl⟩ := o
  simp only at h2 h3
  subst h2 h3
  exact PySem.W.kia_tup (kept_kit T) I.kIn J h1 e (fun z => nomatch z) fun tk => ⟨.bl b, H, I.tok tk, rfl, q⟩
/-- e.f, e a kept error -/
def tKf (K : PySem.W.Frag) (f : Str) (te : TE) : TE := fun σ H Q => te σ H fun x H1 => ∃ (a C dd : Addr) (fs : List (Str × V)) (v : V), x = .ref a ∧ H1 a = some (exk a (.ref C) (some dd)) ∧ KeptC K C ∧ PySem.W.findIn K (.ref C) f = some none ∧ H1 dd = some (.xd fs) ∧ fs.lookup f = some v ∧ Q v H1
theorem pe_kf {e : Expr} {te : TE} {f : Str} {pos : Pos} (he : PE X e te) (hb : attributeBase e f X.env (eval e X.env) = eval e X.env := by rfl) : PE X (.Attribute e f pos) (tKf X.K f te) := by
  refine ⟨fun pins s σ H Q I h => attr_of hb (thn (he.run pins s σ H _ I h) fun u s1 hh => ?_)⟩
  obtain ⟨x, H1, I1, rx, a, C, dd, fs, v, ex, ea, T, hno, ed, l, q⟩ := hh
  subst ex
  obtain rfl : u = Value.ref a := rx
  obtain ⟨oe, vs, ho, hz, hv⟩ := exk_at I1.hok ea
  obtain ⟨mA, hns, hr⟩ := (show ObjOk X.prog X.w H1 s1.heap dd (.xd fs) from I1.hok dd _ ed)
  obtain ⟨od, hod, hl⟩ := lookIn_ns hns
  obtain ⟨w', hw, rw'⟩ := RelO.some_of (v := v) (o := mA f) (by rw [← l]; exact hr f)
  have J : PySem.W.InstAt s1.heap a oe C (some od) := ⟨ho, hz.1, by unfold PySem.W.notCls; rw [hv] <;> rfl, by rw [hz.2]; exact hod⟩
  exact HandSPX.exc_get I1.kIn J T.ga T.gg T.exC (PySem.W.findObj_own T.hdC hno rfl (by rw [hl, hw])) (handed_of rw') ⟨v, H1, I1.tok _, rw', q⟩
end
end Pc
namespace Pc
open PySem PySem.Spec PyProof.Rows L2 RZ
/-! ### errors with one field: made, flying -/
/-- an error of the class at C with the field f flies, from the heap H on -/
def Flies (C : Addr) (f : Str) (v : V) (H : Hp) (E : XK) : Prop := ∀ d H', Same H H' → H d = none → H' d = some (.xd [(f, v)]) → E (.ref C) (some d) H'
theorem Flies.same {C : Addr} {f : Str} {v : V} {H H1 : Hp} {E : XK} (h : Flies C f v H E) (s : Same H H1) : Flies C f v H1 E := fun d H' s' n e => h d H' (s.trans s') (s.free n) e
def spInit1 (C : Addr) (f : Str) : Sp := fun vs H Q _ => ∃ (a : Addr) (v : V), vs = [.ref a, v] ∧ H a = some (exo a C none) ∧ ∀ dx, H dx = none → dx ≠ a → Q .non (upd (upd H a (exo a C (some dx))) dx (exd dx [(f, v)]))
theorem raised1 {C : Addr} {f : Str} {v : V} {H1 : Hp} {Q : XK} (h : Flies C f v H1 Q) : [v].length ≤ 1000 ∧ ∀ a, H1 a = none → spInit1 C f (.ref a :: [v]) (upd H1 a (exo a C none))
    (fun v' H2 => v' = .non ∧ ((H2 a = some (exo a C none) ∧ Q (.ref C) none (del H2 a)) ∨ ∃ (d : Addr) (fs : List (Str × V)), H2 a = some (exo a C (some d)) ∧ H2 d = some (exd d fs) ∧ Q (.ref C) (some d) (upd (del H2 a) d (.xd fs)))) (fun _ _ _ => False) := by
  refine ⟨(by show 1 ≤ 1000; decide), fun a na => ⟨a, v, rfl, upd_same, fun dx nd ne => ⟨rfl, .inr ⟨dx, [(f, v)], ?_, upd_same, h dx _ ?_ ?_ upd_same⟩⟩⟩⟩
  · rw [upd_ne (Ne.symm ne), upd_same]
  · intro b o hb
    have nd' : H1 dx = none := by rw [upd_ne ne] at nd; exact nd
    have hbd := ne_of_none hb nd'
    have hba := ne_of_none hb na
    rw [upd_ne hbd, del_ne hba, upd_ne hbd, upd_ne hba, upd_ne hba]
    exact hb
  · rw [upd_ne ne] at nd; exact nd
/-- the try's wish of such an error -/
theorem kept1 {K : PySem.W.Frag} {C : Addr} {f : Str} {v : V} {cs : List Value} {i : Nat} {ts : Addr → TS} {D : Ends} {σ : L2.St} {H : Hp} (hh : Hits K (.ref C) cs)
    (h : ∀ d H' a, Same H H' → H d = none → H' d = some (.xd [(f, v)]) → H' a = none → a ≠ d → ts a { nx := fun σ' H'' => D.nx (σ'.set i none) (upd H'' a (exk a (.ref C) (some d))), rt := fun _ _ => False } (σ.set i (some (.ref a))) H') :
    Flies C f v H (fun cls d H' => wKept K cs i ts D cls d σ H') := fun d H' s n e => ⟨hh, fun a na => h d H' a s n e na (fun z => by rw [z, e] at na; cases na)⟩
theorem Kept.mk1 {H' : Hp} {a d C : Addr} {fs : List (Str × V)} (e : H' d = some (.xd fs)) (n : H' a = none) : Kept (upd H' a (exk a (.ref C) (some d))) a C (some d) :=
  ⟨upd_same, .inr ⟨d, fs, rfl, by rw [upd_ne (ne_of_none e n)]; exact e⟩⟩
theorem Kept.same {H H' : Hp} {a C : Addr} {d : Option Addr} (h : Kept H a C d) (s : Same H H') : Kept H' a C d :=
  ⟨s _ _ h.1, h.2.imp id fun ⟨dd, fs, e, z⟩ => ⟨dd, fs, e, s _ _ z⟩⟩
theorem over_of {K : PySem.W.Frag} {C : Addr} {bmB : List Value} {newId : String} {nm q : Str} {N : Addr} {bs : List Value} {sn : List Str} {sub : List Value} {ab : Bool} {col : Option Bool} {dd : Option Addr} {k0 k1 k2 k3 k5 : Option Value}
    (h : K.lookup C = some (excClassObj nm q C N bs bmB true sn sub ab col dd k0 k1 k2 k3 k5 newId)) (ht : PySem.W.excTail bmB bmB = true) : PySem.W.excOver K C bmB = true := by
  have e : PySem.W.clsIn K C = some { name := nm, bases := bs, mro := .ref C :: bmB, ns := N, qualname := q, hasDict := true, slotNames := sn, subclasses := sub, abstract := ab, collection := col, hasDel := false } := by
    unfold PySem.W.clsIn
    rw [h] <;> rfl
  unfold PySem.W.excOver
  rw [e]
  show ((C == C) && PySem.W.excTail bmB bmB) = true
  rw [ht, beq_self_eq_true]; rfl
theorem kcls_of {K : PySem.W.Frag} {t : Value} {D : Addr} {b : Bool} (h2 : PySem.W.isClsIn K D = true) (h3 : PySem.W.typeIn K (.ref D) = some (.type "type")) (h4 : PySem.W.subIn K t (.ref D) = some b) : PySem.W.kitCls K t (.ref D) = some b := by
  have e2 : ((PySem.W.clsIn K D).isSome && PySem.W.typeIn K (.ref D) == some (.type "type")) = true := by
    have h2' : (PySem.W.clsIn K D).isSome = true := h2
    rw [h2', h3] <;> rfl
  show (if ((PySem.W.clsIn K D).isSome && PySem.W.typeIn K (.ref D) == some (.type "type")) = true then PySem.W.subIn K t (.ref D) else none) = some b
  rw [if_pos e2]
  exact h4
theorem exm_of' {K : PySem.W.Frag} {t : Value} {D : Addr} {b : Bool} (h1 : PySem.W.subIn K (.ref D) (.type "BaseException") = some true) (h2 : PySem.W.isClsIn K D = true) (h3 : PySem.W.typeIn K (.ref D) = some (.type "type")) (h4 : PySem.W.subIn K t (.ref D) = some b) : PySem.W.exmOne K t (.ref D) = some b := by
  have e1 : (PySem.W.subIn K (.ref D) (.type "BaseException") == some true) = true := by rw [h1] <;> rfl
  show (if (PySem.W.subIn K (.ref D) (.type "BaseException") == some true) = true then PySem.W.kitCls K t (.ref D) else none) = some b
  rw [if_pos e1]
  exact kcls_of h2 h3 h4
theorem kit_own {K : PySem.W.Frag} {C D : Addr} {b : Bool} (h0 : PySem.W.subIn K (.ref C) (.ref C) = some true) (h2 : PySem.W.isClsIn K D = true) (h3 : PySem.W.typeIn K (.ref D) = some (.type "type")) (h4 : PySem.W.subIn K (.ref C) (.ref D) = some b) : PySem.W.kitOne K (.ref C) (.ref D) = some b := by
  by_cases e : C = D
  · subst e
    rw [h0] at h4
    rw [← h4]
    show (if ((Value.ref C) == (Value.ref C)) = true then some true else _) = some true
    rw [if_pos (beq_self_eq_true _)]
  · have n : ((Value.ref C) == (Value.ref D)) = false := beq_false_of_ne (fun z => e (Value.ref.inj z))
    show (if ((Value.ref C) == (Value.ref D)) = true then some true else PySem.W.kitCls K (.ref C) (.ref D)) = some b
    rw [if_neg (by rw [n]; exact Bool.false_ne_true)]
    exact kcls_of h2 h3 h4
theorem kit_blt {K : PySem.W.Frag} {C : Addr} {T : String} {b : Bool} (hm : PySem.W.kitMeta T = true) (h4 : PySem.W.subIn K (.ref C) (.type T) = some b) : PySem.W.kitOne K (.ref C) (.type T) = some b := by
  have n : ((Value.ref C) == (Value.type T)) = false := beq_false_of_ne (fun z => nomatch z)
  show (if ((Value.ref C) == (Value.type T)) = true then some true else (if PySem.W.kitMeta T = true then PySem.W.subIn K (.ref C) (.type T) else none)) = some b
  rw [if_neg (by rw [n]; exact Bool.false_ne_true), if_pos hm]
  exact h4
theorem kit_all {K : PySem.W.Frag} {t : Value} : ∀ {us : List Value}, (∀ u ∈ us, PySem.W.kitOne K t u = some false) → PySem.W.kitAny K t us = some false
  | [], _ => rfl
  | u :: us, h => by
    show (match PySem.W.kitOne K t u with | some true => some true | some false => PySem.W.kitAny K t us | none => none) = some false
    rw [h u List.mem_cons_self]
    exact kit_all fun x hx => h x (List.mem_cons_of_mem _ hx)
end Pc
namespace Pc
open PySem PySem.Spec PyProof.Rows L2 RZ
theorem kit_nil {K : PySem.W.Frag} {t : Value} : PySem.W.kitAny K t [] = some false := rfl
theorem kit_cons {K : PySem.W.Frag} {t u : Value} {us : List Value} (h : PySem.W.kitOne K t u = some false) (r : PySem.W.kitAny K t us = some false) : PySem.W.kitAny K t (u :: us) = some false := by
  show (match PySem.W.kitOne K t u with | some true => some true | some false => PySem.W.kitAny K t us | none => none) = some false
  rw [h]
  exact r
theorem hits_of {K : PySem.W.Frag} {cls : Value} {cs : List Value} (bs : List Bool) (hb : bs.any id = true) (h : Paired (fun c b => PySem.W.exmOne K cls c = some b) cs bs) : Hits K cls cs :=
  ⟨bs, h.length.symm, hb, fun i c y hc hy => by
    obtain ⟨y', e, z⟩ := paired_get h hc
    rw [hy] at e; cases e
    exact z⟩
end Pc
namespace Pc
open PySem PySem.Spec PyProof.Rows L2 RZ
/-- two promises of one def -/
theorem FnOk.or {P : Program} {w : World} {K : PySem.W.Frag} {mg : Str → Option Value} {base : Heap} {CX : CXT} {k : Nat} {f : Addr} {fd : FuncData} {ps : List Str} {sp sp' : Sp} (F : FnOk P w K mg base CX k f fd ps sp) (G : FnOk P w K mg base CX k f fd ps sp') :
    FnOk P w K mg base CX k f fd ps (fun vs H Q E => sp vs H Q E ∨ sp' vs H Q E) where
  len vs H Q E h := h.elim (F.len vs H Q E) (G.len vs H Q E)
  run A outer s H args us vs Q E hr e0 hb r h := h.elim (F.run A outer s H args us vs Q E hr e0 hb r) (G.run A outer s H args us vs Q E hr e0 hb r)
end Pc
namespace Pc
open PySem PySem.Spec PyProof.Rows L2 RZ
def topS (i : Nat) : Stmt := PySem.Challenge.pw_partnercall_k80_whole_fewest_calls_of_sh.main.body.getD i (.Pass ⟨0, 0, 0, 0⟩)
abbrev s_p_check_person : Stmt := topS 5
abbrev N_p_check_person : List Str := ["size", "person"]
theorem sc_p_check_person : FnScope ["size", "person"] ["size", "person"] (defScope s_p_check_person) := ⟨rfl, rfl, rfl, by decide +kernel, rfl, by decide +kernel, by decide +kernel⟩
abbrev s_p_check_call : Stmt := topS 6
abbrev N_p_check_call : List Str := ["size", "call", "person"]
theorem sc_p_check_call : FnScope ["size", "call", "person"] ["size", "call"] (defScope s_p_check_call) := ⟨rfl, rfl, rfl, by decide +kernel, rfl, by decide +kernel, by decide +kernel⟩
abbrev s_p_check_word : Stmt := topS 7
abbrev N_p_check_word : List Str := ["size", "word", "call"]
theorem sc_p_check_word : FnScope ["size", "word", "call"] ["size", "word"] (defScope s_p_check_word) := ⟨rfl, rfl, rfl, by decide +kernel, rfl, by decide +kernel, by decide +kernel⟩
abbrev s_p_join_two : Stmt := topS 8
abbrev N_p_join_two : List Str := ["joined", "a", "b", "left", "right"]
theorem sc_p_join_two : FnScope ["joined", "a", "b", "left", "right"] ["joined", "a", "b"] (defScope s_p_join_two) := ⟨rfl, rfl, rfl, by decide +kernel, rfl, by decide +kernel, by decide +kernel⟩
abbrev s_p_people_of : Stmt := topS 10
abbrev N_p_people_of : List Str := ["sheet"]
theorem sc_p_people_of : FnScope ["sheet"] ["sheet"] (defScope s_p_people_of) := ⟨rfl, rfl, rfl, by decide +kernel, rfl, by decide +kernel, by decide +kernel⟩
abbrev s_p_empty_sheet : Stmt := topS 11
abbrev N_p_empty_sheet : List Str := ["size"]
theorem sc_p_empty_sheet : FnScope ["size"] ["size"] (defScope s_p_empty_sheet) := ⟨rfl, rfl, rfl, by decide +kernel, rfl, by decide +kernel, by decide +kernel⟩
abbrev s_p_with_word : Stmt := topS 12
abbrev N_p_with_word : List Str := ["sheet", "word", "size", "ends", "a", "b"]
theorem sc_p_with_word : FnScope ["sheet", "word", "size", "ends", "a", "b"] ["sheet", "word"] (defScope s_p_with_word) := ⟨rfl, rfl, rfl, by decide +kernel, rfl, by decide +kernel, by decide +kernel⟩
abbrev s_p_with_call : Stmt := topS 13
abbrev N_p_with_call : List Str := ["sheet", "call"]
theorem sc_p_with_call : FnScope ["sheet", "call"] ["sheet", "call"] (defScope s_p_with_call) := ⟨rfl, rfl, rfl, by decide +kernel, rfl, by decide +kernel, by decide +kernel⟩
abbrev s_p_lower_pairs : Stmt := topS 14
abbrev N_p_lower_pairs : List Str := ["sheet", "size", "x"]
theorem sc_p_lower_pairs : FnScope ["sheet", "size", "x"] ["sheet"] (defScope s_p_lower_pairs) := ⟨rfl, rfl, rfl, by decide +kernel, rfl, by decide +kernel, by decide +kernel⟩
abbrev s_p_other_side : Stmt := topS 15
abbrev N_p_other_side : List Str := ["size", "end"]
theorem sc_p_other_side : FnScope ["size", "end"] ["size", "end"] (defScope s_p_other_side) := ⟨rfl, rfl, rfl, by decide +kernel, rfl, by decide +kernel, by decide +kernel⟩
abbrev s_p_loop_of : Stmt := topS 17
abbrev N_p_loop_of : List Str := ["sheet", "person", "size", "people", "end"]
theorem sc_p_loop_of : FnScope ["sheet", "person", "size", "people", "end"] ["sheet", "person"] (defScope s_p_loop_of) := ⟨rfl, rfl, rfl, by decide +kernel, rfl, by decide +kernel, by decide +kernel⟩
abbrev s_p_loops : Stmt := topS 18
abbrev N_p_loops : List Str := ["sheet", "found", "seen", "person", "loop", "member"]
theorem sc_p_loops : FnScope ["sheet", "found", "seen", "person", "loop", "member"] ["sheet"] (defScope s_p_loops) := ⟨rfl, rfl, rfl, by decide +kernel, rfl, by decide +kernel, by decide +kernel⟩
abbrev s_p_is_pure : Stmt := topS 19
abbrev N_p_is_pure : List Str := ["sheet", "loop", "person"]
theorem sc_p_is_pure : FnScope ["sheet", "loop", "person"] ["sheet", "loop"] (defScope s_p_is_pure) := ⟨rfl, rfl, rfl, by decide +kernel, rfl, by decide +kernel, by decide +kernel⟩
abbrev s_p_pure_loops : Stmt := topS 20
abbrev N_p_pure_loops : List Str := ["sheet", "loop"]
theorem sc_p_pure_loops : FnScope ["sheet", "loop"] ["sheet"] (defScope s_p_pure_loops) := ⟨rfl, rfl, rfl, by decide +kernel, rfl, by decide +kernel, by decide +kernel⟩
abbrev s_p_has_word : Stmt := topS 21
abbrev N_p_has_word : List Str := ["sheet"]
theorem sc_p_has_word : FnScope ["sheet"] ["sheet"] (defScope s_p_has_word) := ⟨rfl, rfl, rfl, by decide +kernel, rfl, by decide +kernel, by decide +kernel⟩
abbrev s_p_fewest_calls : Stmt := topS 22
abbrev N_p_fewest_calls : List Str := ["sheet"]
theorem sc_p_fewest_calls : FnScope ["sheet"] ["sheet"] (defScope s_p_fewest_calls) := ⟨rfl, rfl, rfl, by decide +kernel, rfl, by decide +kernel, by decide +kernel⟩
abbrev s_p_undone_calls : Stmt := topS 23
abbrev N_p_undone_calls : List Str := ["ends", "pure", "size", "undone", "loop", "a", "b", "alone"]
theorem sc_p_undone_calls : FnScope ["ends", "pure", "size", "undone", "loop", "a", "b", "alone"] ["ends", "pure"] (defScope s_p_undone_calls) := ⟨rfl, rfl, rfl, by decide +kernel, rfl, by decide +kernel, by decide +kernel⟩
abbrev s_p_word_for : Stmt := topS 24
abbrev N_p_word_for : List Str := ["sheet"]
theorem sc_p_word_for : FnScope ["sheet"] ["sheet"] (defScope s_p_word_for) := ⟨rfl, rfl, rfl, by decide +kernel, rfl, by decide +kernel, by decide +kernel⟩
abbrev s_stream : Stmt := topS 26
abbrev N_stream : List Str := ["_law_script", "_law_k", "_law_cell"]
theorem sc_stream : FnScope ["_law_script", "_law_k", "_law_cell"] ["_law_script", "_law_k"] (defScope s_stream) := ⟨rfl, rfl, rfl, by decide +kernel, rfl, by decide +kernel, by decide +kernel⟩
abbrev s_draw : Stmt := topS 27
abbrev N_draw : List Str := ["_law_source", "_law_bound", "_law_found", "_law_once", "_law_twice"]
theorem sc_draw : FnScope ["_law_source", "_law_bound", "_law_found", "_law_once", "_law_twice"] ["_law_source", "_law_bound"] (defScope s_draw) := ⟨rfl, rfl, rfl, by decide +kernel, rfl, by decide +kernel, by decide +kernel⟩
abbrev s_folded : Stmt := topS 28
abbrev N_folded : List Str := ["_law_script", "_law_most", "_law_cells", "_law_k", "_law_cell"]
theorem sc_folded : FnScope ["_law_script", "_law_most", "_law_cells", "_law_k", "_law_cell"] ["_law_script", "_law_most"] (defScope s_folded) := ⟨rfl, rfl, rfl, by decide +kernel, rfl, by decide +kernel, by decide +kernel⟩
abbrev s_pick : Stmt := topS 29
abbrev N_pick : List Str := ["_law_source", "_law_some"]
theorem sc_pick : FnScope ["_law_source", "_law_some"] ["_law_source", "_law_some"] (defScope s_pick) := ⟨rfl, rfl, rfl, by decide +kernel, rfl, by decide +kernel, by decide +kernel⟩
abbrev s_all_calls : Stmt := topS 30
abbrev N_all_calls : List Str := ["_law_crowd", "_law_found", "_law_left", "_law_right_here"]
theorem sc_all_calls : FnScope ["_law_crowd", "_law_found", "_law_left", "_law_right_here"] ["_law_crowd"] (defScope s_all_calls) := ⟨rfl, rfl, rfl, by decide +kernel, rfl, by decide +kernel, by decide +kernel⟩
abbrev s_same : Stmt := topS 31
abbrev N_same : List Str := ["_law_found", "_law_due", "_law_mine", "_law_its"]
theorem sc_same : FnScope ["_law_found", "_law_due", "_law_mine", "_law_its"] ["_law_found", "_law_due"] (defScope s_same) := ⟨rfl, rfl, rfl, by decide +kernel, rfl, by decide +kernel, by decide +kernel⟩
abbrev s_shuffled : Stmt := topS 32
abbrev N_shuffled : List Str := ["_law_source", "_law_some", "_law_left", "_law_found"]
theorem sc_shuffled : FnScope ["_law_source", "_law_some", "_law_left", "_law_found"] ["_law_source", "_law_some"] (defScope s_shuffled) := ⟨rfl, rfl, rfl, by decide +kernel, rfl, by decide +kernel, by decide +kernel⟩
abbrev s_random_pairing : Stmt := topS 33
abbrev N_random_pairing : List Str := ["_law_source", "_law_crowd", "_law_row", "_law_found", "_law_at"]
theorem sc_random_pairing : FnScope ["_law_source", "_law_crowd", "_law_row", "_law_found", "_law_at"] ["_law_source", "_law_crowd"] (defScope s_random_pairing) := ⟨rfl, rfl, rfl, by decide +kernel, rfl, by decide +kernel, by decide +kernel⟩
abbrev s_random_call : Stmt := topS 34
abbrev N_random_call : List Str := ["_law_source", "_law_some", "_law_duo"]
theorem sc_random_call : FnScope ["_law_source", "_law_some", "_law_duo"] ["_law_source", "_law_some"] (defScope s_random_call) := ⟨rfl, rfl, rfl, by decide +kernel, rfl, by decide +kernel, by decide +kernel⟩
abbrev s_random_word : Stmt := topS 35
abbrev N_random_word : List Str := ["_law_source", "_law_crowd", "_law_most", "_law_some", "_law_turn"]
theorem sc_random_word : FnScope ["_law_source", "_law_crowd", "_law_most", "_law_some", "_law_turn"] ["_law_source", "_law_crowd", "_law_most"] (defScope s_random_word) := ⟨rfl, rfl, rfl, by decide +kernel, rfl, by decide +kernel, by decide +kernel⟩
abbrev s_joined_ends : Stmt := topS 36
abbrev N_joined_ends : List Str := ["_law_crowd", "_law_tape", "_law_page", "_law_left", "_law_right_here", "_law_low", "_law_high", "_law_one_end", "_law_two_end"]
theorem sc_joined_ends : FnScope ["_law_crowd", "_law_tape", "_law_page", "_law_left", "_law_right_here", "_law_low", "_law_high", "_law_one_end", "_law_two_end"] ["_law_crowd", "_law_tape"] (defScope s_joined_ends) := ⟨rfl, rfl, rfl, by decide +kernel, rfl, by decide +kernel, by decide +kernel⟩
abbrev s_layers : Stmt := topS 37
abbrev N_layers : List Str := ["_law_crowd", "_law_calls", "_law_found", "_law_layer", "_law_far", "_law_further", "_law_here", "_law_duo", "_law_there"]
theorem sc_layers : FnScope ["_law_crowd", "_law_calls", "_law_found", "_law_layer", "_law_far", "_law_further", "_law_here", "_law_duo", "_law_there"] ["_law_crowd"] (defScope s_layers) := ⟨rfl, rfl, rfl, by decide +kernel, rfl, by decide +kernel, by decide +kernel⟩
abbrev s_loops : Stmt := topS 38
abbrev N_loops : List Str := ["_law_page", "_law_crowd", "_law_found", "_law_pure", "_law_spot", "_law_lap", "_law_here", "_law_crew", "_law_flags", "_law_end"]
theorem sc_loops : FnScope ["_law_page", "_law_crowd", "_law_found", "_law_pure", "_law_spot", "_law_lap", "_law_here", "_law_crew", "_law_flags", "_law_end"] ["_law_page"] (defScope s_loops) := ⟨rfl, rfl, rfl, by decide +kernel, rfl, by decide +kernel, by decide +kernel⟩
abbrev s_is_none : Stmt := topS 39
abbrev N_is_none : List Str := ["_law_page", "_law_found", "_law_door", "_law_caught", "error"]
theorem sc_is_none : FnScope ["_law_page", "_law_found", "_law_door", "_law_caught", "error"] ["_law_page"] (defScope s_is_none) := ⟨rfl, rfl, rfl, by decide +kernel, rfl, by decide +kernel, by decide +kernel⟩
abbrev s_page_right : Stmt := topS 40
abbrev N_page_right : List Str := ["_law_source", "_law_page", "_law_crowd", "_law_laps", "_law_pure", "_law_is_plain", "_law_due", "_law_tape", "_law_near", "_law_end"]
theorem sc_page_right : FnScope ["_law_source", "_law_page", "_law_crowd", "_law_laps", "_law_pure", "_law_is_plain", "_law_due", "_law_tape", "_law_near", "_law_end"] ["_law_source", "_law_page"] (defScope s_page_right) := ⟨rfl, rfl, rfl, by decide +kernel, rfl, by decide +kernel, by decide +kernel⟩
abbrev s_right : Stmt := topS 41
abbrev N_right : List Str := ["_law_source", "_law_table", "_law_turn", "_law_page", "_law_crowd", "_law_tape", "_law_order", "_law_spot"]
theorem sc_right : FnScope ["_law_source", "_law_table", "_law_turn", "_law_page", "_law_crowd", "_law_tape", "_law_order", "_law_spot"] ["_law_source"] (defScope s_right) := ⟨rfl, rfl, rfl, by decide +kernel, rfl, by decide +kernel, by decide +kernel⟩
abbrev s_law : Stmt := topS 42
abbrev N_law : List Str := ["_law_script", "_law_cells", "_law_k"]
theorem sc_law : FnScope ["_law_script", "_law_cells", "_law_k"] ["_law_script"] (defScope s_law) := ⟨rfl, rfl, rfl, by decide +kernel, rfl, by decide +kernel, by decide +kernel⟩
abbrev s_i_NoWord : Stmt := inClass (topS 3) 0
abbrev N_i_NoWord : List Str := ["self"]
theorem sc_i_NoWord : FnScope ["self"] ["self"] (defScope s_i_NoWord) := ⟨rfl, rfl, rfl, by decide +kernel, rfl, by decide +kernel, by decide +kernel⟩
set_option genInjectivity false in
set_option genSizeOf false in
structure Env (K : PySem.W.Frag) (mg : Str → Option Value) where
  n_len : mg "len" = none
  n_tuple : mg "tuple" = none
  n_list : mg "list" = none
  n_range : mg "range" = none
  n_sorted : mg "sorted" = none
  n_set : mg "set" = none
  n_all : mg "all" = none
  n_abs : mg "abs" = none
  n_int : mg "int" = none
  n_enumerate : mg "enumerate" = none
  n_isinstance : mg "isinstance" = none
  n_zip : mg "zip" = none
  n_bool : mg "bool" = none
  n_str : mg "str" = none
  n_min : mg "min" = none
  n_max : mg "max" = none
  n_ValueError : mg "ValueError" = none
  f_p_check_person : Addr
  d_p_check_person : FuncData
  F_p_check_person : Fun K "check_person" "check_person" s_p_check_person f_p_check_person d_p_check_person
  g_p_check_person : mg "check_person" = some (.ref f_p_check_person)
  f_p_check_call : Addr
  d_p_check_call : FuncData
  F_p_check_call : Fun K "check_call" "check_call" s_p_check_call f_p_check_call d_p_check_call
  g_p_check_call : mg "check_call" = some (.ref f_p_check_call)
  f_p_check_word : Addr
  d_p_check_word : FuncData
  F_p_check_word : Fun K "check_word" "check_word" s_p_check_word f_p_check_word d_p_check_word
  g_p_check_word : mg "check_word" = some (.ref f_p_check_word)
  f_p_join_two : Addr
  d_p_join_two : FuncData
  F_p_join_two : Fun K "join_two" "join_two" s_p_join_two f_p_join_two d_p_join_two
  g_p_join_two : mg "join_two" = some (.ref f_p_join_two)
  f_p_people_of : Addr
  d_p_people_of : FuncData
  F_p_people_of : Fun K "people_of" "people_of" s_p_people_of f_p_people_of d_p_people_of
  g_p_people_of : mg "people_of" = some (.ref f_p_people_of)
  f_p_empty_sheet : Addr
  d_p_empty_sheet : FuncData
  F_p_empty_sheet : Fun K "empty_sheet" "empty_sheet" s_p_empty_sheet f_p_empty_sheet d_p_empty_sheet
  g_p_empty_sheet : mg "empty_sheet" = some (.ref f_p_empty_sheet)
  f_p_with_word : Addr
  d_p_with_word : FuncData
  F_p_with_word : Fun K "with_word" "with_word" s_p_with_word f_p_with_word d_p_with_word
  g_p_with_word : mg "with_word" = some (.ref f_p_with_word)
  f_p_with_call : Addr
  d_p_with_call : FuncData
  F_p_with_call : Fun K "with_call" "with_call" s_p_with_call f_p_with_call d_p_with_call
  g_p_with_call : mg "with_call" = some (.ref f_p_with_call)
  f_p_lower_pairs : Addr
  d_p_lower_pairs : FuncData
  F_p_lower_pairs : Fun K "lower_pairs" "lower_pairs" s_p_lower_pairs f_p_lower_pairs d_p_lower_pairs
  g_p_lower_pairs : mg "lower_pairs" = some (.ref f_p_lower_pairs)
  f_p_other_side : Addr
  d_p_other_side : FuncData
  F_p_other_side : Fun K "other_side" "other_side" s_p_other_side f_p_other_side d_p_other_side
  g_p_other_side : mg "other_side" = some (.ref f_p_other_side)
  f_p_loop_of : Addr
  d_p_loop_of : FuncData
  F_p_loop_of : Fun K "loop_of" "loop_of" s_p_loop_of f_p_loop_of d_p_loop_of
  g_p_loop_of : mg "loop_of" = some (.ref f_p_loop_of)
  f_p_loops : Addr
  d_p_loops : FuncData
  F_p_loops : Fun K "loops" "loops" s_p_loops f_p_loops d_p_loops
  g_p_loops : mg "loops" = some (.ref f_p_loops)
  f_p_is_pure : Addr
  d_p_is_pure : FuncData
  F_p_is_pure : Fun K "is_pure" "is_pure" s_p_is_pure f_p_is_pure d_p_is_pure
  g_p_is_pure : mg "is_pure" = some (.ref f_p_is_pure)
  f_p_pure_loops : Addr
  d_p_pure_loops : FuncData
  F_p_pure_loops : Fun K "pure_loops" "pure_loops" s_p_pure_loops f_p_pure_loops d_p_pure_loops
  g_p_pure_loops : mg "pure_loops" = some (.ref f_p_pure_loops)
  f_p_has_word : Addr
  d_p_has_word : FuncData
  F_p_has_word : Fun K "has_word" "has_word" s_p_has_word f_p_has_word d_p_has_word
  g_p_has_word : mg "has_word" = some (.ref f_p_has_word)
  f_p_fewest_calls : Addr
  d_p_fewest_calls : FuncData
  F_p_fewest_calls : Fun K "fewest_calls" "fewest_calls" s_p_fewest_calls f_p_fewest_calls d_p_fewest_calls
  g_p_fewest_calls : mg "fewest_calls" = some (.ref f_p_fewest_calls)
  f_p_undone_calls : Addr
  d_p_undone_calls : FuncData
  F_p_undone_calls : Fun K "undone_calls" "undone_calls" s_p_undone_calls f_p_undone_calls d_p_undone_calls
  g_p_undone_calls : mg "undone_calls" = some (.ref f_p_undone_calls)
  f_p_word_for : Addr
  d_p_word_for : FuncData
  F_p_word_for : Fun K "word_for" "word_for" s_p_word_for f_p_word_for d_p_word_for
  g_p_word_for : mg "word_for" = some (.ref f_p_word_for)
  f_stream : Addr
  d_stream : FuncData
  F_stream : Fun K "_law_stream" "_law_stream" s_stream f_stream d_stream
  g_stream : mg "_law_stream" = some (.ref f_stream)
  f_draw : Addr
  d_draw : FuncData
  F_draw : Fun K "_law_draw" "_law_draw" s_draw f_draw d_draw
  g_draw : mg "_law_draw" = some (.ref f_draw)
  f_folded : Addr
  d_folded : FuncData
  F_folded : Fun K "_law_folded" "_law_folded" s_folded f_folded d_folded
  g_folded : mg "_law_folded" = some (.ref f_folded)
  f_pick : Addr
  d_pick : FuncData
  F_pick : Fun K "_law_pick" "_law_pick" s_pick f_pick d_pick
  g_pick : mg "_law_pick" = some (.ref f_pick)
  f_all_calls : Addr
  d_all_calls : FuncData
  F_all_calls : Fun K "_law_all_calls" "_law_all_calls" s_all_calls f_all_calls d_all_calls
  g_all_calls : mg "_law_all_calls" = some (.ref f_all_calls)
  f_same : Addr
  d_same : FuncData
  F_same : Fun K "_law_same" "_law_same" s_same f_same d_same
  g_same : mg "_law_same" = some (.ref f_same)
  f_shuffled : Addr
  d_shuffled : FuncData
  F_shuffled : Fun K "_law_shuffled" "_law_shuffled" s_shuffled f_shuffled d_shuffled
  g_shuffled : mg "_law_shuffled" = some (.ref f_shuffled)
  f_random_pairing : Addr
  d_random_pairing : FuncData
  F_random_pairing : Fun K "_law_random_pairing" "_law_random_pairing" s_random_pairing f_random_pairing d_random_pairing
  g_random_pairing : mg "_law_random_pairing" = some (.ref f_random_pairing)
  f_random_call : Addr
  d_random_call : FuncData
  F_random_call : Fun K "_law_random_call" "_law_random_call" s_random_call f_random_call d_random_call
  g_random_call : mg "_law_random_call" = some (.ref f_random_call)
  f_random_word : Addr
  d_random_word : FuncData
  F_random_word : Fun K "_law_random_word" "_law_random_word" s_random_word f_random_word d_random_word
  g_random_word : mg "_law_random_word" = some (.ref f_random_word)
  f_joined_ends : Addr
  d_joined_ends : FuncData
  F_joined_ends : Fun K "_law_joined_ends" "_law_joined_ends" s_joined_ends f_joined_ends d_joined_ends
  g_joined_ends : mg "_law_joined_ends" = some (.ref f_joined_ends)
  f_layers : Addr
  d_layers : FuncData
  F_layers : Fun K "_law_layers" "_law_layers" s_layers f_layers d_layers
  g_layers : mg "_law_layers" = some (.ref f_layers)
  f_loops : Addr
  d_loops : FuncData
  F_loops : Fun K "_law_loops" "_law_loops" s_loops f_loops d_loops
  g_loops : mg "_law_loops" = some (.ref f_loops)
  f_is_none : Addr
  d_is_none : FuncData
  F_is_none : Fun K "_law_is_none" "_law_is_none" s_is_none f_is_none d_is_none
  g_is_none : mg "_law_is_none" = some (.ref f_is_none)
  f_page_right : Addr
  d_page_right : FuncData
  F_page_right : Fun K "_law_page_right" "_law_page_right" s_page_right f_page_right d_page_right
  g_page_right : mg "_law_page_right" = some (.ref f_page_right)
  f_right : Addr
  d_right : FuncData
  F_right : Fun K "_law_right" "_law_right" s_right f_right d_right
  g_right : mg "_law_right" = some (.ref f_right)
  C_NoWord : Addr
  gC_NoWord : mg "NoWord" = some (.ref C_NoWord)
  C_NoNumber : Addr
  gC_NoNumber : mg "NoNumber" = some (.ref C_NoNumber)
  own_NoWord : Own K "ValueError.__new__" [.type "ValueError", .type "Exception", .type "BaseException", .type "object"] C_NoWord
  kpt_NoWord : KeptC K C_NoWord
  f_i_NoWord : Addr
  d_i_NoWord : FuncData
  F_i_NoWord : Fun K "__init__" "NoWord.__init__" s_i_NoWord f_i_NoWord d_i_NoWord
  iC_NoWord : PySem.W.findIn K (.ref C_NoWord) "__init__" = some (some (.ref f_i_NoWord))
  tI_NoWord : PySem.W.typeIn K (.ref f_i_NoWord) = some (.type "function")
  ee_NoWord : PySem.W.exmOne K (.ref C_NoWord) (.ref C_NoWord) = some true
  kk_NoWord : PySem.W.kitOne K (.ref C_NoWord) (.ref C_NoWord) = some true
  ex_NoWord_NoNumber : PySem.W.exmOne K (.ref C_NoWord) (.ref C_NoNumber) = some false
  ki_NoWord_NoNumber : PySem.W.kitOne K (.ref C_NoWord) (.ref C_NoNumber) = some false
  kb_NoWord_ValueError : PySem.W.kitOne K (.ref C_NoWord) (.type "ValueError") = some true
  vV_ValueError : PySem.W.findCls K (.type "ValueError") (.type "type") "__init__" = some (.val (.builtin "ValueError.__init__"))
theorem Env.b_i_NoWord {K : PySem.W.Frag} {mg : Str → Option Value} (T : Env K mg) : Binds K T.d_i_NoWord ["self"] [] := T.F_i_NoWord.binds fun _ _ _ _ _ _ us hl => match us, hl with | [_], _ => rfl
theorem Env.b_p_check_person {K : PySem.W.Frag} {mg : Str → Option Value} (T : Env K mg) : Binds K T.d_p_check_person ["size", "person"] [] := T.F_p_check_person.binds fun _ _ _ _ _ _ us hl => match us, hl with | [_, _], _ => rfl
theorem Env.b_p_check_call {K : PySem.W.Frag} {mg : Str → Option Value} (T : Env K mg) : Binds K T.d_p_check_call ["size", "call"] [] := T.F_p_check_call.binds fun _ _ _ _ _ _ us hl => match us, hl with | [_, _], _ => rfl
theorem Env.b_p_check_word {K : PySem.W.Frag} {mg : Str → Option Value} (T : Env K mg) : Binds K T.d_p_check_word ["size", "word"] [] := T.F_p_check_word.binds fun _ _ _ _ _ _ us hl => match us, hl with | [_, _], _ => rfl
theorem Env.b_p_join_two {K : PySem.W.Frag} {mg : Str → Option Value} (T : Env K mg) : Binds K T.d_p_join_two ["joined", "a", "b"] [] := T.F_p_join_two.binds fun _ _ _ _ _ _ us hl => match us, hl with | [_, _, _], _ => rfl
theorem Env.b_p_people_of {K : PySem.W.Frag} {mg : Str → Option Value} (T : Env K mg) : Binds K T.d_p_people_of ["sheet"] [] := T.F_p_people_of.binds fun _ _ _ _ _ _ us hl => match us, hl with | [_], _ => rfl
theorem Env.b_p_empty_sheet {K : PySem.W.Frag} {mg : Str → Option Value} (T : Env K mg) : Binds K T.d_p_empty_sheet ["size"] [] := T.F_p_empty_sheet.binds fun _ _ _ _ _ _ us hl => match us, hl with | [_], _ => rfl
theorem Env.b_p_with_word {K : PySem.W.Frag} {mg : Str → Option Value} (T : Env K mg) : Binds K T.d_p_with_word ["sheet", "word"] [] := T.F_p_with_word.binds fun _ _ _ _ _ _ us hl => match us, hl with | [_, _], _ => rfl
theorem Env.b_p_with_call {K : PySem.W.Frag} {mg : Str → Option Value} (T : Env K mg) : Binds K T.d_p_with_call ["sheet", "call"] [] := T.F_p_with_call.binds fun _ _ _ _ _ _ us hl => match us, hl with | [_, _], _ => rfl
theorem Env.b_p_lower_pairs {K : PySem.W.Frag} {mg : Str → Option Value} (T : Env K mg) : Binds K T.d_p_lower_pairs ["sheet"] [] := T.F_p_lower_pairs.binds fun _ _ _ _ _ _ us hl => match us, hl with | [_], _ => rfl
theorem Env.b_p_other_side {K : PySem.W.Frag} {mg : Str → Option Value} (T : Env K mg) : Binds K T.d_p_other_side ["size", "end"] [] := T.F_p_other_side.binds fun _ _ _ _ _ _ us hl => match us, hl with | [_, _], _ => rfl
theorem Env.b_p_loop_of {K : PySem.W.Frag} {mg : Str → Option Value} (T : Env K mg) : Binds K T.d_p_loop_of ["sheet", "person"] [] := T.F_p_loop_of.binds fun _ _ _ _ _ _ us hl => match us, hl with | [_, _], _ => rfl
theorem Env.b_p_loops {K : PySem.W.Frag} {mg : Str → Option Value} (T : Env K mg) : Binds K T.d_p_loops ["sheet"] [] := T.F_p_loops.binds fun _ _ _ _ _ _ us hl => match us, hl with | [_], _ => rfl
theorem Env.b_p_is_pure {K : PySem.W.Frag} {mg : Str → Option Value} (T : Env K mg) : Binds K T.d_p_is_pure ["sheet", "loop"] [] := T.F_p_is_pure.binds fun _ _ _ _ _ _ us hl => match us, hl with | [_, _], _ => rfl
theorem Env.b_p_pure_loops {K : PySem.W.Frag} {mg : Str → Option Value} (T : Env K mg) : Binds K T.d_p_pure_loops ["sheet"] [] := T.F_p_pure_loops.binds fun _ _ _ _ _ _ us hl => match us, hl with | [_], _ => rfl
theorem Env.b_p_has_word {K : PySem.W.Frag} {mg : Str → Option Value} (T : Env K mg) : Binds K T.d_p_has_word ["sheet"] [] := T.F_p_has_word.binds fun _ _ _ _ _ _ us hl => match us, hl with | [_], _ => rfl
theorem Env.b_p_fewest_calls {K : PySem.W.Frag} {mg : Str → Option Value} (T : Env K mg) : Binds K T.d_p_fewest_calls ["sheet"] [] := T.F_p_fewest_calls.binds fun _ _ _ _ _ _ us hl => match us, hl with | [_], _ => rfl
theorem Env.b_p_undone_calls {K : PySem.W.Frag} {mg : Str → Option Value} (T : Env K mg) : Binds K T.d_p_undone_calls ["ends", "pure"] [] := T.F_p_undone_calls.binds fun _ _ _ _ _ _ us hl => match us, hl with | [_, _], _ => rfl
theorem Env.b_p_word_for {K : PySem.W.Frag} {mg : Str → Option Value} (T : Env K mg) : Binds K T.d_p_word_for ["sheet"] [] := T.F_p_word_for.binds fun _ _ _ _ _ _ us hl => match us, hl with | [_], _ => rfl
theorem Env.b_stream {K : PySem.W.Frag} {mg : Str → Option Value} (T : Env K mg) : Binds K T.d_stream ["_law_script", "_law_k"] [] := T.F_stream.binds fun _ _ _ _ _ _ us hl => match us, hl with | [_, _], _ => rfl
theorem Env.b_draw {K : PySem.W.Frag} {mg : Str → Option Value} (T : Env K mg) : Binds K T.d_draw ["_law_source", "_law_bound"] [] := T.F_draw.binds fun _ _ _ _ _ _ us hl => match us, hl with | [_, _], _ => rfl
theorem Env.b_folded {K : PySem.W.Frag} {mg : Str → Option Value} (T : Env K mg) : Binds K T.d_folded ["_law_script", "_law_most"] [] := T.F_folded.binds fun _ _ _ _ _ _ us hl => match us, hl with | [_, _], _ => rfl
theorem Env.b_pick {K : PySem.W.Frag} {mg : Str → Option Value} (T : Env K mg) : Binds K T.d_pick ["_law_source", "_law_some"] [] := T.F_pick.binds fun _ _ _ _ _ _ us hl => match us, hl with | [_, _], _ => rfl
theorem Env.b_all_calls {K : PySem.W.Frag} {mg : Str → Option Value} (T : Env K mg) : Binds K T.d_all_calls ["_law_crowd"] [] := T.F_all_calls.binds fun _ _ _ _ _ _ us hl => match us, hl with | [_], _ => rfl
theorem Env.b_same {K : PySem.W.Frag} {mg : Str → Option Value} (T : Env K mg) : Binds K T.d_same ["_law_found", "_law_due"] [] := T.F_same.binds fun _ _ _ _ _ _ us hl => match us, hl with | [_, _], _ => rfl
theorem Env.b_shuffled {K : PySem.W.Frag} {mg : Str → Option Value} (T : Env K mg) : Binds K T.d_shuffled ["_law_source", "_law_some"] [] := T.F_shuffled.binds fun _ _ _ _ _ _ us hl => match us, hl with | [_, _], _ => rfl
theorem Env.b_random_pairing {K : PySem.W.Frag} {mg : Str → Option Value} (T : Env K mg) : Binds K T.d_random_pairing ["_law_source", "_law_crowd"] [] := T.F_random_pairing.binds fun _ _ _ _ _ _ us hl => match us, hl with | [_, _], _ => rfl
theorem Env.b_random_call {K : PySem.W.Frag} {mg : Str → Option Value} (T : Env K mg) : Binds K T.d_random_call ["_law_source", "_law_some"] [] := T.F_random_call.binds fun _ _ _ _ _ _ us hl => match us, hl with | [_, _], _ => rfl
theorem Env.b_random_word {K : PySem.W.Frag} {mg : Str → Option Value} (T : Env K mg) : Binds K T.d_random_word ["_law_source", "_law_crowd", "_law_most"] [] := T.F_random_word.binds fun _ _ _ _ _ _ us hl => match us, hl with | [_, _, _], _ => rfl
theorem Env.b_joined_ends {K : PySem.W.Frag} {mg : Str → Option Value} (T : Env K mg) : Binds K T.d_joined_ends ["_law_crowd", "_law_tape"] [] := T.F_joined_ends.binds fun _ _ _ _ _ _ us hl => match us, hl with | [_, _], _ => rfl
theorem Env.b_layers {K : PySem.W.Frag} {mg : Str → Option Value} (T : Env K mg) : Binds K T.d_layers ["_law_crowd"] [] := T.F_layers.binds fun _ _ _ _ _ _ us hl => match us, hl with | [_], _ => rfl
theorem Env.b_loops {K : PySem.W.Frag} {mg : Str → Option Value} (T : Env K mg) : Binds K T.d_loops ["_law_page"] [] := T.F_loops.binds fun _ _ _ _ _ _ us hl => match us, hl with | [_], _ => rfl
theorem Env.b_is_none {K : PySem.W.Frag} {mg : Str → Option Value} (T : Env K mg) : Binds K T.d_is_none ["_law_page"] [] := T.F_is_none.binds fun _ _ _ _ _ _ us hl => match us, hl with | [_], _ => rfl
theorem Env.b_page_right {K : PySem.W.Frag} {mg : Str → Option Value} (T : Env K mg) : Binds K T.d_page_right ["_law_source", "_law_page"] [] := T.F_page_right.binds fun _ _ _ _ _ _ us hl => match us, hl with | [_, _], _ => rfl
theorem Env.b_right {K : PySem.W.Frag} {mg : Str → Option Value} (T : Env K mg) : Binds K T.d_right ["_law_source"] [] := T.F_right.binds fun _ _ _ _ _ _ us hl => match us, hl with | [_], _ => rfl
end Pc

namespace Pc
open PySem PySem.Spec PyProof.Rows L2 RZ
/-! ### errors without a field -/
def Flies0 (C : Addr) (H : Hp) (E : XK) : Prop := ∀ H', Same H H' → E (.ref C) none H'
theorem Flies0.same {C : Addr} {H H1 : Hp} {E : XK} (h : Flies0 C H E) (s : Same H H1) : Flies0 C H1 E := fun H' s' => h H' (s.trans s')
def spInit0 (C : Addr) : Sp := fun vs H Q _ => ∃ a : Addr, vs = [.ref a] ∧ H a = some (exo a C none) ∧ Q .non H
theorem raised0 {C : Addr} {H1 : Hp} {Q : XK} (h : Flies0 C H1 Q) : ([] : List V).length ≤ 1000 ∧ ∀ a, H1 a = none → spInit0 C (.ref a :: []) (upd H1 a (exo a C none))
    (fun v' H2 => v' = .non ∧ ((H2 a = some (exo a C none) ∧ Q (.ref C) none (del H2 a)) ∨ ∃ (d : Addr) (fs : List (Str × V)), H2 a = some (exo a C (some d)) ∧ H2 d = some (exd d fs) ∧ Q (.ref C) (some d) (upd (del H2 a) d (.xd fs)))) (fun _ _ _ => False) := by
  refine ⟨Nat.zero_le _, fun a na => ⟨a, rfl, upd_same, rfl, .inl ⟨upd_same, h _ fun b o hb => ?_⟩⟩⟩
  have hba := ne_of_none hb na
  rw [del_ne hba, upd_ne hba]; exact hb
theorem kept0 {K : PySem.W.Frag} {C : Addr} {cs : List Value} {i : Nat} {ts : Addr → TS} {D : Ends} {σ : L2.St} {H : Hp} (hh : Hits K (.ref C) cs)
    (h : ∀ H' a, Same H H' → H' a = none → ts a { nx := fun σ' H'' => D.nx (σ'.set i none) (upd H'' a (exk a (.ref C) none)), rt := fun _ _ => False } (σ.set i (some (.ref a))) H') :
    Flies0 C H (fun cls d H' => wKept K cs i ts D cls d σ H') := fun H' s => ⟨hh, fun a na => h H' a s na⟩
theorem Kept.mk0 {H' : Hp} {a C : Addr} : Kept (upd H' a (exk a (.ref C) none)) a C none := ⟨upd_same, .inl rfl⟩
theorem st_kept0 {D : L2.Ends} {i : Nat} {a C : Addr} {σ1 : L2.St} {H : Hp} (σ' : L2.St) (h : D.nx σ' (upd H a (exk a (.ref C) none))) (e : σ1.set i none = σ') :
    ({ nx := fun σ'' H'' => D.nx (σ''.set i none) (upd H'' a (exk a (.ref C) none)), rt := fun _ _ => False } : L2.Ends).nx σ1 H := by
  show D.nx (σ1.set i none) _
  rw [e]; exact h
section
variable {X : Cx} {C : Addr} {B newId initId : String} {bmB : List Value}
theorem pmk_e0 {x : Str} {fI : Addr} {k : Nat} {fd : FuncData} {ps : List Str} {sp : Sp} {CX : CXT} {p pos : Pos} (T : Own X.K newId bmB C) (F : ExcBaseFacts B newId initId bmB) (iC : PySem.W.findIn X.K (.ref C) "__init__" = some (some (.ref fI))) (tI : PySem.W.typeIn X.K (.ref fI) = some (.type "function"))
    (F1 : FnOk X.prog X.w X.K X.mg X.base CX k fI fd ps sp) (hr : Room (k + 1) X.A) (hb : Binds X.K fd ps []) (hx : Passes CX X (fun _ _ _ => False)) (hg : Gl X x) (hm : X.mg x = some (.ref C)) (hdb : (x == ("__debug__" : Str)) = false := by decide) :
    PMk X (.Call (.Name x p) [] [] pos) (tMkE C sp tNil) := by
  intro pins s σ H Q I h
  refine wpAny_Call_Name_kw (ld_glob I hg hm ?_ hdb)
  exact PySem.W.callWith_K0 I.kIn T.kC (made_run (us := []) (vs := []) T F iC tI F1 hr hb hx I .nil h.1 h.2)
end
end Pc
namespace Pc
open PySem PySem.Spec PyProof.Rows L2 RZ
section
variable {P : Program} {w : World} {K : PySem.W.Frag} {mg : Str → Option Value} {base : Heap}
/-! ### a source -/
def spBox (K : PySem.W.Frag) : Sp := fun vs H Q _ => ∃ (a : Addr) (ns : List Int) (k : Nat), vs = [.ref a, .int k] ∧ SqL K H a (ns.map V.int) ∧ k ≤ 100 ∧
  ∀ H' b, Same H H' → H b = none → Box 1000000000 H' b → Q (.ref b) H'
theorem ok_box (T : Env K mg) : FnOk P w K mg base CX0 1 T.f_stream T.d_stream ["_law_script", "_law_k"] (spBox K) := by
  refine T.F_stream.ok sc_stream (fun vs H Q E h => ?_) (fun cdv A outer s H vs Q E hr h => ?_)
  · obtain ⟨a, ns, k, rfl, _⟩ := h
    rfl
  · obtain ⟨a, ns, k, rfl, hS, hk, q⟩ := h
    refine ⟨_, pss_cons (ps_set (i := 2) sc_stream.nd rfl (.inl rfl) pe_int) <| pss_cons (ps_if (pt_cmpR op_lt (pv 1) (pe_callB call_len_seq (by rfl) T.n_len PySem.boot_len (pa_cons (pv 0) pa_nil)) (nomark _)) (pss_one (ps_set (i := 2) sc_stream.nd rfl (.inl rfl) (pe_ix ix_list (pv 0) (pv 1) (fun _ _ => rfl)))) pss_nil)
      (pss_one (ps_ret (pe_lst (pa_cons
          (pe_op op_mul (pe_callB call_abs (by rfl) T.n_abs (by decide +kernel) (pa_cons (pv 2) pa_nil))
            (pe_callTy call_int1 (by rfl) T.n_int (by decide +kernel) (pa_cons (pe_cmpR op_ge (pe_callB call_abs (by rfl) T.n_abs (by decide +kernel) (pa_cons (pv 2) pa_nil)) (pe_op op_pow pe_int pe_int) (nomark _)) pa_nil)))
        (pa_cons (pe_op op_add (pe_op op_add (pe_op op_mod (pv 2) pe_int) (pe_op op_mul pe_int (pv 1))) pe_int)
        (pa_cons pe_int pa_nil)))))), ?_⟩
    refine ⟨.int k, rfl, .ref a, rfl, a, ns.map V.int, rfl, .inl hS, _, _, rfl, rfl, _, rfl, ite2 (fun e => ?_) (fun e => ?_)⟩
    · have e1 : k < ns.length := by
        have := of_decide_eq_true e
        rw [List.length_map] at this
        omega
      refine ⟨.ref a, rfl, .int k, rfl, a, _, _, _, rfl, rfl, hS, atI_nat (v := .int ns[k]) (by rw [List.getElem?_map, List.getElem?_eq_getElem e1]; rfl), ?_⟩
      revert e; generalize ns[k] = c; intro _
      refine ⟨_, rfl, _, rfl, _, rfl, _, rfl, 10, 18, rfl, rfl, ⟨by decide, by decide, by decide⟩, _, _, rfl, rfl, .inr ⟨_, rfl, _, _, rfl, rfl, .inr (in64 (one0 _)), _, rfl, _, _, rfl, rfl, (show (0 : Int) < 2305843009213693951 by decide), _, rfl, _, _, rfl, rfl, .inl ⟨by decide, by decide⟩, _, _, rfl, rfl, _, _, rfl, rfl, ?_⟩⟩
      refine ⟨by show 3 ≤ sizeLine; decide, fun b nb => q _ b (same_new nb) nb ⟨_, _, 0, upd_same, Int.mul_nonneg ?_ (one0 _).1, ?_, ?_, by decide, by decide⟩⟩
      · split <;> omega
      · omega
      · omega
    · refine ⟨_, rfl, _, rfl, _, rfl, _, rfl, 10, 18, rfl, rfl, ⟨by decide, by decide, by decide⟩, _, _, rfl, rfl, .inr ⟨_, rfl, _, _, rfl, rfl, .inr (in64 (one0 _)), _, rfl, _, _, rfl, rfl, (show (0 : Int) < 2305843009213693951 by decide), _, rfl, _, _, rfl, rfl, .inl ⟨by decide, by decide⟩, _, _, rfl, rfl, _, _, rfl, rfl, ?_⟩⟩
      refine ⟨by show 3 ≤ sizeLine; decide, fun b nb => q _ b (same_new nb) nb ⟨_, _, 0, upd_same, Int.mul_nonneg ?_ (one0 _).1, ?_, ?_, by decide, by decide⟩⟩
      · split <;> omega
      · omega
      · omega
end
end Pc
namespace Pc
open PySem PySem.Spec PyProof.Rows L2 RZ
section
variable {P : Program} {w : World} {K : PySem.W.Frag} {mg : Str → Option Value} {base : Heap}
/-! ### a draw below a span of at most ten million -/
def spTake : Sp := fun vs H Q _ => ∃ (b : Addr) (n : Nat) (s : Int), vs = [.ref b, .int s] ∧ Box (n + 1) H b ∧ 0 < s ∧ s ≤ 10000000 ∧
  ∀ (r : Int) (H' : Hp), 0 ≤ r → r < s → Box n H' b → Keep b H H' → Q (.int r) H'
theorem ok_take (T : Env K mg) : FnOk P w K mg base CX0 1 T.f_draw T.d_draw ["_law_source", "_law_bound"] spTake := by
  refine T.F_draw.ok sc_draw (fun vs H Q E h => ?_) (fun cdv A outer s H vs Q E hr h => ?_)
  · obtain ⟨b, n, s, rfl, _⟩ := h
    rfl
  · obtain ⟨b, n, s, rfl, ⟨x, y, z, hb, hx, hy, hy2, hz, hz2⟩, hs, hs2, q⟩ := h
    refine ⟨_, pss_cons (ps_if (pt_cmpR op_gt (pe_ix ix_list (pv 0) pe_int (fun _ _ => rfl)) pe_int (nomark _))
        (pss_cons (ps_set (i := 2) sc_draw.nd rfl (.inl rfl) (pe_op op_mod (pe_ix ix_list (pv 0) pe_int (fun _ _ => rfl)) (pv 1)))
        (pss_cons (ps_asg (pe_op op_fdiv (pe_ix ix_list (pv 0) pe_int (fun _ _ => rfl)) (pv 1)) (pg_sub (pv 0) pe_int set_list))
        (pss_one (ps_ret (pv 2))))) pss_nil)
      (pss_cons (ps_if (pt_cmpR op_gt (pv 1) (pe_op op_pow pe_int pe_int) (nomark _)) pss_never pss_nil)
      (pss_cons (ps_asg (pe_op op_add (pe_ix ix_list (pv 0) pe_int (fun _ _ => rfl)) pe_int) (pg_sub (pv 0) pe_int set_list))
      (pss_cons (ps_set (i := 3) sc_draw.nd rfl (.inl rfl) (pe_op op_mod (pe_op op_mul (pe_op op_add (pe_ix ix_list (pv 0) pe_int (fun _ _ => rfl)) (pe_op op_mul pe_int (pe_ix ix_list (pv 0) pe_int (fun _ _ => rfl)))) (pe_op op_add pe_int (pe_ix ix_list (pv 0) pe_int (fun _ _ => rfl)))) pe_int))
      (pss_cons (ps_set (i := 4) sc_draw.nd rfl (.inl rfl) (pe_op op_mod (pe_op op_mul (pe_op op_add (pe_op op_add (pv 3) (pe_ix ix_list (pv 0) pe_int (fun _ _ => rfl))) (pe_op op_fdiv (pe_ix ix_list (pv 0) pe_int (fun _ _ => rfl)) pe_int)) (pe_op op_add (pe_op op_mod (pv 3) pe_int) pe_int)) pe_int))
      (pss_one (ps_ret (pe_op op_mod (pe_op op_fdiv (pe_op op_mod (pe_op op_add (pe_op op_mul (pv 4) pe_int) (pv 3)) pe_int) pe_int) (pv 1)))))))), ?_⟩
    have hS : SqL K H b [.int x, .int y, .int z] := .inl (.inl hb)
    refine ⟨.ref b, rfl, b, _, 0, .int x, rfl, rfl, hS, atI_nat (j := 0) rfl, x, 0, rfl, rfl, _, rfl, ite2 (fun e => ?_) (fun e => ?_)⟩
    · -- the number itself serves
      refine ⟨.ref b, rfl, b, _, 0, .int x, rfl, rfl, hS, atI_nat (j := 0) rfl, .int s, rfl, x, s, rfl, rfl, hs, ?_⟩
      refine ⟨.ref b, rfl, b, _, 0, .int x, rfl, rfl, hS, atI_nat (j := 0) rfl, .int s, rfl, x, s, rfl, rfl, ⟨hs, by omega⟩, .ref b, rfl, b, _, 0, 0, rfl, rfl, hb, rfl, ?_⟩
      refine ⟨_, rfl, q _ _ (Int.emod_nonneg _ (by omega)) (Int.emod_lt_of_pos _ hs) ⟨_, y, z, upd_same, ?_, hy, hy2, hz, by omega⟩ keep_upd⟩
      exact Int.ediv_nonneg hx (by omega)
    · refine ⟨.int s, rfl, 10, 7, rfl, rfl, ⟨by decide, by decide, by decide⟩, s, _, rfl, rfl, _, rfl, ite2 (fun e2 => ?_) (fun _ => ?_)⟩
      · have e3 := of_decide_eq_true e2
        have e4 : (10 : Int) ^ Int.toNat 7 = 10000000 := by decide
        rw [e4] at e3
        omega
      refine ⟨.ref b, rfl, b, _, 2, .int z, rfl, rfl, hS, atI_nat (j := 2) rfl, z, 1, rfl, rfl, .ref b, rfl, b, _, 2, 2, rfl, rfl, hb, rfl, ?_⟩
      have h2 : upd H b (.lst ([V.int x, V.int y, V.int z].set 2 (.int (z + 1)))) b = some (.lst [.int x, .int y, .int (z + 1)]) := upd_same
      have hS2 : SqL K (upd H b (.lst ([V.int x, V.int y, V.int z].set 2 (.int (z + 1))))) b [.int x, .int y, .int (z + 1)] := .inl (.inl h2)
      refine ⟨.ref b, rfl, b, _, 1, .int y, rfl, rfl, hS2, atI_nat (j := 1) rfl, .ref b, rfl, b, _, 2, .int (z + 1), rfl, rfl, hS2, atI_nat (j := 2) rfl, 48271, z + 1, rfl, rfl, .inl ⟨by decide, by decide⟩, y, _, rfl, rfl, .ref b, rfl, b, _, 2, .int (z + 1), rfl, rfl, hS2, atI_nat (j := 2) rfl, 39373, z + 1, rfl, rfl, _, _, rfl, rfl, .inr ⟨by omega, by omega⟩, _, 2147483647, rfl, rfl, (show (0 : Int) < 2147483647 by decide), ?_⟩
      have o1 : 0 ≤ (y + 48271 * (z + 1)) * (39373 + (z + 1)) % 2147483647 := Int.emod_nonneg _ (by decide)
      have o2 : (y + 48271 * (z + 1)) * (39373 + (z + 1)) % 2147483647 < 2147483647 := Int.emod_lt_of_pos _ (by decide)
      have o3 : 0 ≤ (y + 48271 * (z + 1)) * (39373 + (z + 1)) % 2147483647 % 40009 := Int.emod_nonneg _ (by decide)
      have o4 : (y + 48271 * (z + 1)) * (39373 + (z + 1)) % 2147483647 % 40009 < 40009 := Int.emod_lt_of_pos _ (by decide)
      refine ⟨_, rfl, .ref b, rfl, b, _, 2, .int (z + 1), rfl, rfl, hS2, atI_nat (j := 2) rfl, _, z + 1, rfl, rfl, .ref b, rfl, b, _, 1, .int y, rfl, rfl, hS2, atI_nat (j := 1) rfl, y, 1000003, rfl, rfl, ⟨by decide, by decide⟩, _, _, rfl, rfl, _, rfl, _, 40009, rfl, rfl, (show (0 : Int) < 40009 by decide), _, 7, rfl, rfl, _, _, rfl, rfl, .inr ⟨Int.lt_of_lt_of_le (by decide) (Int.add_le_add_right o3 7), Int.lt_trans (Int.add_lt_add_right o4 7) (by decide)⟩, _, 2147483629, rfl, rfl, (show (0 : Int) < 2147483629 by decide), ?_⟩
      refine ⟨_, rfl, _, 48271, rfl, rfl, .inr ⟨by decide, by decide⟩, _, rfl, _, _, rfl, rfl, _, 2147483587, rfl, rfl, (show (0 : Int) < 2147483587 by decide), _, 64, rfl, rfl, ⟨by decide, by decide⟩, .int s, rfl, _, s, rfl, rfl, hs, ?_⟩
      exact q _ _ (Int.emod_nonneg _ (by omega)) (Int.emod_lt_of_pos _ hs) ⟨x, y, z + 1, h2, hx, hy, hy2, by omega, by omega⟩ keep_upd
end
end Pc
namespace Pc
open PySem PySem.Spec PyProof.Rows L2 RZ
/-! ### data -/
theorem dp_ints {K : PySem.W.Frag} {H : Hp} : ∀ ns : List Int, DpAll K H (ns.map V.int) (ns.map PyData.int)
  | [] => .nil
  | n :: r => .cons (.int n) (dp_ints r)
theorem lay_ints : ∀ ns : List Int, PyData.canLayAll0 (ns.map PyData.int) = true
  | [] => rfl
  | n :: r => by
    show (PyData.canLay0 (.int n) && PyData.canLayAll0 (r.map PyData.int)) = true
    rw [lay_ints r]; rfl
theorem depth_ints : ∀ ns : List Int, PyData.depthAll (ns.map PyData.int) = 0
  | [] => rfl
  | n :: r => by
    show max (PyData.depth (.int n)) (PyData.depthAll (r.map PyData.int)) = 0
    rw [depth_ints r]; rfl
theorem shaped_list {ds : List PyData} (h : PyData.canLayAll0 ds = true) (d : PyData.depthAll ds ≤ 63) : SeqAt.shaped (.list ds) = true := by
  unfold SeqAt.shaped
  rw [Bool.and_eq_true]
  exact ⟨h, decide_eq_true (show PyData.depthAll ds + 1 ≤ 64 by omega)⟩
theorem shaped_tuple {ds : List PyData} (h : PyData.canLayAll0 ds = true) (d : PyData.depthAll ds ≤ 63) : SeqAt.shaped (.tuple ds) = true := by
  unfold SeqAt.shaped
  rw [Bool.and_eq_true]
  exact ⟨h, decide_eq_true (show PyData.depthAll ds + 1 ≤ 64 by omega)⟩
theorem shaped_ints (ns : List Int) : SeqAt.shaped (.list (ns.map PyData.int)) = true := shaped_list (lay_ints ns) (by rw [depth_ints]; decide)
theorem shaped_intsT (ns : List Int) : SeqAt.shaped (.tuple (ns.map PyData.int)) = true := shaped_tuple (lay_ints ns) (by rw [depth_ints]; decide)
/-- what a slice of a list of ints is -/
theorem cut_ints (ns : List Int) (lo hi : Option Int) : ∃ ms : List Int, cutV (ns.map V.int) lo hi = ms.map V.int ∧ ms = (ns.drop (HT.sIx ns.length 0 lo)).take (HT.sIx ns.length ns.length hi - HT.sIx ns.length 0 lo) := by
  refine ⟨_, ?_, rfl⟩
  unfold cutV
  rw [List.length_map, List.map_take, List.map_drop]
theorem map_set_int (cs : List Int) (j : Nat) (v : Int) : (cs.map V.int).set j (.int v) = (cs.set j v).map V.int := by
  rw [List.map_set]
theorem small63 {n : Nat} (h : n ≤ 63) : n ≤ sizeLine := Nat.le_trans h (by decide)
end Pc
namespace Pc
open PySem PySem.Spec PyProof.Rows L2 RZ
section
variable {P : Program} {w : World} {K : PySem.W.Frag} {mg : Str → Option Value} {base : Heap}
/-! ### the numbers of the script, the later ones added to the first -/
def spCells (K : PySem.W.Frag) : Sp := fun vs H Q _ => ∃ (a : Addr) (ns : List Int) (m : Nat), vs = [.ref a, .int m] ∧ SqL K H a (ns.map V.int) ∧ ns.length ≤ 63 ∧ 0 < m ∧ m ≤ 60 ∧
  ∀ H' p (cs : List Int), Same H H' → H p = none → H' p = some (.lst (cs.map V.int)) → 1 ≤ cs.length → cs.length ≤ m → Q (.ref p) H'
theorem ok_cells (T : Env K mg) : FnOk P w K mg base CX0 1 T.f_folded T.d_folded ["_law_script", "_law_most"] (spCells K) := by
  refine T.F_folded.ok sc_folded (fun vs H Q E h => ?_) (fun cdv A outer s H vs Q E hr h => ?_)
  · obtain ⟨a, ns, m, rfl, _⟩ := h
    rfl
  · obtain ⟨a, ns, m, rfl, hS, hn, hm, hm2, q⟩ := h
    refine ⟨_, pss_cons (ps_set (i := 2) sc_folded.nd rfl (.inl rfl) (pe_orT (pe_callTy call_list_of (by rfl) T.n_list (by decide +kernel) (pa_cons (pe_slice sl_list (pv 0) po_none (po_some (pv 1))) pa_nil)) (pe_one (pe_lst (pa_cons pe_int pa_nil)))))
      (pss_cons (ps_for PassesOwn.never rfl (pi_enum (by rfl) T.n_enumerate (pa_cons (pe_slice sl_list (pv 0) (po_some (pv 1)) (po_some pe_int)) pa_nil))
          (pg_tup rfl (pgs_cons (pg_name (i := 3) sc_folded.nd rfl (.inl rfl)) (pgs_cons (pg_name (i := 4) sc_folded.nd rfl (.inl rfl)) pgs_nil)))
        (pss_one (ps_asg (pe_op op_add (pe_ix ix_list (pv 2) (pe_op op_mod (pv 3) (pv 1)) (fun _ _ => rfl)) (pe_op op_mul (pv 4) (pe_op op_add (pv 3) pe_int)))
          (pg_sub (pv 2) (pe_op op_mod (pv 3) (pv 1)) set_list))))
      (pss_one (ps_ret (pv 2)))), ?_⟩
    obtain ⟨ms, e1, e2⟩ := cut_ints ns none (some (m : Int))
    obtain ⟨ls, e3, e4⟩ := cut_ints ns (some (m : Int)) (some 63)
    have f2 : ms.length = min m ns.length := by
      rw [e2, HT.sIx_none, HT.sIx_nat, List.length_take, List.drop_zero]
      omega
    have f4 : ls.length = ns.length - m := by
      rw [e4, HT.sIx_nat, show (63 : Int) = ((63 : Nat) : Int) from rfl, HT.sIx_nat, List.length_take, List.length_drop]
      omega
    -- the copy of the first ones
    refine ⟨.ref a, rfl, .int m, rfl, m, rfl, a, ns.map V.int, rfl, hS, fun c nc => ⟨c, _, rfl, .inl (.inl (.inl upd_same)), fun l nl => ?_⟩⟩
    rw [e1] at nl ⊢
    have s1 : Same H (upd (upd H c (.lst (ms.map V.int))) l (.lst (ms.map V.int))) := (same_new nc).trans (same_new nl)
    have nl0 : H l = none := (same_new nc).free nl
    have el0 : (upd (upd H c (.lst (ms.map V.int))) l (.lst (ms.map V.int))) l = some (.lst (ms.map V.int)) := upd_same
    revert s1 el0
    generalize upd (upd H c (.lst (ms.map V.int))) l (.lst (ms.map V.int)) = H0
    intro s1 el0
    refine ⟨!(ms.map V.int).isEmpty, .inl ⟨_, .inl (.inl el0), rfl⟩, ite2 (fun k => ?wa) (fun k => ?wb)⟩
    case' wa =>
      obtain ⟨cs0, g3, g4, g5, g6⟩ : ∃ cs0 : List Int, H0 l = some (.lst (cs0.map V.int)) ∧ 1 ≤ cs0.length ∧ cs0.length ≤ m ∧ (0 < ls.length → cs0.length = m) := by
        refine ⟨ms, el0, ?_, by omega, by omega⟩
        cases ms with
        | nil => exact absurd (show false = true from k) Bool.false_ne_true
        | cons x r => simp
      clear el0
    case' wb =>
      have hm0 : ms.length = 0 := by
        cases ms with
        | nil => rfl
        | cons x r => exact absurd rfl k
      refine ⟨by show 1 ≤ sizeLine; decide, fun l2 nl2 => ?_⟩
      have s3 := s1.trans (same_new (o := .lst [.int 0]) nl2)
      have nl3 := s1.free nl2
      have g3' : (upd H0 l2 (.lst [.int 0])) l2 = some (.lst [.int 0]) := upd_same
      clear nl0 s1 el0
      revert s3 g3'
      generalize upd H0 l2 (.lst [.int 0]) = H3
      intro s3 g3'
      clear nl2
      clear H0
      revert l2 nl3 H3 s3 g3'
      intro l nl0 H0 s1 g3'
      obtain ⟨cs0, g3, g4, g5, g6⟩ : ∃ cs0 : List Int, H0 l = some (.lst (cs0.map V.int)) ∧ 1 ≤ cs0.length ∧ cs0.length ≤ m ∧ (0 < ls.length → cs0.length = m) := ⟨[0], g3', by decide, hm, by omega⟩
    all_goals
      refine ⟨.ref a, rfl, .int m, rfl, m, rfl, _, rfl, a, ns.map V.int, rfl, s1.seq hS, fun d nd => ?_⟩
      rw [e3]
      refine ⟨d, ls.map V.int, rfl, .inl (.inl upd_same), ?_⟩
      have s2 : Same H _ := s1.trans (same_new (o := .lst (ls.map V.int)) nd)
      have ldd : l ≠ d := ne_of_none g3 nd
      refine for_it walk_enum (fun i σ H' => Same H H' ∧ H' d = some (.lst (ls.map V.int)) ∧ ∃ (y3 y4 : Option V) (cs : List Int), σ = [some (.ref a), some (.int m), some (.ref l), y3, y4] ∧ H' l = some (.lst (cs.map V.int)) ∧ cs.length = cs0.length)
        ⟨s2, upd_same, none, none, cs0, rfl, by rw [upd_ne ldd]; exact g3, rfl⟩ (fun i σ H' _ h => .inl (.inl h.2.1)) (fun i x σ H1 H2 hi h y => ?_) (fun σ H' h => ?_)
      · obtain ⟨sm, ed, y3, y4, cs, rfl, el, ecl⟩ := h
        obtain ⟨t, v1, v2, rfl, nt, rfl, g1, g2⟩ := y
        rw [List.length_map] at hi
        have ev1 : v1 = .int (i : Nat) := (Option.some.inj g1).symm
        have ev2 : v2 = .int ls[i] := by
          have g3 : (ls.map V.int)[i]? = some v2 := g2
          rw [List.getElem?_map, List.getElem?_eq_getElem hi] at g3
          exact (Option.some.inj g3).symm
        subst ev1 ev2
        have hml : cs.length = m := by omega
        have hlt : l ≠ t := ne_of_none el nt
        have hdt : d ≠ t := ne_of_none ed nt
        have elt : (upd H1 t (.tup [.int (i : Nat), .int ls[i]])) l = some (.lst (cs.map V.int)) := by rw [upd_ne hlt]; exact el
        have him : ((i : Int) % (m : Int)) = ((i % m : Nat) : Int) := by omega
        have hjm : i % m < cs.length := by rw [hml]; exact Nat.mod_lt _ hm
        have hix : ixN (cs.map V.int).length ((i : Int) % (m : Int)) = some (i % m) := by
          rw [him]
          unfold ixN
          rw [List.length_map, if_pos (by omega), if_pos (by omega)]; rfl
        refine ⟨t, _, rfl, .inl (.inl upd_same), rfl, _, _, rfl, _, _, rfl, rfl, ?_⟩
        refine ⟨.ref l, rfl, .int (i : Nat), rfl, .int m, rfl, (i : Nat), m, rfl, rfl, (show (0 : Int) < m by omega), l, _, _, .int cs[i % m], rfl, rfl, .inl (.inl elt), ?_, ?_⟩
        · unfold atI
          show (ixN (cs.map V.int).length ((i : Int) % (m : Int))).bind _ = _
          rw [hix]
          show (cs.map V.int)[i % m]? = _
          rw [List.getElem?_map, List.getElem?_eq_getElem hjm]; rfl
        refine ⟨.int ls[i], rfl, .int (i : Nat), rfl, (i : Nat), 2, rfl, rfl, ls[i], _, rfl, rfl, .inr ⟨by omega, by omega⟩, cs[i % m], _, rfl, rfl, .ref l, rfl, .int (i : Nat), rfl, .int m, rfl, (i : Nat), m, rfl, rfl, (show (0 : Int) < m by omega), l, _, _, i % m, rfl, rfl, elt, hix, ?_⟩
        refine ⟨?_, ?_, _, _, cs.set (i % m) (cs[i % m] + ls[i] * ((i : Nat) + 2)), rfl, ?_, ?_⟩
        · intro b o hb
          have nb : b ≠ l := ne_of_none hb nl0
          rw [upd_ne nb]
          exact same_new nt _ _ (sm b o hb)
        · rw [upd_ne ldd.symm, upd_ne hdt]; exact ed
        · rw [upd_same, ← map_set_int]
        · rw [List.length_set]; exact ecl
      · obtain ⟨sm, ed, y3, y4, cs, rfl, el, ecl⟩ := h
        exact ⟨.ref l, rfl, q _ l cs sm nl0 el (by omega) (by omega)⟩
end
end Pc
namespace Pc
open PySem PySem.Spec PyProof.Rows L2 RZ
/-! ### xs != [] for any items -/
def rNeNil (K : PySem.W.Frag) : R2 := fun x y H Q => ∃ a b xs, x = .ref a ∧ y = .ref b ∧ SqL K H a xs ∧ SqL K H b [] ∧ Q (.bl (!xs.isEmpty)) H
theorem op_neNil {X : Cx} (hu : X.A.units + 64 < cLine) : OpR X (compareOp .NotEq) (rNeNil X.K) := by
  intro pins s σ H x y v u Q I rx ry h
  obtain ⟨a, b, xs, rfl, rfl, h1, h2, q⟩ := h
  cases rx; cases ry
  obtain ⟨its, rv, p1, _⟩ := I.list h1
  obtain ⟨its2, rv2, p2, _⟩ := I.list h2
  have l1 := rv.length
  have l2 := rv2.length
  have hu0 : X.A.units < cLine := by omega
  cases xs with
  | nil =>
    have z1 : its.length = 0 := l1.symm
    have z2 : its2.length = 0 := l2.symm
    refine SeqAt.RcNeAt.lists (e := fun _ => true) p1.isList p2.isList (by simp [z1, z2]) hu0 (fun j j1 _ => ?_) X.prog X.w X.xe _ ?_
    · rw [List.size_toArray] at j1; omega
    · rw [List.size_toArray, z1]
      exact ⟨.bl false, H, I, rfl, q⟩
  | cons z r =>
    have z1 : its.length ≠ 0 := by rw [← l1]; simp
    have z2 : its2.length = 0 := l2.symm
    refine SeqAt.RcNeAt.lists_lengths p1.isList p2.isList (by simp [z2, z1]) hu0 X.prog X.w X.xe _ ?_
    exact ⟨.bl true, H, I, rfl, q⟩
theorem perm_erase {α : Type} : ∀ {l : List α} {i : Nat} (h : i < l.length), (l[i] :: l.eraseIdx i).Perm l
  | a :: r, 0, _ => List.Perm.refl _
  | a :: r, i + 1, h => (List.Perm.swap a (r[i]'(Nat.lt_of_succ_lt_succ h)) (r.eraseIdx i)).trans ((perm_erase (l := r) (i := i) (Nat.lt_of_succ_lt_succ h)).cons a)
/-- the place of an index that is not negative -/
theorem seq_ix {i : Int} {n : Nat} (h0 : 0 ≤ i) (h : i < n) : seqIndex? i n = some i.toNat := seqIndex_of h0 h
end Pc
namespace Pc
open PySem PySem.Spec PyProof.Rows L2 RZ
section
variable {P : Program} {w : World} {K : PySem.W.Frag} {mg : Str → Option Value} {base : Heap}
/-! ### some things in drawn order -/
def spStrewn (K : PySem.W.Frag) : Sp := fun vs H Q _ => ∃ (b a : Addr) (n : Nat) (xs : List V), vs = [.ref b, .ref a] ∧ Box (n + xs.length) H b ∧ SqL K H a xs ∧ xs.length ≤ 1000 ∧
  ∀ (H' : Hp) (p : Addr) (ys : List V), ys.Perm xs → Keep b H H' → Box n H' b → H p = none → H' p = some (.lst ys) → Q (.ref p) H'
theorem ok_strewn (T : Env K mg) : FnOk P w K mg base CX0 2 T.f_shuffled T.d_shuffled ["_law_source", "_law_some"] (spStrewn K) := by
  have GT : FnOk P w K mg base CX0 1 T.f_draw T.d_draw ["_law_source", "_law_bound"] spTake := ok_take T
  refine T.F_shuffled.ok sc_shuffled (fun vs H Q E h => ?_) (fun cdv A outer s H vs Q E hr h => ?_)
  · obtain ⟨b, a, n, xs, rfl, _⟩ := h
    rfl
  · obtain ⟨b, a, n, xs, rfl, hB, hS, hlen, q⟩ := h
    refine ⟨_, pss_cons (ps_par (by rfl) sc_shuffled.nd (i := 2) (j := 3) rfl rfl (by decide) rfl rfl (pa_cons (pe_callTy call_list_of (by rfl) T.n_list (by decide +kernel) (pa_cons (pv 1) pa_nil)) (pa_cons (pe_lst pa_nil) pa_nil)) (by rfl))
      (pss_cons (ps_while PassesOwn.never (pt_cmpR (op_neNil hr.units) (pv 2) (pe_lst pa_nil) (nomark _))
        (pss_one (ps_expr (pe_bm PySem.F.plainAttrs_list PySem.F.slot_list_append PySem.F.type_list_append mt_append (pv 3) (pa_cons
          (pe_bm PySem.F.plainAttrs_list PySem.F.slot_list_pop PySem.F.type_list_pop mt_popAt (pv 2) (pa_cons
            (pe_call GT hr (by rfl) T.g_draw T.F_draw.kp T.b_draw .nil pass0 (pa_cons (pv 0) (pa_cons (pe_callB call_len_seq (by rfl) T.n_len PySem.boot_len (pa_cons (pv 2) pa_nil)) pa_nil))) pa_nil)) pa_nil)))))
      (pss_one (ps_ret (pv 3)))), ?_⟩
    refine ⟨.ref a, rfl, a, xs, rfl, .inl hS, fun l nl => ⟨Nat.zero_le _, fun f nf => ⟨_, _, rfl, ?_⟩⟩⟩
    have s1 : Same H (upd (upd H l (.lst xs)) f (.lst [])) := (same_new nl).trans (same_new nf)
    have nf0 : H f = none := (same_new nl).free nf
    have hlf : l ≠ f := ne_of_none upd_same nf
    have hbl : b ≠ l := hB.ne_new nl
    have hbf : b ≠ f := hB.ne_new nf0
    refine ⟨fun m σ H' => ∃ left found : List V, σ = [some (.ref b), some (.ref a), some (.ref l), some (.ref f)] ∧ H' l = some (.lst left) ∧ H' f = some (.lst found) ∧ (left ++ found).Perm xs ∧ Box (n + left.length) H' b ∧ Keep b H H' ∧ left.length = m,
      ⟨xs.length, xs, [], rfl, by rw [upd_ne hlf, upd_same], upd_same, by rw [List.append_nil], hB.same s1, Keep.of_same s1, rfl⟩, fun m σ H' hW => ?_⟩
    obtain ⟨left, found, rfl, el, ef, hp, hb', hk, hm⟩ := hW
    refine ⟨.ref l, rfl, Nat.zero_le _, fun e ne => ⟨l, e, left, rfl, rfl, .inl (.inl ?_), .inl (.inl upd_same), _, rfl, ite2 (fun c => ?_) (fun c => ?_)⟩⟩
    · rw [upd_ne (ne_of_none el ne)]; exact el
    · -- one more is drawn
      have hl0 : 0 < left.length := by
        cases left with
        | nil => exact absurd c (by decide)
        | cons x r => exact Nat.succ_pos _
      have hll : left.length ≤ 1000 := by
        have := hp.length_eq
        rw [List.length_append] at this
        omega
      have el2 : (upd H' e (.lst [])) l = some (.lst left) := by rw [upd_ne (ne_of_none el ne)]; exact el
      have ef2 : (upd H' e (.lst [])) f = some (.lst found) := by rw [upd_ne (ne_of_none ef ne)]; exact ef
      refine ⟨fun σ' H2 => ∃ left' found' : List V, σ' = [some (.ref b), some (.ref a), some (.ref l), some (.ref f)] ∧ H2 l = some (.lst left') ∧ H2 f = some (.lst found') ∧ (left' ++ found').Perm xs ∧ Box (n + left'.length) H2 b ∧ Keep b H H2 ∧ left'.length + 1 = m,
        fun σ' H2 h2 => ?_, ?_⟩
      · obtain ⟨left', found', g1, g2, g3, g4, g5, g6, g7⟩ := h2
        exact ⟨left'.length, by omega, left', found', g1, g2, g3, g4, g5, g6, rfl⟩
      · refine ⟨.ref f, rfl, .inl ⟨rfl, _, .inl (.inl ef2)⟩, .ref l, rfl, .inl ⟨rfl, _, .inl (.inl el2)⟩, .ref b, rfl, .ref l, rfl, l, left, rfl, .inl (.inl (.inl el2)), ?_⟩
        refine ⟨b, n + (left.length - 1), left.length, rfl, (hb'.same (same_new ne)).mono (by omega), by omega, by omega, fun r H2 r0 r1 hb2 k2 => ?_⟩
        have el3 : H2 l = some (.lst left) := k2 l _ hbl.symm el2
        have ef3 : H2 f = some (.lst found) := k2 f _ hbf.symm ef2
        have hj : r.toNat < left.length := by omega
        refine ⟨l, left, r, r.toNat, left[r.toNat], rfl, rfl, el3, by omega, by omega, seq_ix r0 r1, List.getElem?_eq_getElem hj, ?_⟩
        have ef4 : (upd H2 l (.lst (left.eraseIdx r.toNat))) f = some (.lst found) := by rw [upd_ne hlf.symm]; exact ef3
        have hfl : found.length ≤ 1000 := by
          have := hp.length_eq
          rw [List.length_append] at this
          omega
        refine ⟨f, found, _, rfl, rfl, ef4, small1000 hfl, left.eraseIdx r.toNat, found ++ [left[r.toNat]], rfl, ?_, upd_same, ?_, ?_, ?_, ?_⟩
        · rw [upd_ne hlf, upd_same]
        · refine List.Perm.trans ?_ hp
          have p1 : (left[r.toNat] :: left.eraseIdx r.toNat).Perm left := perm_erase hj
          have p2 : (left.eraseIdx r.toNat ++ (found ++ [left[r.toNat]])).Perm (left[r.toNat] :: left.eraseIdx r.toNat ++ found) := by
            rw [← List.append_assoc]
            exact List.perm_append_comm.trans (by rw [List.singleton_append, List.cons_append])
          exact p2.trans (p1.append_right found)
        · have : (left.eraseIdx r.toNat).length = left.length - 1 := List.length_eraseIdx_of_lt hj
          rw [this]
          refine (hb2.keep (c := l) keep_upd hbl).keep (c := f) keep_upd hbf
        · intro x o nx hx
          have nxl : x ≠ l := ne_of_none hx nl
          have nxf : x ≠ f := ne_of_none hx nf0
          rw [upd_ne nxf, upd_ne nxl]
          exact k2 x o nx (same_new ne _ _ (hk x o nx hx))
        · rw [List.length_eraseIdx_of_lt hj]; omega
    · have hl0 : left = [] := by
        cases left with
        | nil => rfl
        | cons x r => exact absurd rfl c
      subst hl0
      have ef2 : (upd H' e (.lst [])) f = some (.lst found) := by rw [upd_ne (ne_of_none ef ne)]; exact ef
      exact ⟨.ref f, rfl, q _ f found hp (hk.trans (Keep.of_same (same_new ne))) (hb'.same (same_new ne)) nf0 ef2⟩
end
end Pc
namespace Pc
open PySem PySem.Spec PyProof.Rows L2 RZ
/-! ### pairings as lists of natural numbers -/
/-- the numbers as values -/
def nv (l : List Nat) : List V := l.map fun (i : Nat) => V.int (i : Int)
theorem nv_length (l : List Nat) : (nv l).length = l.length := List.length_map _
theorem nv_get {l : List Nat} {i x : Nat} (h : l[i]? = some x) : (nv l)[i]? = some (.int x) := by
  unfold nv; rw [List.getElem?_map, h]; rfl
theorem nv_at {l : List Nat} {i x : Nat} (h : l[i]? = some x) : atI (nv l) (i : Int) = some (.int x) := atI_nat (nv_get h)
theorem nv_set (l : List Nat) (i x : Nat) : (nv l).set i (.int (x : Int)) = nv (l.set i x) := by
  unfold nv; rw [List.map_set]
theorem nv_get' {l : List Nat} {i : Nat} {v : V} (h : (nv l)[i]? = some v) : ∃ x, l[i]? = some x ∧ v = .int (x : Int) := by
  unfold nv at h
  rw [List.getElem?_map] at h
  cases e : l[i]? with
  | none => rw [e] at h; cases h
  | some x => rw [e] at h; exact ⟨x, rfl, (Option.some.inj h).symm⟩
theorem ixN_nat {n i : Nat} (h : i < n) : ixN n (i : Int) = some i := by
  unfold ixN
  rw [if_pos (by omega), if_pos (by omega)]; rfl
theorem get_some {α : Type} {l : List α} {i : Nat} (h : i < l.length) : ∃ x, l[i]? = some x := ⟨_, List.getElem?_eq_getElem h⟩
theorem get_lt {α : Type} {l : List α} {i : Nat} {x : α} (h : l[i]? = some x) : i < l.length := (List.getElem?_eq_some_iff.mp h).1
/-- a pairing of n people -/
structure IsPair (n : Nat) (ps : List Nat) : Prop where
  len : ps.length = n
  par : ∀ x, x < n → ∃ y, ps[x]? = some y ∧ y < n ∧ y ≠ x ∧ ps[y]? = some x
/-- after t turns: the first t pairs are joined -/
def PInv (os fs : List Nat) (t : Nat) : Prop := fs.length = os.length ∧ ∀ j, j < t → ∀ x y, os[2 * j]? = some x → os[2 * j + 1]? = some y → fs[x]? = some y ∧ fs[y]? = some x
theorem PInv.step {os fs : List Nat} {t x y : Nat} (hnd : os.Nodup) (hlt : ∀ z ∈ os, z < os.length) (h : PInv os fs t) (hx : os[2 * t]? = some x) (hy : os[2 * t + 1]? = some y) :
    PInv os ((fs.set x y).set y x) (t + 1) := by
  obtain ⟨hl, hp⟩ := h
  have xl : x < fs.length := by rw [hl]; exact hlt x (List.mem_of_getElem? hx)
  have yl : y < fs.length := by rw [hl]; exact hlt y (List.mem_of_getElem? hy)
  have xy : x ≠ y := fun e => by
    subst e
    have := nd_ix hnd hx hy
    omega
  refine ⟨by rw [List.length_set, List.length_set, hl], fun j hj u v hu hv => ?_⟩
  by_cases e : j = t
  · subst e
    have e1 : u = x := Option.some.inj (hu.symm.trans hx)
    have e2 : v = y := Option.some.inj (hv.symm.trans hy)
    subst e1 e2
    refine ⟨?_, ?_⟩
    · rw [List.getElem?_set_ne (Ne.symm xy), List.getElem?_set_self xl]
    · rw [List.getElem?_set_self (by rw [List.length_set]; exact yl)]
  · obtain ⟨h1, h2⟩ := hp j (by omega) u v hu hv
    have a1 : x ≠ u := fun z => by subst z; have := nd_ix hnd hx hu; omega
    have a2 : y ≠ u := fun z => by subst z; have := nd_ix hnd hy hu; omega
    have a3 : x ≠ v := fun z => by subst z; have := nd_ix hnd hx hv; omega
    have a4 : y ≠ v := fun z => by subst z; have := nd_ix hnd hy hv; omega
    refine ⟨?_, ?_⟩
    · rw [List.getElem?_set_ne a2, List.getElem?_set_ne a1]; exact h1
    · rw [List.getElem?_set_ne a4, List.getElem?_set_ne a3]; exact h2
theorem PInv.done {os fs : List Nat} {n : Nat} (hp : os.Perm (List.range n)) (he : n % 2 = 0) (h : PInv os fs (n / 2)) : IsPair n fs := by
  have hl : os.length = n := by rw [hp.length_eq, List.length_range]
  have hnd : os.Nodup := hp.nodup_iff.mpr List.nodup_range
  refine ⟨by rw [h.1, hl], fun x hx => ?_⟩
  have hm : x ∈ os := hp.mem_iff.mpr (List.mem_range.mpr hx)
  obtain ⟨i, hi, ei⟩ := List.mem_iff_getElem.mp hm
  have gi : os[i]? = some x := by rw [List.getElem?_eq_getElem hi, ei]
  have lt_n : ∀ {k z : Nat}, os[k]? = some z → z < n := fun {k z} hz => List.mem_range.mp (hp.mem_iff.mp (List.mem_of_getElem? hz))
  by_cases hq : i % 2 = 0
  · have i1 : i + 1 < os.length := by omega
    obtain ⟨y, gy⟩ := get_some i1
    have g1 : os[2 * (i / 2)]? = some x := by rw [show 2 * (i / 2) = i by omega]; exact gi
    have g2 : os[2 * (i / 2) + 1]? = some y := by rw [show 2 * (i / 2) + 1 = i + 1 by omega]; exact gy
    obtain ⟨r1, r2⟩ := h.2 (i / 2) (by omega) x y g1 g2
    exact ⟨y, r1, lt_n gy, fun e => by subst e; have := nd_ix hnd gi gy; omega, r2⟩
  · have i1 : i - 1 < os.length := by omega
    obtain ⟨y, gy⟩ := get_some i1
    have g1 : os[2 * (i / 2)]? = some y := by rw [show 2 * (i / 2) = i - 1 by omega]; exact gy
    have g2 : os[2 * (i / 2) + 1]? = some x := by rw [show 2 * (i / 2) + 1 = i by omega]; exact gi
    obtain ⟨r1, r2⟩ := h.2 (i / 2) (by omega) y x g1 g2
    exact ⟨y, r2, lt_n gy, fun e => by subst e; have := nd_ix hnd gi gy; omega, r1⟩
/-- range(0, n, 2) -/
theorem fits_long {i : Int} (h1 : -(2 ^ 62) ≤ i) (h2 : i < 2 ^ 62) : Builtin.Range.rangeFitsLong i = true := by
  unfold Builtin.Range.rangeFitsLong
  rw [Bool.and_eq_true]
  exact ⟨decide_eq_true (by omega), decide_eq_true (by omega)⟩
theorem rgc_two {n : Nat} (h : n ≤ 1000000) : RgC 0 (n : Int) 2 ((n + 1) / 2) := by
  have e : Builtin.Range.rangeSize 0 (n : Int) 2 = (((n + 1) / 2 : Nat) : Int) := by
    unfold Builtin.Range.rangeSize
    rw [if_pos (by decide)]
    split <;> omega
  refine ⟨by decide, by decide, ?_, e⟩
  unfold Builtin.Range.small
  rw [e, fits_long (i := 0) (by decide) (by decide), fits_long (i := (n : Int)) (by omega) (by omega), fits_long (i := 2) (by decide) (by decide), fits_long (i := (((n + 1) / 2 : Nat) : Int)) (by omega) (by omega), if_pos (by decide), fits_long (i := (n : Int) + (2 - 1)) (by omega) (by omega), Bool.or_true]
  rfl
theorem rep_flat {α : Type} (n : Nat) (x : α) : (List.replicate n [x]).flatten = List.replicate n x := by
  induction n with
  | zero => rfl
  | succ n ih => rw [List.replicate_succ, List.flatten_cons, ih, List.replicate_succ]; rfl
end Pc
namespace Pc
open PySem PySem.Spec PyProof.Rows L2 RZ
section
variable {P : Program} {w : World} {K : PySem.W.Frag} {mg : Str → Option Value} {base : Heap}
/-! ### one of some -/
def spOf (K : PySem.W.Frag) : Sp := fun vs H Q _ => ∃ (b a : Addr) (n : Nat) (xs : List V), vs = [.ref b, .ref a] ∧ Box (n + 1) H b ∧ a ≠ b ∧ H a = some (.lst xs) ∧ 0 < xs.length ∧ xs.length ≤ 1000 ∧
  ∀ (H' : Hp) (i : Nat) (v : V), xs[i]? = some v → Keep b H H' → Box n H' b → Q v H'
theorem ok_of (T : Env K mg) : FnOk P w K mg base CX0 2 T.f_pick T.d_pick ["_law_source", "_law_some"] (spOf K) := by
  have GT : FnOk P w K mg base CX0 1 T.f_draw T.d_draw ["_law_source", "_law_bound"] spTake := ok_take T
  refine T.F_pick.ok sc_pick (fun vs H Q E h => ?_) (fun cdv A outer s H vs Q E hr h => ?_)
  · obtain ⟨b, a, n, xs, rfl, _⟩ := h
    rfl
  · obtain ⟨b, a, n, xs, rfl, hB, hab, ha, h0, hl, q⟩ := h
    refine ⟨_, pss_one (ps_ret (pe_ix ix_list (pv 1) (pe_call GT hr (by rfl) T.g_draw T.F_draw.kp T.b_draw .nil pass0 (pa_cons (pv 0) (pa_cons (pe_callB call_len_seq (by rfl) T.n_len PySem.boot_len (pa_cons (pv 1) pa_nil)) pa_nil))) (fun _ _ => rfl))), ?_⟩
    refine ⟨.ref a, rfl, .ref b, rfl, .ref a, rfl, a, xs, rfl, .inl (.inl (.inl ha)), b, n, xs.length, rfl, hB, by omega, by omega, fun r H' r0 r1 hB' k => ?_⟩
    obtain ⟨v, hv⟩ := get_some (l := xs) (i := r.toNat) (by omega)
    refine ⟨a, xs, r, v, rfl, rfl, .inl (.inl (k _ _ hab ha)), ?_, q H' r.toNat v hv k hB'⟩
    have := atI_nat hv
    rw [show ((r.toNat : Nat) : Int) = r by omega] at this
    exact this
end
end Pc
namespace Pc
open PySem PySem.Spec PyProof.Rows L2 RZ
theorem perm_map_inv {α β : Type} (f : α → β) {zs ys : List β} (h : zs.Perm ys) : ∀ l : List α, zs = l.map f → ∃ l' : List α, ys = l'.map f ∧ l'.Perm l := by
  induction h with
  | nil => exact fun l e => ⟨l, e, List.Perm.refl _⟩
  | cons x _ ih =>
    intro l e
    cases l with
    | nil => cases e
    | cons a r =>
      injection e with e1 e2
      obtain ⟨l', h1, h2⟩ := ih r e2
      exact ⟨a :: l', by rw [h1, e1]; rfl, h2.cons a⟩
  | swap x y t =>
    intro l e
    cases l with
    | nil => cases e
    | cons a r =>
      cases r with
      | nil => injection e with _ e2; cases e2
      | cons b r =>
        injection e with e1 e2
        injection e2 with e2 e3
        exact ⟨b :: a :: r, by rw [e1, e2, e3]; rfl, List.Perm.swap _ _ _⟩
  | trans _ _ ih1 ih2 =>
    intro l e
    obtain ⟨l1, h1, h2⟩ := ih1 l e
    obtain ⟨l2, h3, h4⟩ := ih2 l1 h1
    exact ⟨l2, h3, h4.trans h2⟩
theorem rg_nv (n : Nat) : rgV 0 (n : Int) = nv (List.range n) := by
  unfold rgV nv
  rw [Int.sub_zero, Int.toNat_natCast]
  refine List.map_congr_left fun i _ => ?_
  rw [Int.zero_add]
end Pc
namespace Pc
open PySem PySem.Spec PyProof.Rows L2 RZ
section
variable {P : Program} {w : World} {K : PySem.W.Frag} {mg : Str → Option Value} {base : Heap}
/-! ### a drawn pairing -/
def spRandom : Sp := fun vs H Q _ => ∃ (b : Addr) (n k : Nat), vs = [.ref b, .int k] ∧ Box (n + k) H b ∧ k % 2 = 0 ∧ k ≤ 1000 ∧
  ∀ (H' : Hp) (p : Addr) (ps : List Nat), IsPair k ps → Keep b H H' → Box n H' b → H p = none → H' p = some (.tup (nv ps)) → Q (.ref p) H'
theorem ok_random (T : Env K mg) : FnOk P w K mg base CX0 3 T.f_random_pairing T.d_random_pairing ["_law_source", "_law_crowd"] spRandom := by
  have GS : FnOk P w K mg base CX0 2 T.f_shuffled T.d_shuffled ["_law_source", "_law_some"] (spStrewn K) := ok_strewn T
  refine T.F_random_pairing.ok sc_random_pairing (fun vs H Q E h => ?_) (fun cdv A outer s H vs Q E hr h => ?_)
  · obtain ⟨b, n, k, rfl, _⟩ := h
    rfl
  · obtain ⟨b0, m, n, rfl, hB, he, hn, q⟩ := h
    refine ⟨_, pss_cons (ps_par (by rfl) sc_random_pairing.nd (i := 2) (j := 3) rfl rfl (by decide) rfl rfl (pa_cons (pe_call GS hr (by rfl) T.g_shuffled T.F_shuffled.kp T.b_shuffled .nil pass0 (pa_cons (pv 0) (pa_cons (pe_listRg rfl (by rfl) T.n_list (prg_1 (by rfl) T.n_range (pv 1))) pa_nil)))
        (pa_cons (pe_op op_rep (pe_lst (pa_cons pe_int pa_nil)) (pv 1)) pa_nil)) (by rfl)) <|
      pss_cons (ps_for PassesOwn.never rfl (pi_range3 rfl T.n_range (pa_cons pe_int (pa_cons (pv 1) (pa_cons pe_int pa_nil))))
          (pg_name (i := 4) sc_random_pairing.nd rfl (.inl rfl))
        (pss_one (ps_asg (pe_tup (pa_cons (pe_ix ix_list (pv 2) (pe_op op_add (pv 4) pe_int) (fun _ _ => rfl)) (pa_cons (pe_ix ix_list (pv 2) (pv 4) (fun _ _ => rfl)) pa_nil)))
          (pg_tup rfl (pgs_cons (pg_sub (pv 3) (pe_ix ix_list (pv 2) (pv 4) (fun _ _ => rfl)) set_list) (pgs_cons (pg_sub (pv 3) (pe_ix ix_list (pv 2) (pe_op op_add (pv 4) pe_int) (fun _ _ => rfl)) set_list) pgs_nil)))))) <|
      pss_one (ps_ret (pe_callTy call_tuple_of (by rfl) T.n_tuple (by decide +kernel) (pa_cons (pv 3) pa_nil))), ?_⟩
    refine ⟨.ref b0, rfl, .int n, rfl, n, rfl, RgOk.of_le (by decide) (by omega) (by decide) (by omega), fun rl nrl => ?_⟩
    have sr : Same H _ := same_new (o := .lst (rgV 0 (n : Int))) nrl
    have hrl : (rgV 0 (n : Int)).length = n := by rw [rgV_length]; omega
    refine ⟨b0, rl, m, _, rfl, (hB.same sr).mono (by rw [hrl]; exact Nat.le_refl _), .inl (.inl upd_same), by rw [hrl]; exact hn, fun H1 a ys hpy hk2 hB1 na0 ea0 => ?_⟩
    obtain ⟨os, ee1, hp⟩ := perm_map_inv (fun (i : Nat) => V.int (i : Int)) hpy.symm (List.range n) (rg_nv n)
    have ea1 : H1 a = some (.lst (nv os)) := by rw [ea0, ee1]; rfl
    have hS : SqL K H1 a (nv os) := .inl (.inl ea1)
    have kk : Keep b0 H H1 := (Keep.of_same sr).trans hk2
    have hl : os.length = n := by rw [hp.length_eq, List.length_range]
    have hl2 : (nv os).length = n := by rw [nv_length, hl]
    have hnd : os.Nodup := hp.nodup_iff.mpr List.nodup_range
    have hlt : ∀ z ∈ os, z < os.length := fun z hz => by rw [hl]; exact List.mem_range.mp (hp.mem_iff.mp hz)
    refine ⟨by show 1 ≤ sizeLine; decide, fun e ne => ?_⟩
    have s0 : Same H1 (upd H1 e (.lst [.int 0])) := same_new ne
    refine ⟨.int n, rfl, e, _, [.int 0], rfl, rfl, upd_same, by omega, by omega, ?_, fun f nf => ⟨_, _, rfl, ?_⟩⟩
    · show 1 * Int.toNat (n : Int) ≤ sizeLine
      exact Nat.le_of_lt (small1000 (by omega))
    have s1 : Same H1 _ := s0.trans (same_new (o := .lst (List.replicate ((n : Nat) : Int).toNat [V.int 0]).flatten) nf)
    have nf0 : H1 f = none := s0.free nf
    have e0 : (List.replicate ((n : Nat) : Int).toNat [V.int 0]).flatten = nv (List.replicate n 0) := by
      rw [rep_flat, Int.toNat_natCast]
      unfold nv
      rw [List.map_replicate]; rfl
    have ef0 : (upd (upd H1 e (.lst [.int 0])) f (.lst (List.replicate ((n : Nat) : Int).toNat [V.int 0]).flatten)) f = some (.lst (nv (List.replicate n 0))) := by rw [upd_same, e0]
    refine ⟨.int n, rfl, 0, _, 2, n / 2, rfl, ?_, ?_⟩
    · have := rgc_two (n := n) (by omega)
      rw [show (n + 1) / 2 = n / 2 by omega] at this
      exact this
    refine for_rangeC (fun t σ H' => Same H1 H' ∧ ∃ (y : Option V) (fs : List Nat), σ = [some (.ref b0), some (.int n), some (.ref a), some (.ref f), y] ∧ H' f = some (.lst (nv fs)) ∧ PInv os fs t)
      ⟨s1, none, List.replicate n 0, rfl, ef0, by rw [List.length_replicate, hl], fun j hj => absurd hj (Nat.not_lt_zero _)⟩ (fun t σ H' ht h => ?_) (fun σ H' h => ?_)
    · obtain ⟨sm, y, fs, rfl, ef, pi⟩ := h
      obtain ⟨x1, g1⟩ := get_some (l := os) (i := 2 * t) (by omega)
      obtain ⟨x2, g2⟩ := get_some (l := os) (i := 2 * t + 1) (by omega)
      have hS' : SqL K H' a (nv os) := sm.seq hS
      have ea : atI (nv os) ((0 : Int) + (t : Nat) * 2) = some (.int x1) := by
        rw [show (0 : Int) + (t : Nat) * 2 = ((2 * t : Nat) : Int) by omega]; exact nv_at g1
      have eb : atI (nv os) ((0 : Int) + (t : Nat) * 2 + 1) = some (.int x2) := by
        rw [show (0 : Int) + (t : Nat) * 2 + 1 = ((2 * t + 1 : Nat) : Int) by omega]; exact nv_at g2
      have l1 : x1 < fs.length := by rw [pi.1]; exact hlt _ (List.mem_of_getElem? g1)
      have l2 : x2 < fs.length := by rw [pi.1]; exact hlt _ (List.mem_of_getElem? g2)
      refine ⟨.ref a, rfl, _, rfl, _, 1, rfl, rfl, a, _, _, _, rfl, rfl, hS', eb, .ref a, rfl, _, rfl, a, _, _, _, rfl, rfl, hS', ea, by show 2 ≤ sizeLine; decide, fun tp nt => ?_⟩
      have st : Same H' (upd H' tp (.tup [.int x2, .int x1])) := same_new nt
      have eft : (upd H' tp (.tup [.int x2, .int x1])) f = some (.lst (nv fs)) := st _ _ ef
      have nft : f ≠ tp := ne_of_none ef nt
      refine ⟨tp, _, rfl, .inl (.inl upd_same), rfl, _, _, rfl, .ref f, rfl, .ref a, rfl, _, rfl, a, _, _, _, rfl, rfl, st.seq hS', ea, f, _, _, x1, rfl, rfl, eft, ixN_nat (by rw [nv_length]; exact l1), ?_⟩
      have sq : SqL K (upd (upd H' tp (.tup [.int x2, .int x1])) f (.lst ((nv fs).set x1 (.int x2)))) a (nv os) := by
        have : ∀ b o, H1 b = some o → (upd (upd H' tp (.tup [.int x2, .int x1])) f (.lst ((nv fs).set x1 (.int x2)))) b = some o := fun b o hb => by
          rw [upd_ne (ne_of_none hb nf0)]; exact st _ _ (sm _ _ hb)
        exact Same.seq this hS
      refine ⟨_, _, rfl, .ref f, rfl, .ref a, rfl, _, rfl, _, 1, rfl, rfl, a, _, _, _, rfl, rfl, sq, eb, f, _, _, x2, rfl, rfl, upd_same, ?_, ?_⟩
      · rw [List.length_set]; exact ixN_nat (by rw [nv_length]; exact l2)
      · refine ⟨rfl, fun b o hb => ?_, _, (fs.set x1 x2).set x2 x1, rfl, ?_, pi.step hnd hlt g1 g2⟩
        · rw [upd_ne (ne_of_none hb nf0), upd_ne (ne_of_none hb nf0)]; exact st _ _ (sm _ _ hb)
        · rw [upd_same, nv_set, nv_set]
    · obtain ⟨sm, y, fs, rfl, ef, pi⟩ := h
      refine ⟨.ref f, rfl, f, _, rfl, .inl ⟨.inl (.inl ef), fun p np => ?_⟩⟩
      have sp := sm.trans (same_new (o := .tup (nv fs)) np)
      refine q _ p fs (pi.done hp he) (kk.trans (Keep.of_same sp)) (hB1.same sp) ?_ upd_same
      have np1 : H1 p = none := sm.free np
      cases e : H p with
      | none => rfl
      | some o =>
        by_cases hb : p = b0
        · subst hb
          obtain ⟨y, hy⟩ := hB1.lst
          rw [hy] at np1; cases np1
        · rw [kk p o hb e] at np1; cases np1
end
end Pc
namespace Pc
open PySem PySem.Spec PyProof.Rows L2 RZ
/-- the first k of a list of numbers, as a slice -/
theorem cut_head (l : List Nat) (k : Nat) : cutV (nv l) none (some (k : Int)) = nv (l.take k) := by
  unfold cutV nv
  rw [HT.sIx_none, HT.sIx_nat, List.drop_zero, List.length_map, Nat.sub_zero, List.map_take]
  by_cases h : k ≤ l.length
  · rw [Nat.min_eq_left h]
  · rw [Nat.min_eq_right (by omega), List.take_of_length_le (by rw [List.length_map]; omega), List.take_of_length_le (by rw [List.length_map]; omega)]
theorem keep_none {b p : Addr} {k : Nat} {H H' : Hp} (hk : Keep b H H') (hB : Box k H' b) (h : H' p = none) : H p = none := by
  cases e : H p with
  | none => rfl
  | some o =>
    by_cases hb : p = b
    · subst hb
      obtain ⟨y, hy⟩ := hB.lst
      rw [hy] at h; cases h
    · rw [hk p o hb e] at h; cases h
end Pc
namespace Pc
open PySem PySem.Spec PyProof.Rows L2 RZ
section
variable {P : Program} {w : World} {K : PySem.W.Frag} {mg : Str → Option Value} {base : Heap}
/-! ### a drawn call of some people -/
def spCallOf (K : PySem.W.Frag) : Sp := fun vs H Q _ => ∃ (b a : Addr) (m n : Nat) (l : List Nat), vs = [.ref b, .ref a] ∧ Box (m + l.length) H b ∧ SqL K H a (nv l) ∧ l.Nodup ∧ 2 ≤ l.length ∧ l.length ≤ 1000 ∧ (∀ x ∈ l, x < n) ∧
  ∀ (H' : Hp) (t : Addr) (x y : Nat), x < y → y < n → H t = none → H' t = some (.tup [.int x, .int y]) → Keep b H H' → Box m H' b → Q (.ref t) H'
theorem ok_call_of (T : Env K mg) : FnOk P w K mg base CX0 3 T.f_random_call T.d_random_call ["_law_source", "_law_some"] (spCallOf K) := by
  have GS : FnOk P w K mg base CX0 2 T.f_shuffled T.d_shuffled ["_law_source", "_law_some"] (spStrewn K) := ok_strewn T
  refine T.F_random_call.ok sc_random_call (fun vs H Q E h => ?_) (fun cdv A outer s H vs Q E hr h => ?_)
  · obtain ⟨b, a, m, n, l, rfl, _⟩ := h
    rfl
  · obtain ⟨b, a, m, n, l, rfl, hB, hS, hnd, h2, hl, hlt, q⟩ := h
    refine ⟨_, pss_cons (ps_set (i := 2) sc_random_call.nd rfl (.inl rfl) (pe_slice sl_list (pe_call GS hr (by rfl) T.g_shuffled T.F_shuffled.kp T.b_shuffled .nil pass0 (pa_cons (pv 0) (pa_cons (pv 1) pa_nil))) po_none (po_some pe_int))) <|
      pss_one (ps_ret (pe_tup (pa_cons (pe_callB (cr_min rfl) (by rfl) T.n_min (by decide +kernel) (pa_cons (pv 2) pa_nil)) (pa_cons (pe_callB (cr_max rfl) (by rfl) T.n_max (by decide +kernel) (pa_cons (pv 2) pa_nil)) pa_nil)))), ?_⟩
    refine ⟨.ref b, rfl, .ref a, rfl, b, a, m, nv l, rfl, by rw [nv_length]; exact hB, hS, by rw [nv_length]; exact hl, fun H1 p2 ys hpy k1 hB1 np2 ep2 => ?_⟩
    obtain ⟨os, e1, hp⟩ := perm_map_inv (fun (i : Nat) => V.int (i : Int)) hpy.symm l rfl
    have ep : H1 p2 = some (.lst (nv os)) := by rw [ep2, e1]; rfl
    have hol : os.length = l.length := hp.length_eq
    have hon : os.Nodup := hp.nodup_iff.mpr hnd
    refine ⟨2, rfl, p2, nv os, rfl, .inl (.inl ep), fun p3 np3 => ?_⟩
    have ec : cutV (nv os) none (some 2) = nv (os.take 2) := cut_head os 2
    rw [ec]
    match os, hol, hon, hp with
    | [], ho, _, _ => exact absurd ho (by simp only [List.length_nil]; omega)
    | [_], ho, _, _ => exact absurd ho (by simp only [List.length_cons, List.length_nil]; omega)
    | x :: y :: r, _, hon, hp =>
      have hx : x < n := hlt x (hp.mem_iff.mp List.mem_cons_self)
      have hy : y < n := hlt y (hp.mem_iff.mp (List.mem_cons_of_mem _ List.mem_cons_self))
      have hxy : x ≠ y := fun e => (List.nodup_cons.mp hon).1 (by rw [e]; exact List.mem_cons_self)
      have s3 : Same H1 _ := same_new (o := .lst (nv [x, y])) np3
      have e3 : (upd H1 p3 (.lst (nv [x, y]))) p3 = some (.lst ([(x : Int), (y : Int)].map V.int)) := upd_same
      refine ⟨.ref p3, rfl, p3, [(x : Int), (y : Int)], rfl, .inl (.inl e3), by show 0 < 2; decide, fun u u1 u2 => ?_⟩
      refine ⟨.ref p3, rfl, p3, [(x : Int), (y : Int)], rfl, .inl (.inl e3), by show 0 < 2; decide, fun v v1 v2 => ?_⟩
      have ux := u2 (x : Int) List.mem_cons_self
      have uy := u2 (y : Int) (List.mem_cons_of_mem _ List.mem_cons_self)
      have vx := v2 (x : Int) List.mem_cons_self
      have vy := v2 (y : Int) (List.mem_cons_of_mem _ List.mem_cons_self)
      have u3 : u = (x : Int) ∨ u = (y : Int) := by
        rcases List.mem_cons.mp u1 with z | z
        · exact .inl z
        · exact .inr (List.mem_singleton.mp z)
      have v3 : v = (x : Int) ∨ v = (y : Int) := by
        rcases List.mem_cons.mp v1 with z | z
        · exact .inl z
        · exact .inr (List.mem_singleton.mp z)
      refine ⟨by show 2 ≤ sizeLine; decide, fun t nt => ?_⟩
      have kt : Keep b H _ := k1.trans (Keep.of_same (s3.trans (same_new (o := .tup [.int u, .int v]) nt)))
      refine q _ t u.toNat v.toNat (by omega) (by omega) (keep_none (k1.trans (Keep.of_same s3)) (hB1.same s3) nt) ?_ kt (hB1.same (s3.trans (same_new nt)))
      rw [upd_same, show ((u.toNat : Nat) : Int) = u by omega, show ((v.toNat : Nat) : Int) = v by omega]
end
end Pc
namespace Pc
open PySem PySem.Spec PyProof.Rows L2 RZ
/-! ### data where more is tracked -/
theorem same_tup {K : PySem.W.Frag} {H H' : Hp} {a : Addr} {xs : List V} (e : Same H H') (h : SqT K H a xs) : SqT K H' a xs := by
  rcases h with (h | ⟨o, h⟩) | h
  · exact .inl (.inl (e _ _ h))
  · exact .inl (.inr ⟨o, e _ _ h⟩)
  · exact .inr h
mutual
theorem dp_same {K : PySem.W.Frag} {H H' : Hp} (e : Same H H') : ∀ {v : V} {d : PyData}, Dp K H v d → Dp K H' v d
  | _, _, .non => .non
  | _, _, .bl b => .bl b
  | _, _, .int i => .int i
  | _, _, .str x => .str x
  | _, _, .lst h a => .lst (e.seq h) (dpa_same e a)
  | _, _, .tup h a => .tup (same_tup e h) (dpa_same e a)
theorem dpa_same {K : PySem.W.Frag} {H H' : Hp} (e : Same H H') : ∀ {vs : List V} {ds : List PyData}, DpAll K H vs ds → DpAll K H' vs ds
  | _, _, .nil => .nil
  | _, _, .cons h a => .cons (dp_same e h) (dpa_same e a)
end
theorem dpa_len {K : PySem.W.Frag} {H : Hp} : ∀ {vs : List V} {ds : List PyData}, DpAll K H vs ds → vs.length = ds.length
  | _, _, .nil => rfl
  | _, _, .cons _ a => by rw [List.length_cons, List.length_cons, dpa_len a]
theorem dpa_get {K : PySem.W.Frag} {H : Hp} : ∀ {vs : List V} {ds : List PyData} {i : Nat} {v : V}, DpAll K H vs ds → vs[i]? = some v → ∃ d, ds[i]? = some d ∧ Dp K H v d
  | _, _, _, _, .nil, h => by simp at h
  | _, _, 0, _, .cons (d := d) h _, e => by
    cases Option.some.inj e
    exact ⟨d, rfl, h⟩
  | _, _, i + 1, v, .cons _ a, e => dpa_get (i := i) a e
theorem depth_get : ∀ {ds : List PyData} {i : Nat} {d : PyData}, ds[i]? = some d → d.depth ≤ PyData.depthAll ds
  | [], _, _, h => by simp at h
  | d :: r, 0, _, h => by
    cases Option.some.inj h
    exact Nat.le_max_left _ _
  | d :: r, i + 1, x, h => Nat.le_trans (depth_get (i := i) (ds := r) h) (Nat.le_max_right _ _)
mutual
/-- no list in it is longer than a hundred thousand -/
def narrow : PyData → Prop
  | .list xs => xs.length ≤ 100000 ∧ narrowAll xs
  | .tuple xs => xs.length ≤ 100000 ∧ narrowAll xs
  | _ => True
def narrowAll : List PyData → Prop
  | [] => True
  | x :: xs => narrow x ∧ narrowAll xs
end
theorem narrow_get : ∀ {ds : List PyData} {i : Nat} {d : PyData}, narrowAll ds → ds[i]? = some d → narrow d
  | [], _, _, _, h => by simp at h
  | d :: r, 0, _, n, h => by
    cases Option.some.inj h
    exact n.1
  | d :: r, i + 1, x, n, h => narrow_get (i := i) (ds := r) n.2 h
theorem narrow_of : ∀ {ds : List PyData}, (∀ d ∈ ds, narrow d) → narrowAll ds
  | [], _ => trivial
  | d :: r, h => ⟨h d List.mem_cons_self, narrow_of fun x hx => h x (List.mem_cons_of_mem _ hx)⟩
theorem narrow_ints (ns : List Int) : narrowAll (ns.map PyData.int) := narrow_of fun d hd => by
  obtain ⟨i, _, rfl⟩ := List.mem_map.mp hd
  exact trivial
theorem line_big {n : Nat} (h : n ≤ 100000) : n < sizeLine := Nat.lt_of_le_of_lt h (by decide)
theorem ty_lst {K : PySem.W.Frag} {H : Hp} {a : Addr} {xs : List V} (h : SqL K H a xs) : TyX K H (.ref a) (.type "list") := by
  rcases h with (h | ⟨o, h⟩) | ⟨o, its, n, h, c, _⟩
  · exact .base (.lst h)
  · exact .base (.frz h)
  · exact .kList h c
theorem ty_tup {K : PySem.W.Frag} {H : Hp} {a : Addr} {xs : List V} (h : SqT K H a xs) : TyX K H (.ref a) (.type "tuple") := by
  rcases h with (h | ⟨o, h⟩) | ⟨o, its, n, h, c, _⟩
  · exact .base (.tup h)
  · exact .fTuple h
  · exact .kTuple h c
theorem kit2 {K : PySem.W.Frag} {t a b : String} {p q : Bool} (h1 : kitB t a = some p) (h2 : kitB t b = some q) : PySem.W.kitAny K (.type t) [.type a, .type b] = some (p || q) := by
  refine kitAny_cons (kit_ty h1) (fun e => kitAny_cons (kit_ty h2) (fun e2 => ?_) (fun e2 => ?_)) (fun e => ?_)
  · subst e e2; rfl
  · subst e e2; rfl
  · subst e; rfl
section
variable {K : PySem.W.Frag}
theorem any_lt_int : PySem.W.kitAny K (.type "int") [.type "list", .type "tuple"] = some false := kit2 (p := false) (q := false) (by decide +kernel) (by decide +kernel)
theorem any_sb_int : PySem.W.kitAny K (.type "int") [.type "str", .type "bool"] = some false := kit2 (p := false) (q := false) (by decide +kernel) (by decide +kernel)
theorem any_bs_int : PySem.W.kitAny K (.type "int") [.type "bool", .type "str"] = some false := kit2 (p := false) (q := false) (by decide +kernel) (by decide +kernel)
theorem one_int_int : PySem.W.kitOne K (.type "int") (.type "int") = some true := kit_ty (by decide +kernel)
theorem one_int_bool : PySem.W.kitOne K (.type "int") (.type "bool") = some false := kit_ty (by decide +kernel)
theorem one_int_list : PySem.W.kitOne K (.type "int") (.type "list") = some false := kit_ty (by decide +kernel)
theorem one_int_tuple : PySem.W.kitOne K (.type "int") (.type "tuple") = some false := kit_ty (by decide +kernel)
theorem any_lt_none : PySem.W.kitAny K (.type "NoneType") [.type "list", .type "tuple"] = some false := kit2 (p := false) (q := false) (by decide +kernel) (by decide +kernel)
theorem any_sb_none : PySem.W.kitAny K (.type "NoneType") [.type "str", .type "bool"] = some false := kit2 (p := false) (q := false) (by decide +kernel) (by decide +kernel)
theorem any_bs_none : PySem.W.kitAny K (.type "NoneType") [.type "bool", .type "str"] = some false := kit2 (p := false) (q := false) (by decide +kernel) (by decide +kernel)
theorem one_none_int : PySem.W.kitOne K (.type "NoneType") (.type "int") = some false := kit_ty (by decide +kernel)
theorem one_none_bool : PySem.W.kitOne K (.type "NoneType") (.type "bool") = some false := kit_ty (by decide +kernel)
theorem one_none_list : PySem.W.kitOne K (.type "NoneType") (.type "list") = some false := kit_ty (by decide +kernel)
theorem one_none_tuple : PySem.W.kitOne K (.type "NoneType") (.type "tuple") = some false := kit_ty (by decide +kernel)
theorem any_lt_bool : PySem.W.kitAny K (.type "bool") [.type "list", .type "tuple"] = some false := kit2 (p := false) (q := false) (by decide +kernel) (by decide +kernel)
theorem any_sb_bool : PySem.W.kitAny K (.type "bool") [.type "str", .type "bool"] = some true := kit2 (p := false) (q := true) (by decide +kernel) (by decide +kernel)
theorem any_bs_bool : PySem.W.kitAny K (.type "bool") [.type "bool", .type "str"] = some true := kit2 (p := true) (q := false) (by decide +kernel) (by decide +kernel)
theorem one_bool_int : PySem.W.kitOne K (.type "bool") (.type "int") = some true := kit_ty (by decide +kernel)
theorem one_bool_bool : PySem.W.kitOne K (.type "bool") (.type "bool") = some true := kit_ty (by decide +kernel)
theorem one_bool_list : PySem.W.kitOne K (.type "bool") (.type "list") = some false := kit_ty (by decide +kernel)
theorem one_bool_tuple : PySem.W.kitOne K (.type "bool") (.type "tuple") = some false := kit_ty (by decide +kernel)
theorem any_lt_str : PySem.W.kitAny K (.type "str") [.type "list", .type "tuple"] = some false := kit2 (p := false) (q := false) (by decide +kernel) (by decide +kernel)
theorem any_sb_str : PySem.W.kitAny K (.type "str") [.type "str", .type "bool"] = some true := kit2 (p := true) (q := false) (by decide +kernel) (by decide +kernel)
theorem any_bs_str : PySem.W.kitAny K (.type "str") [.type "bool", .type "str"] = some true := kit2 (p := false) (q := true) (by decide +kernel) (by decide +kernel)
theorem one_str_int : PySem.W.kitOne K (.type "str") (.type "int") = some false := kit_ty (by decide +kernel)
theorem one_str_bool : PySem.W.kitOne K (.type "str") (.type "bool") = some false := kit_ty (by decide +kernel)
theorem one_str_list : PySem.W.kitOne K (.type "str") (.type "list") = some false := kit_ty (by decide +kernel)
theorem one_str_tuple : PySem.W.kitOne K (.type "str") (.type "tuple") = some false := kit_ty (by decide +kernel)
theorem any_lt_list : PySem.W.kitAny K (.type "list") [.type "list", .type "tuple"] = some true := kit2 (p := true) (q := false) (by decide +kernel) (by decide +kernel)
theorem any_sb_list : PySem.W.kitAny K (.type "list") [.type "str", .type "bool"] = some false := kit2 (p := false) (q := false) (by decide +kernel) (by decide +kernel)
theorem any_bs_list : PySem.W.kitAny K (.type "list") [.type "bool", .type "str"] = some false := kit2 (p := false) (q := false) (by decide +kernel) (by decide +kernel)
theorem one_list_int : PySem.W.kitOne K (.type "list") (.type "int") = some false := kit_ty (by decide +kernel)
theorem one_list_bool : PySem.W.kitOne K (.type "list") (.type "bool") = some false := kit_ty (by decide +kernel)
theorem one_list_list : PySem.W.kitOne K (.type "list") (.type "list") = some true := kit_ty (by decide +kernel)
theorem one_list_tuple : PySem.W.kitOne K (.type "list") (.type "tuple") = some false := kit_ty (by decide +kernel)
theorem any_lt_tuple : PySem.W.kitAny K (.type "tuple") [.type "list", .type "tuple"] = some true := kit2 (p := false) (q := true) (by decide +kernel) (by decide +kernel)
theorem any_sb_tuple : PySem.W.kitAny K (.type "tuple") [.type "str", .type "bool"] = some false := kit2 (p := false) (q := false) (by decide +kernel) (by decide +kernel)
theorem any_bs_tuple : PySem.W.kitAny K (.type "tuple") [.type "bool", .type "str"] = some false := kit2 (p := false) (q := false) (by decide +kernel) (by decide +kernel)
theorem one_tuple_int : PySem.W.kitOne K (.type "tuple") (.type "int") = some false := kit_ty (by decide +kernel)
theorem one_tuple_bool : PySem.W.kitOne K (.type "tuple") (.type "bool") = some false := kit_ty (by decide +kernel)
theorem one_tuple_list : PySem.W.kitOne K (.type "tuple") (.type "list") = some false := kit_ty (by decide +kernel)
theorem one_tuple_tuple : PySem.W.kitOne K (.type "tuple") (.type "tuple") = some true := kit_ty (by decide +kernel)
end
theorem cls2 (a b : String) : Paired ClsV [.ty a, .ty b] [.type a, .type b] := .cons (.ty a) (.cons (.ty b) .nil)
/-- zip of two tuples -/
theorem walk_zipT {K : PySem.W.Frag} {a b : Addr} {xs ys : List V} {n : Nat} (hn : n = min xs.length ys.length) : Walk (ItzT K a b) n (fun H => SqT K H a xs ∧ SqT K H b ys) (YPair (fun i => xs[i]?) (fun i => ys[i]?)) := by
  subst hn
  refine ⟨fun i _ hi q => ?_, fun _ q => ⟨xs, ys, q.1, q.2, by omega⟩, fun i H v H' _ q y => ?_⟩
  · obtain ⟨x, hx⟩ := get_some (l := xs) (i := i) (by omega)
    obtain ⟨z, hz⟩ := get_some (l := ys) (i := i) (by omega)
    exact ⟨xs, ys, x, z, q.1, q.2, hx, hz⟩
  · obtain ⟨T, x, z, h1, h2, h3, h4, h5⟩ := y
    exact ⟨T, x, z, h1, h2, h3, h4 xs q.1, h5 ys q.2⟩
theorem fn_never {P : Program} {w : World} {K : PySem.W.Frag} {mg : Str → Option Value} {base : Heap} {CX : CXT} {k : Nat} {f : Addr} {fd : FuncData} {ps : List Str} {sp : Sp} (h : ∀ vs H Q E, ¬ sp vs H Q E) : FnOk P w K mg base CX k f fd ps sp :=
  ⟨fun vs H Q E q => absurd q (h vs H Q E), fun _ _ _ H _ _ vs Q E _ _ _ _ q => absurd q (h vs H Q E)⟩
/-- a comprehension without a test -/
theorem yes_if {σ : L2.St} {H : Hp} {A B : Hp → Prop} (h : A H) : tYes σ H (fun b H3 => if b = true then A H3 else B H3) := by
  show if true = true then A H else B H
  exact iteT h
theorem all_rep : ∀ n : Nat, (List.replicate n true).all id = true
  | 0 => rfl
  | n + 1 => by rw [List.replicate_succ, List.all_cons, all_rep n]; rfl
end Pc
namespace Pc
open PySem PySem.Spec PyProof.Rows L2 RZ
section
variable {P : Program} {w : World} {K : PySem.W.Frag} {mg : Str → Option Value} {base : Heap}
/-! ### the same data twice -/
def spSame (K : PySem.W.Frag) (n : Nat) : Sp := fun vs H Q _ => ∃ (x y : V) (d : PyData), vs = [x, y] ∧ Dp K H x d ∧ Dp K H y d ∧ d.depth < n ∧ narrow d ∧ ∀ H', Same H H' → Q (.bl true) H'
theorem same_step (T : Env K mg) (n : Nat) (G : FnOk P w K mg base CX0 n T.f_same T.d_same ["_law_found", "_law_due"] (spSame K n)) : FnOk P w K mg base CX0 (n + 1) T.f_same T.d_same ["_law_found", "_law_due"] (spSame K (n + 1)) := by
  refine T.F_same.ok sc_same (fun vs H Q E h => ?_) (fun cdv A outer s H vs Q E hr h => ?_)
  · obtain ⟨x, y, d, rfl, _⟩ := h
    rfl
  · obtain ⟨x, y, d, rfl, hx, hy, hd, hw, q⟩ := h
    refine ⟨_, pss_cons (ps_if (pt_val (pe_callB call_isiT (by rfl) T.n_isinstance (by decide +kernel) (pa_cons (pv 1) (pa_cons (pe_tup (pa_cons (pe_bltn (v := .ty "list") (by rfl) T.n_list (by decide +kernel) rfl) (pa_cons (pe_bltn (v := .ty "tuple") (by rfl) T.n_tuple (by decide +kernel) rfl) pa_nil))) pa_nil))))
        (pss_cons (ps_if (PW.pt (pw_or (pt_cmpR op_ne (pe_callB call_isi (by rfl) T.n_isinstance (by decide +kernel) (pa_cons (pv 0) (pa_cons (pe_bltn (v := .ty "list") (by rfl) T.n_list (by decide +kernel) rfl) pa_nil))) (pe_callB call_isi (by rfl) T.n_isinstance (by decide +kernel) (pa_cons (pv 1) (pa_cons (pe_bltn (v := .ty "list") (by rfl) T.n_list (by decide +kernel) rfl) pa_nil))) (nomark _))
            (pw_or1 (pt_cmpR op_ne (pe_callB call_isi (by rfl) T.n_isinstance (by decide +kernel) (pa_cons (pv 0) (pa_cons (pe_bltn (v := .ty "tuple") (by rfl) T.n_tuple (by decide +kernel) rfl) pa_nil))) (pe_callB call_isi (by rfl) T.n_isinstance (by decide +kernel) (pa_cons (pv 1) (pa_cons (pe_bltn (v := .ty "tuple") (by rfl) T.n_tuple (by decide +kernel) rfl) pa_nil))) (nomark _)))))
          (pss_one (ps_ret pe_bl)) pss_nil)
        (pss_one (ps_ret (pe_and (pe_cmpR op_eq (pe_callB call_len_seq (by rfl) T.n_len PySem.boot_len (pa_cons (pv 0) pa_nil)) (pe_callB call_len_seq (by rfl) T.n_len PySem.boot_len (pa_cons (pv 1) pa_nil)) (nomark _))
          (pe_one (pe_callB (cr_all rfl) (by rfl) T.n_all (by decide +kernel) (pa_cons
            (pe_lc (own := [("_law_mine", 2), ("_law_its", 3)]) (g := gTup K 2 (gCons (gName 2) (gCons (gName 3) gNil))) (tt := tYes) (by rfl) sc_same.nd (pi_zipA (by rfl) T.n_zip (pa_cons (pv 0) (pa_cons (pv 1) pa_nil)))
              (blkOk_by (N := N_same) (sc := defScope s_same) (by decide +kernel))
              (fun _ _ _ _ _ => pg_tup (by rfl) (pgs_cons (pg_name (i := 2) sc_same.nd rfl (.inl rfl)) (pgs_cons (pg_name (i := 3) sc_same.nd rfl (.inl rfl)) pgs_nil)))
              (fun _ _ _ _ _ => pts_nil)
              (fun _ _ _ _ _ => pe_call G hr (by rfl) T.g_same T.F_same.kp T.b_same .nil pass0 (pa_cons (pv 2) (pa_cons (pv 3) pa_nil)))) pa_nil))))))) pss_nil)
      (pss_cons (ps_if (PW.pt (pw_or (pt_cmpR op_isN (pv 1) pe_non (nomark _)) (pw_or1 (pt_val (pe_callB call_isiT (by rfl) T.n_isinstance (by decide +kernel) (pa_cons (pv 1) (pa_cons (pe_tup (pa_cons (pe_bltn (v := .ty "bool") (by rfl) T.n_bool (by decide +kernel) rfl) (pa_cons (pe_bltn (v := .ty "str") (by rfl) T.n_str (by decide +kernel) rfl) pa_nil))) pa_nil)))))))
        (pss_one (ps_ret (pe_and (pe_cmpR op_eq (pv 0) (pv 1) (nomark _))
          (pe_and (pe_cmpR op_eq (pe_callB call_isi (by rfl) T.n_isinstance (by decide +kernel) (pa_cons (pv 0) (pa_cons (pe_bltn (v := .ty "bool") (by rfl) T.n_bool (by decide +kernel) rfl) pa_nil))) (pe_callB call_isi (by rfl) T.n_isinstance (by decide +kernel) (pa_cons (pv 1) (pa_cons (pe_bltn (v := .ty "bool") (by rfl) T.n_bool (by decide +kernel) rfl) pa_nil))) (nomark _))
          (pe_one (pe_cmpR op_eq (pe_cmpR op_isN (pv 0) pe_non (nomark _)) (pe_cmpR op_isN (pv 1) pe_non (nomark _)) (nomark _))))))) pss_nil)
      (pss_one (ps_ret (pe_and (pe_callB call_isi (by rfl) T.n_isinstance (by decide +kernel) (pa_cons (pv 0) (pa_cons (pe_bltn (v := .ty "int") (by rfl) T.n_int (by decide +kernel) rfl) pa_nil)))
        (pe_and (pe_not (pe_callB call_isi (by rfl) T.n_isinstance (by decide +kernel) (pa_cons (pv 0) (pa_cons (pe_bltn (v := .ty "bool") (by rfl) T.n_bool (by decide +kernel) rfl) pa_nil)))) (pe_one (pe_cmpR op_eq (pv 0) (pv 1) (nomark _)))))))), ?_⟩
    cases d with
    | dict _ => cases hx
    | int i =>
      cases hx; cases hy
      refine ⟨_, rfl, by show 2 ≤ sizeLine; decide, fun t nt => ⟨_, t, _, _, _, _, rfl, upd_same, cls2 _ _, .base (.int i), any_lt_int, _, rfl, iteF ?_⟩⟩
      refine ⟨_, rfl, rfl, _, rfl, iteF ⟨_, rfl, by show 2 ≤ sizeLine; decide, fun u nu => ⟨_, u, _, _, _, _, rfl, upd_same, cls2 _ _, .base (.int i), any_bs_int, _, rfl, iteF ?_⟩⟩⟩
      refine ⟨_, rfl, _, _, _, _, _, rfl, .ty _, .base (.int i), one_int_int, _, rfl, iteT ⟨_, rfl, _, _, _, _, _, rfl, .ty _, .base (.int i), one_int_bool, _, rfl, _, rfl, iteT ⟨_, rfl, _, rfl, rfl, ?_⟩⟩⟩
      rw [decide_eq_true rfl]
      exact q _ ((same_new nt).trans (same_new nu))
    | none =>
      cases hx; cases hy
      refine ⟨_, rfl, by show 2 ≤ sizeLine; decide, fun t nt => ⟨_, t, _, _, _, _, rfl, upd_same, cls2 _ _, .base .non, any_lt_none, _, rfl, iteF ?_⟩⟩
      refine ⟨_, rfl, rfl, _, rfl, iteT ?_⟩
      refine ⟨_, rfl, _, rfl, rfl, _, rfl, iteT ⟨_, rfl, _, _, _, _, _, rfl, .ty _, .base .non, one_none_bool, _, rfl, _, _, _, _, _, rfl, .ty _, .base .non, one_none_bool, rfl, _, rfl, iteT ⟨_, rfl, rfl, _, rfl, rfl, rfl, ?_⟩⟩⟩
      exact q _ (same_new nt)
    | bool b =>
      cases hx; cases hy
      refine ⟨_, rfl, by show 2 ≤ sizeLine; decide, fun t nt => ⟨_, t, _, _, _, _, rfl, upd_same, cls2 _ _, .base (.bl b), any_lt_bool, _, rfl, iteF ?_⟩⟩
      refine ⟨_, rfl, rfl, _, rfl, iteF ⟨_, rfl, by show 2 ≤ sizeLine; decide, fun u nu => ⟨_, u, _, _, _, _, rfl, upd_same, cls2 _ _, .base (.bl b), any_bs_bool, _, rfl, iteT ?_⟩⟩⟩
      refine ⟨_, rfl, _, rfl, rfl, _, rfl, ?_⟩
      rw [decide_eq_true rfl]
      refine iteT ⟨_, rfl, _, _, _, _, _, rfl, .ty _, .base (.bl b), one_bool_bool, _, rfl, _, _, _, _, _, rfl, .ty _, .base (.bl b), one_bool_bool, rfl, _, rfl, iteT ⟨_, rfl, rfl, _, rfl, rfl, rfl, ?_⟩⟩
      rw [decide_eq_true rfl]
      exact q _ ((same_new nt).trans (same_new nu))
    | str z =>
      cases hx; cases hy
      refine ⟨_, rfl, by show 2 ≤ sizeLine; decide, fun t nt => ⟨_, t, _, _, _, _, rfl, upd_same, cls2 _ _, .base (.str z), any_lt_str, _, rfl, iteF ?_⟩⟩
      refine ⟨_, rfl, rfl, _, rfl, iteF ⟨_, rfl, by show 2 ≤ sizeLine; decide, fun u nu => ⟨_, u, _, _, _, _, rfl, upd_same, cls2 _ _, .base (.str z), any_bs_str, _, rfl, iteT ?_⟩⟩⟩
      refine ⟨_, rfl, _, rfl, rfl, _, rfl, ?_⟩
      rw [decide_eq_true rfl]
      refine iteT ⟨_, rfl, _, _, _, _, _, rfl, .ty _, .base (.str z), one_str_bool, _, rfl, _, _, _, _, _, rfl, .ty _, .base (.str z), one_str_bool, rfl, _, rfl, iteT ⟨_, rfl, rfl, _, rfl, rfl, rfl, ?_⟩⟩
      rw [decide_eq_true rfl]
      exact q _ ((same_new nt).trans (same_new nu))
    | list ds =>
      cases hx with
      | lst hsx hax =>
      cases hy with
      | lst hsy hay =>
      rename_i a xs b ys
      have hlx := dpa_len hax
      have hly := dpa_len hay
      obtain ⟨hw1, hw2⟩ := hw
      refine ⟨_, rfl, by show 2 ≤ sizeLine; decide, fun t nt => ?_⟩
      have s1 : Same H (upd H t (.tup [.ty "list", .ty "tuple"])) := same_new nt
      have hsx1 := Same.seq s1 hsx
      have hsy1 := Same.seq s1 hsy
      refine ⟨_, t, _, _, _, _, rfl, upd_same, cls2 _ _, ty_lst hsy1, any_lt_list, _, rfl, iteT ?_⟩
      refine ⟨_, rfl, _, _, _, _, _, rfl, .ty _, ty_lst hsx1, one_list_list, _, rfl, _, _, _, _, _, rfl, .ty _, ty_lst hsy1, one_list_list, rfl, _, rfl, iteNS rfl ?_⟩
      refine ⟨_, rfl, _, _, _, _, _, rfl, .ty _, ty_lst hsx1, one_list_tuple, _, rfl, _, _, _, _, _, rfl, .ty _, ty_lst hsy1, one_list_tuple, rfl, _, rfl, iteNS rfl ?_⟩
      refine ⟨_, rfl, a, xs, rfl, .inl hsx1, _, rfl, b, ys, rfl, .inl hsy1, rfl, _, rfl, ?_⟩
      rw [decide_eq_true (show V.int (xs.length : Int) = V.int (ys.length : Int) by rw [hlx, hly])]
      refine iteT ⟨_, rfl, _, rfl, a, b, xs, ys, rfl, .inl ⟨hsx1, hsy1, fun D nD => ?_⟩⟩
      have nD0 : H D = none := s1.free nD
      refine lc_it (walk_zip (n := xs.length) (by omega)) (fun i H' => Same H H' ∧ H' D = some (.lst (List.replicate i (.bl true)))) ⟨s1.trans (same_new nD), upd_same⟩ (fun i H' _ h => ⟨Same.seq h.1 hsx, Same.seq h.1 hsy⟩) (fun i v H1 H2 hi h yy => ?_) (fun H' h => ?_)
      · obtain ⟨sm, eD⟩ := h
        obtain ⟨tp, u, v, rfl, nT, rfl, g1, g2⟩ := yy
        obtain ⟨d1, e1, f1⟩ := dpa_get hax g1
        obtain ⟨d2, e2, f2⟩ := dpa_get hay g2
        cases Option.some.inj (e1.symm.trans e2)
        have st : Same H (upd H1 tp (.tup [u, v])) := sm.trans (same_new nT)
        refine ⟨tp, _, rfl, .inl (.inl upd_same), rfl, _, _, rfl, _, _, rfl, rfl, rfl, yes_if ?_⟩
        refine ⟨_, rfl, _, rfl, u, v, d1, rfl, dp_same st f1, dp_same st f2, ?_, narrow_get hw2 e1, fun H3 s3 => ⟨_, s3 _ _ (same_new nT _ _ eD), ?_, ?_, ?_⟩⟩
        · have := depth_get e1
          have hd' : PyData.depthAll ds + 1 < n + 1 := hd
          omega
        · rw [List.length_replicate]
          exact line_big (by omega)
        · intro c o hc
          rw [upd_ne (ne_of_none hc nD0)]
          exact s3 _ _ (st _ _ hc)
        · rw [upd_same, List.replicate_succ']
      · obtain ⟨sm, eD⟩ := h
        refine ⟨D, List.replicate xs.length true, rfl, ?_, ?_⟩
        · rw [List.map_replicate]
          exact .inl (.inl eD)
        · rw [all_rep]
          exact q _ sm
    | tuple ds =>
      cases hx with
      | tup hsx hax =>
      cases hy with
      | tup hsy hay =>
      rename_i a xs b ys
      have hlx := dpa_len hax
      have hly := dpa_len hay
      obtain ⟨hw1, hw2⟩ := hw
      refine ⟨_, rfl, by show 2 ≤ sizeLine; decide, fun t nt => ?_⟩
      have s1 : Same H (upd H t (.tup [.ty "list", .ty "tuple"])) := same_new nt
      have hsx1 := same_tup s1 hsx
      have hsy1 := same_tup s1 hsy
      refine ⟨_, t, _, _, _, _, rfl, upd_same, cls2 _ _, ty_tup hsy1, any_lt_tuple, _, rfl, iteT ?_⟩
      refine ⟨_, rfl, _, _, _, _, _, rfl, .ty _, ty_tup hsx1, one_tuple_list, _, rfl, _, _, _, _, _, rfl, .ty _, ty_tup hsy1, one_tuple_list, rfl, _, rfl, iteNS rfl ?_⟩
      refine ⟨_, rfl, _, _, _, _, _, rfl, .ty _, ty_tup hsx1, one_tuple_tuple, _, rfl, _, _, _, _, _, rfl, .ty _, ty_tup hsy1, one_tuple_tuple, rfl, _, rfl, iteNS rfl ?_⟩
      refine ⟨_, rfl, a, xs, rfl, .inr hsx1, _, rfl, b, ys, rfl, .inr hsy1, rfl, _, rfl, ?_⟩
      rw [decide_eq_true (show V.int (xs.length : Int) = V.int (ys.length : Int) by rw [hlx, hly])]
      refine iteT ⟨_, rfl, _, rfl, a, b, xs, ys, rfl, .inr ⟨hsx1, hsy1, fun D nD => ?_⟩⟩
      have nD0 : H D = none := s1.free nD
      refine lc_it (walk_zipT (n := xs.length) (by omega)) (fun i H' => Same H H' ∧ H' D = some (.lst (List.replicate i (.bl true)))) ⟨s1.trans (same_new nD), upd_same⟩ (fun i H' _ h => ⟨same_tup h.1 hsx, same_tup h.1 hsy⟩) (fun i v H1 H2 hi h yy => ?_) (fun H' h => ?_)
      · obtain ⟨sm, eD⟩ := h
        obtain ⟨tp, u, v, rfl, nT, rfl, g1, g2⟩ := yy
        obtain ⟨d1, e1, f1⟩ := dpa_get hax g1
        obtain ⟨d2, e2, f2⟩ := dpa_get hay g2
        cases Option.some.inj (e1.symm.trans e2)
        have st : Same H (upd H1 tp (.tup [u, v])) := sm.trans (same_new nT)
        refine ⟨tp, _, rfl, .inl (.inl upd_same), rfl, _, _, rfl, _, _, rfl, rfl, rfl, yes_if ?_⟩
        refine ⟨_, rfl, _, rfl, u, v, d1, rfl, dp_same st f1, dp_same st f2, ?_, narrow_get hw2 e1, fun H3 s3 => ⟨_, s3 _ _ (same_new nT _ _ eD), ?_, ?_, ?_⟩⟩
        · have := depth_get e1
          have hd' : PyData.depthAll ds + 1 < n + 1 := hd
          omega
        · rw [List.length_replicate]
          exact line_big (by omega)
        · intro c o hc
          rw [upd_ne (ne_of_none hc nD0)]
          exact s3 _ _ (st _ _ hc)
        · rw [upd_same, List.replicate_succ']
      · obtain ⟨sm, eD⟩ := h
        refine ⟨D, List.replicate xs.length true, rfl, ?_, ?_⟩
        · rw [List.map_replicate]
          exact .inl (.inl eD)
        · rw [all_rep]
          exact q _ sm
theorem ok_same (T : Env K mg) : ∀ n : Nat, FnOk P w K mg base CX0 n T.f_same T.d_same ["_law_found", "_law_due"] (spSame K n)
  | 0 => fn_never fun vs H Q E h => by
    obtain ⟨x, y, d, _, _, _, hd, _⟩ := h
    exact absurd hd (Nat.not_lt_zero _)
  | n + 1 => same_step T n (ok_same T n)
end
end Pc
namespace Pc
open PySem PySem.Spec PyProof.Rows L2 RZ
/-! ### enumerate of a tuple -/
theorem draws_tuple {prog : Program} {w : World} {A : Around} (hh : A.handled = none) (it l : Addr) (hne : l ≠ it) (items : Array Value) :
    Draws prog w A it [it, l] items.size (fun i v => items[i]? = some v) (fun i h => h.IsTupleIter it l i ∧ h.IsTuple l items) where
  live i h st := by
    obtain ⟨⟨o, ho, _⟩, _⟩ := st
    exact ⟨o, ho⟩
  frame i h h' st hk := ⟨Heap.IsTupleIter.at st.1 (hk it (by simp)), Heap.IsTuple.at st.2 (hk l (by simp))⟩
  item i s Q E hi st hQ := by
    have hx : items[i]? = some items[i] := by simp [hi]
    exact nextOf_tuple_item st.1 st.2 hx fun h' hit' hs' => hQ _ h' s.toks hx ⟨hit', st.2.extBut hs'.extBut hne⟩ hs'
  done s Q E st hE := nextOf_tuple_end hh st.1 st.2 (by simp) hE
set_option maxHeartbeats 4000000 in
theorem enum_newT (l : Addr) (items : Array Value) (n : Nat) (dct : Option Addr) (sl : Array (Option Value)) :
    Meets (Builtin.«enumerate.__new__» ⟨[.type "enumerate", .ref l], []⟩) (fun _ R s =>
      s.heap.get? l = some { cls := .type "tuple", dict := dct, data := .seq items n, slots := sl } ∧
      R (.ok (.ret (.ref (s.heap.push { cls := .type "tuple_iterator", data := .fields #[.ref l, .int 0 0] }).objs.size)))
        { s with heap := Heap.push (s.heap.push { cls := .type "tuple_iterator", data := .fields #[.ref l, .int 0 0] }) { cls := .type "enumerate", data := .fields #[.none, .bool false, .ref s.heap.objs.size, rawInt 0, .none, .none] } }) := by
  refine .of_wp fun prog w A R s h => ?_
  obtain ⟨hp, g, d, tk, os⟩ := s
  obtain ⟨hl, h⟩ := h
  have subE := sub_enumerate
  have isT : Heap.IsTuple (Shared.heap ⟨hp, g, d, tk, os⟩) l items := ⟨_, hl, rfl, n, rfl⟩
  wp_walk using AutoSeq1.wpAny_loadPart' hl
  refine wpAny_stack_any fun st => wpAny_pure ?_
  split
  · rename_i c _ _ _ _ _
    cases (c == Value.type "enumerate") <;> (wp_walk using AutoSeq1.wpAny_loadPart' hl, wpAny_pyIter_tuple isT; exact ⟨_, rfl, h⟩)
  · wp_walk using AutoSeq1.wpAny_loadPart' hl, wpAny_pyIter_tuple isT
    exact ⟨_, rfl, h⟩
theorem call_enumT {prog : Program} {w : World} {A : Around} {E : Value → Shared → Prop} {s : Shared} {l : Addr} {items : Array Value} {Q : Value → Shared → Prop} (hL : s.heap.IsTuple l items)
    (h : ∀ h', IsEnum h' (s.heap.objs.size + 1) s.heap.objs.size 0 .none → h'.IsTupleIter s.heap.objs.size l 0 →
      (∀ b o, s.heap.get? b = some o → h'.get? b = some o) → Q (.ref (s.heap.objs.size + 1)) { s with heap := h' }) :
    wpAny (model prog w) A (call (.type "enumerate") [.ref l]) Q E s := by
  obtain ⟨⟨c, dct, dt, sl⟩, hl, hc, n, hd⟩ := hL
  have hc' : c = .type "tuple" := hc
  have hd' : dt = .seq items n := hd
  subst hc' hd'
  refine callType_new F.called_enumerate (by decide) (F.typeCall_enumerate_1 _) (F.newCall_enumerate_1 _) (fun obj => F.args_object_init_2 obj _) F.entry_enumerate_new (enum_newT l items n dct sl) ⟨hl, ?_⟩
  have hz : (s.heap.push { cls := .type "tuple_iterator", data := .fields #[.ref l, .int 0 0] }).objs.size = s.heap.objs.size + 1 := Heap.size_push ..
  have he := Heap.get?_push_size (s.heap.push { cls := .type "tuple_iterator", data := .fields #[.ref l, .int 0 0] })
    (o := { cls := .type "enumerate", data := .fields #[.none, .bool false, .ref s.heap.objs.size, rawInt 0, .none, .none] }) rfl
  rw [hz] at he
  show _ ∧ _
  rw [hz]
  exact ⟨⟨_, he, rfl⟩, h _ he ⟨{ cls := .type "tuple_iterator", data := .fields #[.ref l, .int 0 0] }, Heap.get?_push_of_some _ (Heap.get?_push_size _ rfl), rfl, rfl⟩ fun b o x => Heap.get?_push_of_some _ (Heap.get?_push_of_some _ x)⟩
/-- the tuple at a, its items in new pairs with their places -/
def IteT (K : PySem.W.Frag) (a : Addr) : It where
  go i H := ∃ (xs : List V) (x : V), SqT K H a xs ∧ xs[i]? = some x
  yld i H v H' := ∃ T x, v = .ref T ∧ H T = none ∧ H' = upd H T (.tup [.int (i : Nat), x]) ∧ ∀ xs, SqT K H a xs → xs[i]? = some x
  stop i H := ∃ xs : List V, SqT K H a xs ∧ xs.length ≤ i
theorem turn_enumT {P : Program} {w : World} {K : PySem.W.Frag} {elts : List Expr} {kk : Nat} {tpos : Pos} (a e it : Addr) (hei : e ≠ it) (hae : a ≠ e) (hai : a ≠ it) :
    Turn P w K (.Tuple elts kk tpos) (IteT K a) [e, it] e (fun i h => (∃ old, IsEnum h e it ((i : Nat) : Int) old) ∧ h.IsTupleIter it a i) where
  mem := by simp
  obj i h st b hb := by
    obtain ⟨⟨old, he⟩, ⟨o, ho, hc, hd⟩⟩ := st
    rcases (show b = e ∨ b = it by simpa using hb) with z | z
    · rw [z]; exact ⟨_, he, fun v q => nomatch q⟩
    · rw [z]; exact ⟨o, ho, fun v q => by rw [hd] at q; cases q⟩
  keep i h h' st k := by
    obtain ⟨⟨old, he⟩, hi⟩ := st
    exact ⟨⟨old, k e (by simp) _ he⟩, hi.at fun o q => k it (by simp) o q⟩
  item := by
    intro X hP hw hK hc i pins s σ H E I hf st hg
    subst hP hw hK
    obtain ⟨⟨old, he⟩, hit⟩ := st
    obtain ⟨xs, x, hq, hx⟩ := hg
    obtain ⟨its, rv, p, hz⟩ := I.tuple hq
    have p2 : s.heap.IsTuple a its.toArray := p
    obtain ⟨u, hu, ru⟩ := rv.get hx
    have hlt : i < its.toArray.size := by
      rw [List.size_toArray]
      exact get_lt hu
    have D := draws_tuple (prog := X.prog) (w := X.w) (A := X.A.in1) (show X.A.in1.handled = none from I.ok.hd hc) it a hai its.toArray
    have hel : e < s.heap.objs.size := Heap.lt_size he
    have hil : it < s.heap.objs.size := by obtain ⟨_, q, _⟩ := hit; exact Heap.lt_size q
    refine wpAny_pyNext_enum_itemD D he ⟨hit, p2⟩ hlt hei (by simp [hei, hae.symm]) fun y h' tk hy ho hst hT hsz hk => ?_
    have ey : y = u := by
      have : its.toArray[i]? = some y := hy
      rw [List.getElem?_toArray, hu] at this
      exact (Option.some.inj this).symm
    subst ey
    refine ⟨_, rfl, wpAny_letOwnedTupleGo_enum (s := { s with heap := h', toks := tk + 1 }) ho fun h'' he' sb => ?_⟩
    have hT2 : h''.get? s.heap.objs.size = some { cls := .type "tuple", data := .seq #[.int i tk, y] } := (sb.2 _ (Nat.ne_of_gt hel)).trans hT
    have new : ObjOk X.prog X.w (upd H s.heap.objs.size (.tup [.int (i : Nat), x])) h'' s.heap.objs.size (.tup [.int (i : Nat), x]) :=
      ⟨by show 2 ≤ sizeLine; decide, [.int i tk, y], .cons ⟨_, rfl⟩ (.cons ru .nil), ⟨_, hT2, rfl, _, rfl⟩⟩
    have I1 := I.turnedNew (t' := tk + 1) (h' := h'') (ch := [e, it]) (fun b ob hb q => (sb.2 b (fun z => hb (by simp [z]))).trans (hk b ob (fun z => hb (by simp [z])) (fun z => hb (by simp [z])) q)) hf (Nat.le_refl _) new
    refine ⟨.ref s.heap.objs.size, _, I1, rfl, ⟨_, x, rfl, I.hok.fresh (Nat.le_refl _), rfl, fun ys hy => by rw [I.tuple_inj hy hq]; exact hx⟩, ⟨⟨y, ?_⟩, hst.1.at fun o q => (sb.2 it hei.symm).trans q⟩, fun b hb => ?_⟩
    · rw [show ((i + 1 : Nat) : Int) = (i : Int) + 1 by omega]; exact he'
    · have hb' : b < s.heap.objs.size := by
        rcases (show b = e ∨ b = it by simpa using hb) with z | z
        · rw [z]; exact hel
        · rw [z]; exact hil
      rw [upd_ne (Nat.ne_of_lt hb')]
      exact (hf b hb).1
  done := by
    intro X hP hw hK hc i pins s σ H E I hf st hg
    subst hP hw hK
    obtain ⟨⟨old, he⟩, hit⟩ := st
    obtain ⟨xs, hq, hx⟩ := hg
    obtain ⟨its, rv, p, hz⟩ := I.tuple hq
    have p2 : s.heap.IsTuple a its.toArray := p
    obtain ⟨f0, f1, f2, f3, f4, f5⟩ := hf it (by simp)
    have hl := rv.length
    have hT : s.TypeIs (.ref e) "enumerate" := ⟨_, he, rfl⟩
    unfold pyNext
    refine wpAny_bind (wpAny_attempt (wpAny_callSpecial?_slot (name := Str.ofString "__next__") hT F.slot_enumerate_next (wpAny_call_entry F.slot_enumerate_next hT F.entry_enumerate_next ?_ (F.args_enumerate_next_1 _))))
    show wpAny _ _ (field (.ref e) 2 >>= _) _ _ _
    refine wpAny_bind (wpAny_field he rfl (x := .ref it) rfl ?_)
    refine wpAny_bind (nextOf_tuple_end (show X.A.in1.handled = none from I.ok.hd hc) hit p2 (by simp; omega) fun h' x he' hx' => ?_)
    obtain ⟨o, ho, hcl⟩ := hx'
    refine wpAny_bind (wpAny_isInstance (T := "StopIteration") (b := true) ⟨o, ho, hcl⟩ isSubtype_stop ?_)
    exact wpAny_pure ⟨rfl, I.turned (t' := s.toks) (fun b o hb q => he' b o hb q) f0 f1 f3 f4 f5⟩
  self A i s Q E st h := by
    obtain ⟨⟨_, he⟩, _⟩ := st
    exact wpAny_pyIter_enum he h
/-- enumerate of a list or a tuple -/
def iEnumA (K : PySem.W.Frag) (ta : TA) : TI := fun σ H R => ta σ H fun vs H1 => ∃ a xs, vs = [.ref a] ∧ ((SqL K H1 a xs ∧ R (Ite K a) H1) ∨ (SqT K H1 a xs ∧ R (IteT K a) H1))
theorem pi_enumA {X : Cx} {e : Expr} {ta : TA} {p pos tpos : Pos} {elts : List Expr} {kk : Nat} (hg : Gl X "enumerate") (hm : X.mg "enumerate" = none) (ha : PA X [e] ta) (hs : starEach [e] X.env = [(false, eval e X.env)] := by rfl) :
    PI X (.Tuple elts kk tpos) (.Call (.Name "enumerate" p) [e] [] pos) (iEnumA X.K ta) := by
  constructor
  intro pins s σ H R I h
  refine Call_ (ld_blt I hg hm boot_enumerate (callWith_type1 (thn (ha.run pos pins s σ H _ I h) fun us s1 r => ?_) hs rfl))
  obtain ⟨vs, H1, I1, r1, a, xs, ex, q1⟩ := r
  subst ex
  cases r1 with
  | cons r rr =>
    cases rr
    cases r
    have fr : ∀ b, b ∈ [s1.heap.objs.size + 1, s1.heap.objs.size] → FpOk X pins H1 b := fun b hb => by
      have hle : s1.heap.objs.size ≤ b := by
        rcases (show b = s1.heap.objs.size + 1 ∨ b = s1.heap.objs.size by simpa using hb) with z | z <;> omega
      exact I1.fpOk hle (I1.hok.fresh hle)
    rcases q1 with ⟨hq, q⟩ | ⟨hq, q⟩
    · obtain ⟨its, rv, p', hz⟩ := I1.list hq
      refine call_enumerate_list p'.isList fun h' he hit _ hk => wpAny_pyIter_enum he ?_
      exact ⟨_, _, _, _, H1, rfl, I1.kept (t' := s1.toks) hk, turn_enum a (s1.heap.objs.size + 1) s1.heap.objs.size, ⟨⟨.none, he⟩, hit, Nat.succ_ne_self _⟩, fr, q⟩
    · obtain ⟨its, rv, p', hz⟩ := I1.tuple hq
      have p2 : s1.heap.IsTuple a its.toArray := p'
      have hlt : a < s1.heap.objs.size := by obtain ⟨o, ho, _⟩ := p2; exact Heap.lt_size ho
      refine call_enumT p2 fun h' he hit hk => wpAny_pyIter_enum he ?_
      exact ⟨_, _, _, _, H1, rfl, I1.kept (t' := s1.toks) hk, turn_enumT a (s1.heap.objs.size + 1) s1.heap.objs.size (Nat.succ_ne_self _) (Nat.ne_of_lt (Nat.lt_succ_of_lt hlt)) (Nat.ne_of_lt hlt), ⟨⟨.none, he⟩, hit⟩, fr, q⟩
theorem walk_enumT {K : PySem.W.Frag} {a : Addr} {xs : List V} : Walk (IteT K a) xs.length (fun H => SqT K H a xs) (YPair (fun i => some (.int (i : Nat))) (fun i => xs[i]?)) where
  goes i H hi q := by
    obtain ⟨x, hx⟩ := get_some hi
    exact ⟨xs, x, q, hx⟩
  stops H q := ⟨xs, q, Nat.le_refl _⟩
  yields i H v H' hi q y := by
    obtain ⟨T, x, h1, h2, h3, h4⟩ := y
    exact ⟨T, .int (i : Nat), x, h1, h2, h3, rfl, h4 xs q⟩
end Pc
namespace Pc
open PySem PySem.Spec PyProof.Rows L2 RZ
/-! ### t[::-1] of a pair -/
section
variable {prog : Program} {w : World} {A : Around} {E : Value → Shared → Prop} {s : Shared}
theorem applied_rev2 {sl : Addr} {vk : Value} {Q : Int × Int × Nat → Shared → Prop} (hs : s.heap.IsSliceOf sl .none .none vk) (pk : IsPart vk (some (-1))) (h : Q (1, -1, 2) s) :
    wpAny (model prog w) A (Builtin.Slice.sliceApplied (.ref sl) (pure (2 : Int))) Q E s := by
  obtain ⟨os, hos, hcs, hds⟩ := id hs
  unfold Builtin.Slice.sliceApplied Builtin.Slice.sliceFields
  refine wpAny_bind (wpAny_bind (wpAny_field hos hds (x := .none) rfl ?_))
  refine wpAny_bind (wpAny_field hos hds (x := .none) rfl ?_)
  refine wpAny_bind (wpAny_field hos hds (x := vk) rfl (wpAny_pure ?_))
  refine wpAny_bind (HT.slicePart_ pk ?_)
  show wpAny _ _ (if ((-1 : Int) == 0) = true then _ else _) _ _ s
  rw [if_neg (by decide)]
  refine wpAny_bind (HT.slicePart_ .none (wpAny_bind (HT.slicePart_ .none (wpAny_bind (wpAny_pure ?_)))))
  exact wpAny_pure h
theorem item_rev2 {t sl : Addr} {u v vk : Value} {Q : Value → Shared → Prop} (ht : IsTup s.heap t #[u, v]) (hs : s.heap.IsSliceOf sl .none .none vk) (pk : IsPart vk (some (-1)))
    (h : Q (.ref s.heap.objs.size) { s with heap := s.heap.push { cls := .type "tuple", data := .seq #[v, u] } }) : wpAny (model prog w) A (getItem (.ref t) (.ref sl)) Q E s := by
  obtain ⟨os, hos, hcs, hds⟩ := id hs
  have hTs : s.TypeIs (.ref sl) "slice" := ⟨os, hos, hcs⟩
  unfold getItem
  try with_reducible refine wpAny_holding ?_
  first | refine wpAny_bind (wpAny_pure ?_) | skip
  refine wpAny_bind (wpAny_sequenceKey ht.typeIs (by decide) ?_)
  refine wpAny_bind (wpAny_callSpecial?_slot (name := Str.ofString "__getitem__") ht.typeIs PyProof.Rows.slot_tuple_getitem (wpAny_call_entry PyProof.Rows.slot_tuple_getitem ht.typeIs entry_tuple_getitem ?_ (args_tuple_getitem _ _)))
  show wpAny _ _ (Builtin.Tuple.tupleItemsOf (.ref t) >>= _) _ _ s
  refine wpAny_bind (tupleItemsOf_ ht ?_)
  refine wpAny_bind (wpAny_typeOf hTs ?_)
  rw [if_pos (by decide)]
  refine wpAny_bind (applied_rev2 hs pk ?_)
  show wpAny _ _ (if ((1 : Int) == 0 && (-1 : Int) == 1 && (2 : Nat) == 2) = true then _ else _) _ _ s
  rw [if_neg (by decide)]
  have e : ((List.range 2).filterMap fun (k : Nat) => (#[u, v] : Array Value)[((1 : Int) + (k : Int) * -1).toNat]?).toArray = #[v, u] := rfl
  rw [e]
  have hz : sizeOk (.seq (#[v, u] : Array Value)) := by show 2 ≤ sizeLine; decide
  first
    | exact wpAny_bind (m := Builtin.Tuple.tupleExact _) (wpAny_newObj_type (wpAny_pure ⟨_, rfl, wpAny_pure h⟩) hz)
    | exact wpAny_bind (wpAny_bind (m := Builtin.Tuple.tupleExact _) (wpAny_newObj_type (wpAny_pure (wpAny_pure ⟨_, rfl, wpAny_pure h⟩)) hz))
    | exact wpAny_bind (wpAny_bind (m := Builtin.Tuple.tupleExact _) (wpAny_newObj_type (wpAny_pure ⟨_, rfl, wpAny_pure h⟩) hz))
    | exact wpAny_bind (m := Builtin.Tuple.tupleExact _) (wpAny_newObj_type (wpAny_bind (wpAny_pure (wpAny_pure ⟨_, rfl, wpAny_pure h⟩))) hz)
end
def tRev2 (K : PySem.W.Frag) (te : TE) : TE := fun σ H Q => te σ H fun x H1 => ∃ a y z, x = .ref a ∧ SqT K H1 a [y, z] ∧ ∀ p, H1 p = none → Q (.ref p) (upd H1 p (.tup [z, y]))
theorem pe_rev2 {X : Cx} {e : Expr} {te : TE} {k : Nat} {p1 p2 p3 pos : Pos} (he : PE X e te) : PE X (.Subscript e (.Slice none none (some (.UnaryOp .USub (.Constant (.int 1) k p1) p2)) p3) pos) (tRev2 X.K te) := by
  constructor
  intro pins s σ H Q I h
  refine Subscript_ (thn (he.run pins s σ H _ I h) fun v s1 r => ?_)
  obtain ⟨x, H1, I1, r1, a, y, z, ex, hx, q⟩ := r
  subst ex
  cases r1
  have hst : PO X (some (.UnaryOp .USub (.Constant (.int 1) k p1) p2)) (tPart (tUn (rU fun i => .int (-i)) (tC (.int 1)))) := po_some (pe_un un_neg pe_int)
  refine wpAny_Slice (thn (po_none.run pins s1 σ H1 (fun o H2 => o = none ∧ H2 = H1) I1 ⟨rfl, rfl⟩) fun vl s2 ⟨l, H2, I2, pl, el, e2⟩ => ?_)
  subst el e2
  refine thn (po_none.run pins s2 σ H2 (fun o H3 => o = none ∧ H3 = H2) I2 ⟨rfl, rfl⟩) fun vu s3 ⟨u, H3, I3, pu, eu, e3⟩ => ?_
  subst eu e3
  refine thn (hst.run pins s3 σ H3 (fun o H4 => o = some (-1) ∧ H4 = H3) I3 ⟨1, rfl, -1, rfl, rfl, rfl⟩) fun vs s4 ⟨o, H4, I4, ps, eo, e4⟩ => ?_
  subst eo e4
  cases pl
  cases pu
  have I5 : Inv X pins σ H4 { s4 with heap := s4.heap.push { cls := .type "slice", data := .fields #[.none, .none, vs] } } := I4.kept (t' := s4.toks) fun b ob q => Heap.get?_push_of_some _ q
  obtain ⟨its, r, ht, hz⟩ := I5.tuple hx
  obtain ⟨w1, w2, ei, r1, r2⟩ := vals2 r
  subst ei
  show wpAny (model X.prog X.w) X.A (subscriptTail e (.Slice none none (some (.UnaryOp .USub (.Constant (.int 1) k p1) p2)) p3) (.ref a) (.ref s4.heap.objs.size)) (EP X pins σ Q) X.xe _
  refine tail_any (ops := [.ref a, .ref s4.heap.objs.size]) ht.typeIs PyProof.Rows.slot_tuple_getitem.lookup ?_ (by with_unfolding_all rfl)
  refine item_rev2 ht (Heap.IsSliceOf.new _ .none .none vs) ps ?_
  refine ⟨.ref _, _, I5.laid (t' := s4.toks) (o := .tup [z, y]) (fun b ob q => Heap.get?_push_of_some _ q) (Nat.le_refl _) ?_, rfl, q _ (I5.hok.fresh (Nat.le_refl _))⟩
  exact ⟨by show 2 ≤ sizeLine; decide, [w2, w1], .cons r2 (.cons r1 .nil), IsTup.new _ _⟩
end Pc
namespace Pc
open PySem PySem.Spec PyProof.Rows L2 RZ
/-! ### defs that run where no repr is under way (repr asks for that) -/
structure FnG (P : Program) (w : World) (K : PySem.W.Frag) (mg : Str → Option Value) (base : Heap) (CX : CXT) (k : Nat) (f : Addr) (fd : FuncData) (ps : List Str) (sp : Sp) : Prop where
  len : ∀ vs H Q E, sp vs H Q E → vs.length = ps.length
  run : ∀ (A : Around) (outer : List PySem.Env) (s : Shared) (H : Hp) (args : Args) (us : List Value) (vs : List V) (Q : VK) (E : XK), Room k A → A.guards = some [] → Env0 P w K mg base A outer s H →
    BindsTo s fd args (ps.zip us) → Vals vs us → sp vs H Q E → codeAny (model P w) A (.call (.ref f) args) (CR CX outer P w H s Q E) s
section
variable {P : Program} {w : World} {K : PySem.W.Frag} {mg : Str → Option Value} {base : Heap}
theorem fun_g {x qual : Str} {st : Stmt} {f : Addr} {fd : FuncData} {N ps : List Str} {k : Nat} {sp : Sp} (F : Fun K x qual st f fd) (S : FnScope N ps (defScope st)) (len : ∀ vs H Q E, sp vs H Q E → vs.length = ps.length)
    (hbody : ∀ (cdv : Value) (A : Around) (outer : List PySem.Env) (s : Shared) (H : Hp) (vs : List V) (Q : VK) (E : XK), Room k (A.deeper (envOfC qual (defScope st) s.heap.objs.size f cdv)) → A.guards = some [] → sp vs H Q E →
      ∃ t, PSs (cxOf CX0 P w K mg base N qual (defScope st) f cdv A outer s H E).nox (defBody st) t ∧ t { nx := fun _ H' => Q .non H', rt := Q } (start N vs) H) : FnG P w K mg base CX0 (k + 1) f fd ps sp := by
  obtain ⟨oc, od, kV, doc, pm, an, cdv, ct, osl, rfl, lk, hcd⟩ := F.ex
  constructor
  · exact len
  intro A outer s H args us vs Q E hr hgd e0 hb r hsp
  have hl := len _ _ _ _ hsp
  have up : ∀ b o, base.get? b = some o → s.heap.get? b = some o := fun b o e => (e0.bs b o e).1
  have KX : K.In s.heap := e0.mod.kin.keeps up
  have lim : s.heap.NoLimit := e0.mod.nolimit.keeps up
  obtain ⟨t, ht, hq⟩ := hbody cdv A outer s H vs Q E (hr.deeper _) hgd hsp
  refine codeAny_call_function hr.depth (KX _ _ lk) rfl S.co S.gen rfl (PySem.W.codeRec_of KX hcd) (hb _ _ _ _ ?_)
  refine wpAny_newFunctionEnv_cells S.kind ?_ ?_
  · rintro ⟨n, v⟩ hy
    rcases S.par n (List.of_mem_zip hy).1 with z | z
    · exact Or.inl z
    · exact Or.inr ⟨z, PySem.W.cellsFrom_some _ _ _ (Or.inl z)⟩
  intro env he s1 x
  subst he
  refine ⟨lim.keeps x.toInCall.keep, codeAny_func ?_⟩
  have I := inv_start (CX := CX0) (E := E) S hr.hd e0 hl r x
  refine wpAny_mono (ht.nox.run [] s1 (start N vs) H _ I hq) ?_ (fun _ _ z => z)
  intro fl s' hs
  cases fl with
  | brk => obtain ⟨_, _, _, z⟩ := hs; exact z.elim
  | cont => obtain ⟨_, _, _, z⟩ := hs; exact z.elim
  | next =>
    obtain ⟨σ', H', J, z⟩ := hs
    exact ⟨V.non, H', J.os, J.bare, J.base, J.hok, rfl, z⟩
  | ret u =>
    obtain ⟨v, σ', H', J, rv, z⟩ := hs
    exact ⟨v, H', J.os, J.bare, J.base, J.hok, rv, z⟩
end
section
variable {X : Cx} {CX : CXT} {k : Nat} {f : Addr} {fd : FuncData} {ps : List Str} {sp : Sp} {x : Str} {e : Expr} {es : List Expr} {ds : List Value} {dvs : List V} {E : XK} {t : TA} {p pos : Pos}
theorem pe_callG (F : FnG X.prog X.w X.K X.mg X.base CX k f fd ps sp) (hr : Room k X.A) (hgd : X.A.guards = some []) (hg : Gl X x) (hm : X.mg x = some (.ref f)) (hk : PySem.W.keepIn X.K (.ref f) = true) (hb : Binds X.K fd ps ds) (hd : Vals dvs ds) (hx : Passes CX X E)
    (ha : PA X (e :: es) t) (hdb : (x == ("__debug__" : Str)) = false := by decide) (he : starEach (e :: es) X.env = (false, eval e X.env) :: starEach es X.env := by rfl) (hpl : (backTo pos (starEach es X.env)).any (·.1) = false := by rfl) :
    PE X (.Call (.Name x p) (e :: es) [] pos) (tCall sp dvs E t) := by
  constructor
  intro pins s σ H Q I h
  refine wpAny_Call_Name_kw (ld_glob I hg hm ?_ hdb)
  refine PySem.W.callWith_K (h₀ := X.base) I.ok.mod.kin hk (thn (ha.run pos pins s σ H _ I h) ?_) he hpl
  rintro us s1 ⟨vs, H1, I1, r, q⟩
  refine ⟨I1.kIn, ?_⟩
  have r2 : Vals (vs ++ dvs) (us ++ ds) := r.append hd
  have hl : (us ++ ds).length = ps.length := by
    rw [← r2.length]
    exact F.len _ _ _ _ q
  refine wpAny_call (codeAny_mono (F.run X.A X.stack s1 H1 ⟨us, []⟩ (us ++ ds) (vs ++ dvs) Q E hr hgd I1.env0 (hb s1 us I1.kIn hl) r2 q) ?_)
  intro res s' hq
  cases res with
  | error e => exact hx pins σ H1 s1 e s' I1 hq
  | ok fl =>
    cases fl with
    | ret u => exact I1.after hq
    | next => exact hq.elim
    | brk => exact hq.elim
    | cont => exact hq.elim
end
/-! ### the law's own call, where no repr is under way -/
theorem law_g {P : Program} {w : World} {K : PySem.W.Frag} {mg mb : Str → Option Value} {CX : CXT} {k : Nat} {fa a : Addr} {fd : FuncData} {x : Str} {sp : Sp} {s₁ : Shared} {vs : List Value} {ns : List Int}
    (KX : K.In s₁.heap) (hns : s₁.heap.Ns mainGlobals mg) (hb : s₁.heap.Ns builtinsNs mb) (hbb : ∀ x : Str, x ≠ "__name__" → mb x = bootBuiltins x) (hlim : s₁.heap.NoLimit) (hg : s₁.gens = #[])
    (ha : s₁.heap.get? a = some { cls := .type "list", data := .seq vs.toArray }) (hi : IntsAre vs ns) (hl : ns.length ≤ sizeLine) (hr : Room k callerA)
    (F : ∀ base : Heap, K.In base → base.Ns mainGlobals mg → FnG P w K mg base CX k fa fd [x] sp) (hbind : ∀ (s : Shared) (u : Value), BindsTo s fd ⟨[u], []⟩ [(x, u)])
    (hsp : ∀ H : Hp, SqL K H a (ns.map V.int) → sp [.ref a] H (fun v _ => v = .bl true) fun _ _ _ => False)
    (hCX : ∀ H e s', CX [] H s₁ (fun _ _ _ => False) e s' → False) :
    codeAny (model P w) callerA (.call (.ref fa) ⟨[.ref a], []⟩) (fun r s' => r = .ok (.ret (.bool true)) ∧ OldK s₁.heap s'.heap ∧ s'.os = s₁.os ∧ AllBare s'.gens) s₁ := by
  have rv := vals_ints hi
  have len0 := hi.length
  let lo : Obj := { cls := .type "list", data := .seq vs.toArray }
  have main : ∀ H : Hp, SqL K H a (ns.map V.int) → HOk P w H s₁.heap → (∀ b u, H b = some u → b = a ∧ u = .frz lo (.lst (ns.map V.int)) ∧ K.lookup a = none) →
      codeAny (model P w) callerA (.call (.ref fa) ⟨[.ref a], []⟩) (fun r s' => r = .ok (.ret (.bool true)) ∧ OldK s₁.heap s'.heap ∧ s'.os = s₁.os ∧ AllBare s'.gens) s₁ := by
    intro H hS hok hA
    have free : ∀ {b : Addr} {o : Obj}, s₁.heap.get? b = some o → (∀ n, o.data ≠ .seq vs.toArray n) → H b = none := by
      intro b o e d
      cases z : H b with
      | none => rfl
      | some u =>
        obtain ⟨rfl, _⟩ := hA b u z
        rw [ha] at e
        cases e
        exact absurd rfl (d _)
    have nsK : ∀ {b : Addr} {m : Str → Option Value}, s₁.heap.Ns b m → (hidT s₁.heap H).Ns b m := by
      rintro b m ⟨o, es, ep, e, d, r⟩
      exact ⟨o, es, ep, hidT_get e (free e fun n => by rw [d]; exact fun z => nomatch z), d, r⟩
    have hKb : K.In (hidT s₁.heap H) := by
      intro b o e
      refine hidT_get (KX b o e) ?_
      cases z : H b with
      | none => rfl
      | some u =>
        obtain ⟨rfl, _, hn⟩ := hA b u z
        rw [hn] at e
        cases e
    obtain ⟨mc, l1, l2⟩ := hlim
    have e0 : Env0 P w K mg (hidT s₁.heap H) callerA [] s₁ H :=
      { frames := rfl, mod := ⟨hKb, nsK hns, ⟨mb, nsK hb, hbb⟩, ⟨mc, nsK l1, l2⟩⟩, bs := fun b o e => of_hidT e, bsz := Nat.le_of_eq (hidT_size _ _), funs := trivial, frf := fun b hb => absurd (show b ∈ ([] : List Addr) from hb) (by simp), hok := hok, bare := .of_eq hg }
    have R := (F _ hKb (nsK hns)).run callerA [] s₁ H ⟨[.ref a], []⟩ [.ref a] [.ref a] _ _ hr rfl e0 (hbind s₁ (.ref a)) (.cons rfl .nil) (hsp H hS)
    refine codeAny_mono R ?_
    intro res s' h
    cases res with
    | error e => exact (hCX H e s' h).elim
    | ok fl =>
      cases fl with
      | next => exact h.elim
      | brk => exact h.elim
      | cont => exact h.elim
      | ret u =>
        obtain ⟨v, H', os, bare, un, hok', r', q⟩ := h
        have q' : v = .bl true := q
        subst q'
        obtain rfl : u = Value.bool true := r'
        refine ⟨rfl, OldK.of_keep ?_, os, bare⟩
        intro b o e
        cases z : H b with
        | none => exact un.keep b o e z (fun y => absurd (show b ∈ ([] : List Addr) from y) (by simp)) (by simp)
        | some u =>
          obtain ⟨rfl, rfl, _⟩ := hA b u z
          obtain ⟨g1, _⟩ := hok _ _ z
          obtain ⟨g2, _⟩ := hok' _ _ (un.frzs _ lo _ z)
          rw [e] at g1
          cases g1
          exact g2
  cases hk : K.lookup a with
  | some o =>
    have e := KX a o hk
    rw [ha] at e
    cases e
    refine main (fun _ => none) ?_ (fun b u z => nomatch z) (fun b u z => nomatch z)
    exact Or.inr ⟨_, vs.toArray, _, hk, rfl, rfl, rfl, by rw [List.size_toArray, len0]; exact hl, by simpa using rv⟩
  | none =>
    have sp1 : ∀ b u, (upd (fun _ => none) a (.frz lo (.lst (ns.map V.int)))) b = some u → b = a ∧ u = .frz lo (.lst (ns.map V.int)) ∧ K.lookup a = none := by
      intro b u z
      by_cases hba : b = a
      · subst hba
        rw [upd_same] at z
        exact ⟨rfl, (Option.some.inj z).symm, hk⟩
      · rw [upd_ne hba] at z
        cases z
    refine main (upd (fun _ => none) a (.frz lo (.lst (ns.map V.int)))) (Or.inl (Or.inr ⟨lo, upd_same⟩)) ?_ sp1
    intro b u z
    obtain ⟨rfl, rfl, _⟩ := sp1 b u z
    exact ⟨ha, by rw [List.length_map]; exact hl, vs, _, rv, ha⟩
theorem walk_g {l : PySem.W.OpenLaw} {n k : Nat} {q : Program} {loose : List Str} {XP : (Str → Option Value) → Heap → Prop} {YP : World → Heap → Prop} {d : DefRec} {K : Params → PySem.W.Frag} {sp : World → Sp} {x : Str}
    (hn : l.most = some n) (hn2 : n ≤ sizeLine) (hdf : d.params.defaults = []) (hr : Room k callerA) (hY : ∀ (w : World) (h : Heap), YP w h → (K w.params).In h)
    (F : ∀ (w : World) (mg : Str → Option Value) (fa : Addr) (h : Heap), (K w.params).In h → h.Ns mainGlobals mg → mg d.name = some (.ref fa) →
      ∃ fd : FuncData, (∀ (s : Shared) (u : Value), BindsTo s fd ⟨[u], []⟩ [(x, u)]) ∧ ∀ base : Heap, (K w.params).In base → base.Ns mainGlobals mg → FnG l.prog w (K w.params) mg base CX0 k fa fd [x] (sp w))
    (hsp : ∀ (w : World) (H : Hp) (a : Addr) (ns : List Int), ns.length ≤ n → SqL (K w.params) H a (ns.map V.int) → sp w [.ref a] H (fun v _ => v = .bl true) fun _ _ _ => False) :
    PySem.W.WalkO q loose XP YP l.row.toRowW d [] (fun f vs => PySem.call f vs) := by
  refine Att.attach_call hn hdf ?_
  intro w s₀ s₁ mg mb fa o pm cd doc a vs ns G Y ho hd hcd hmg hobj hints hlen hg
  obtain ⟨fd, hb, hF⟩ := F w mg fa _ (hY w _ Y) G.T.g hmg
  exact law_g (hY w _ Y) G.T.g G.T.b G.T.builtins G.T.nolimit hg hobj hints (Nat.le_trans hlen hn2) hr hF hb (fun H hS => hsp w H a ns hlen hS) fun _ _ _ z => z
/-! ### repr of data -/
theorem call_reprD {X : Cx} (hgd : X.A.guards = some []) (hu : X.A.units + 64 < cLine) : CallR X (.builtin "repr") (fun xs H Q => ∃ (a : Addr) (d : PyData), xs = [.ref a] ∧ Dp X.K H (.ref a) d ∧ d.canLay0 = true ∧ d.showable = true ∧ d.depth ≤ 60 ∧ d.shown.length ≤ sizeLine ∧ Q (.str d.shown) H) := by
  intro pins s σ H xs us Q I r h
  obtain ⟨a, d, rfl, hd, hl, hs, hdp, hz, q⟩ := h
  obtain ⟨u, rfl, ru⟩ := vals1 r
  cases ru
  obtain ⟨as, rd⟩ := Dp.reads I d (.ref a) (.ref a) hd rfl
  refine repr_of_reads' rd hs (PyData.noDict_hsm (PyData.hasDict_of_canLay d hl)) hgd (by omega) (fun _ _ e => e) ?_ hz
  intro h' u tk hk
  exact ⟨.str d.shown, H, I.kept (t' := tk) hk, ⟨u, rfl⟩, q⟩
end Pc
namespace Pc
open PySem PySem.Spec PyProof.Rows L2 RZ
/-! ### data of small size: its depth is at most k, its text has at most m signs -/
structure Fine (k m : Nat) (d : PyData) : Prop where
  lay : d.canLay0 = true
  show_ : d.showable = true
  depth : d.depth ≤ k
  nar : narrow d
  len : d.shown.length ≤ m
theorem Fine.mono {k m k' m' : Nat} {d : PyData} (h : Fine k m d) (hk : k ≤ k') (hm : m ≤ m') : Fine k' m' d := ⟨h.lay, h.show_, Nat.le_trans h.depth hk, h.nar, Nat.le_trans h.len hm⟩
theorem Fine.shaped {k m : Nat} {d : PyData} (h : Fine k m d) (hk : k ≤ 64) : SeqAt.shaped d = true := by
  unfold SeqAt.shaped
  rw [Bool.and_eq_true]
  exact ⟨h.lay, decide_eq_true (Nat.le_trans h.depth hk)⟩
theorem str_len (t : String) : (Str.ofString t).length = t.length := by
  rw [Str.ofString_eq_toList]
  show (t.toList.map Char.toNat).toArray.size = t.length
  rw [List.size_toArray, List.length_map, String.length_toList]
theorem log_lt {i : Int} {k : Nat} (h : i.natAbs < 2 ^ k) (hk : 0 < k) : i.natAbs.log2 < k := by
  by_cases h0 : i.natAbs = 0
  · rw [h0]; exact hk
  · exact (Nat.log2_lt h0).mpr h
theorem fine_int {i : Int} (h : i.natAbs < 2 ^ 60) : Fine 0 61 (.int i) := by
  have hl := log_lt h (by decide)
  refine ⟨rfl, decide_eq_true (Nat.lt_of_lt_of_le hl (by decide)), Nat.le_refl _, trivial, ?_⟩
  show (Str.ofString (toString i)).length ≤ 61
  rw [str_len]
  exact int_text_length_le (by decide) hl
theorem fine_nat {i : Nat} (h : i < 2 ^ 60) : Fine 0 61 (.int (i : Int)) := fine_int (by rw [Int.natAbs_natCast]; exact h)
theorem all_lay {ds : List PyData} (h : ∀ d ∈ ds, d.canLay0 = true) : PyData.canLayAll0 ds = true := by
  induction ds with
  | nil => rfl
  | cons d r ih =>
    show (d.canLay0 && PyData.canLayAll0 r) = true
    rw [h d List.mem_cons_self, ih fun x hx => h x (List.mem_cons_of_mem _ hx)]; rfl
theorem all_showable {ds : List PyData} (h : ∀ d ∈ ds, d.showable = true) : PyData.showableAll ds = true := by
  induction ds with
  | nil => rfl
  | cons d r ih =>
    show (d.showable && PyData.showableAll r) = true
    rw [h d List.mem_cons_self, ih fun x hx => h x (List.mem_cons_of_mem _ hx)]; rfl
theorem all_depth {ds : List PyData} {k : Nat} (h : ∀ d ∈ ds, d.depth ≤ k) : PyData.depthAll ds ≤ k := by
  induction ds with
  | nil => exact Nat.zero_le _
  | cons d r ih => exact Nat.max_le.mpr ⟨h d List.mem_cons_self, ih fun x hx => h x (List.mem_cons_of_mem _ hx)⟩
theorem all_shown {ds : List PyData} {m : Nat} (h : ∀ d ∈ ds, d.shown.length ≤ m) : ((PyData.shownAll ds).map (·.length)).sum ≤ ds.length * m ∧ (PyData.shownAll ds).length = ds.length := by
  induction ds with
  | nil => exact ⟨Nat.zero_le _, rfl⟩
  | cons d r ih =>
    obtain ⟨h1, h2⟩ := ih fun x hx => h x (List.mem_cons_of_mem _ hx)
    have h3 := h d List.mem_cons_self
    refine ⟨?_, congrArg (· + 1) h2⟩
    show ((d.shown :: PyData.shownAll r).map (·.length)).sum ≤ (r.length + 1) * m
    rw [List.map_cons, List.sum_cons, Nat.add_mul, Nat.one_mul]
    omega
theorem fine_list {ds : List PyData} {k m n : Nat} (h : ∀ d ∈ ds, Fine k m d) (hn : ds.length ≤ n) (hb : n ≤ 100000) : Fine (k + 1) (n * (m + 2) + 3) (.list ds) := by
  refine ⟨all_lay fun d hd => (h d hd).lay, all_showable fun d hd => (h d hd).show_, Nat.succ_le_succ (all_depth fun d hd => (h d hd).depth), ⟨Nat.le_trans hn hb, narrow_of fun d hd => (h d hd).nar⟩, ?_⟩
  obtain ⟨h1, h2⟩ := all_shown fun d hd => (h d hd).len
  have h3 := listText_len_le (PyData.shownAll ds)
  have h4 : ds.length * m ≤ n * m := Nat.mul_le_mul_right _ hn
  show (listText (PyData.shownAll ds)).length ≤ _
  rw [Nat.mul_add]
  omega
theorem fine_tuple {ds : List PyData} {k m n : Nat} (h : ∀ d ∈ ds, Fine k m d) (hn : ds.length ≤ n) (hb : n ≤ 100000) : Fine (k + 1) (n * (m + 2) + 3) (.tuple ds) := by
  refine ⟨all_lay fun d hd => (h d hd).lay, all_showable fun d hd => (h d hd).show_, Nat.succ_le_succ (all_depth fun d hd => (h d hd).depth), ⟨Nat.le_trans hn hb, narrow_of fun d hd => (h d hd).nar⟩, ?_⟩
  obtain ⟨h1, h2⟩ := all_shown fun d hd => (h d hd).len
  have h3 := tupleText_len_le (PyData.shownAll ds)
  have h4 : ds.length * m ≤ n * m := Nat.mul_le_mul_right _ hn
  show (tupleText (PyData.shownAll ds)).length ≤ _
  rw [Nat.mul_add]
  omega
/-- numbers as data -/
def nd (l : List Nat) : List PyData := l.map fun (i : Nat) => PyData.int (i : Int)
theorem nd_length (l : List Nat) : (nd l).length = l.length := List.length_map _
theorem dp_nats {K : PySem.W.Frag} {H : Hp} : ∀ l : List Nat, DpAll K H (nv l) (nd l)
  | [] => .nil
  | i :: r => .cons (.int i) (dp_nats r)
theorem fine_nd {l : List Nat} (h : ∀ i ∈ l, i < 2 ^ 60) : ∀ d ∈ nd l, Fine 0 61 d := fun d hd => by
  obtain ⟨i, hi, rfl⟩ := List.mem_map.mp hd
  exact fine_nat (h i hi)
/-- a tuple of numbers -/
theorem fine_tup {l : List Nat} {n : Nat} (h : ∀ i ∈ l, i < 2 ^ 60) (hn : l.length ≤ n) (hb : n ≤ 100000) : Fine 1 (n * 63 + 3) (.tuple (nd l)) := fine_tuple (fine_nd h) (by rw [nd_length]; exact hn) hb
/-! ### lists of pairs of numbers -/
/-- at the places as stand the pairs ps -/
def Prs (H : Hp) (as : List Addr) (ps : List (Nat × Nat)) : Prop := Paired (fun a (p : Nat × Nat) => H a = some (.tup [.int p.1, .int p.2])) as ps
theorem Prs.length {H : Hp} {as : List Addr} {ps : List (Nat × Nat)} (h : Prs H as ps) : as.length = ps.length := Paired.length h
theorem prs_same {H H' : Hp} (e : Same H H') : ∀ {as : List Addr} {ps : List (Nat × Nat)}, Prs H as ps → Prs H' as ps
  | _, _, .nil => .nil
  | _, _, .cons h r => .cons (e _ _ h) (prs_same e r)
theorem prs_keep {b : Addr} {H H' : Hp} {ys : List V} (k : Keep b H H') (hb : H b = some (.lst ys)) : ∀ {as : List Addr} {ps : List (Nat × Nat)}, Prs H as ps → Prs H' as ps
  | _, _, .nil => .nil
  | _, _, .cons h r => .cons (k.tup hb h) (prs_keep k hb r)
theorem prs_get {H : Hp} : ∀ {as : List Addr} {ps : List (Nat × Nat)} {i : Nat} {a : Addr}, Prs H as ps → as[i]? = some a → ∃ p, ps[i]? = some p ∧ H a = some (.tup [.int p.1, .int p.2])
  | _, _, _, _, .nil, h => by simp at h
  | _, _, 0, _, .cons (b := p) h _, e => by
    cases Option.some.inj e
    exact ⟨p, rfl, h⟩
  | _, _, i + 1, a, .cons _ r, e => prs_get (i := i) r e
theorem prs_append {H : Hp} : ∀ {as bs : List Addr} {ps qs : List (Nat × Nat)}, Prs H as ps → Prs H bs qs → Prs H (as ++ bs) (ps ++ qs)
  | _, _, _, _, .nil, s => s
  | _, _, _, _, .cons h r, s => .cons h (prs_append r s)
def pd (p : Nat × Nat) : PyData := .tuple [.int (p.1 : Int), .int (p.2 : Int)]
theorem prs_dp {K : PySem.W.Frag} {H : Hp} : ∀ {as : List Addr} {ps : List (Nat × Nat)}, Prs H as ps → DpAll K H (as.map V.ref) (ps.map pd)
  | _, _, .nil => .nil
  | _, _, .cons h r => .cons (.tup (.inl (.inl h)) (.cons (.int _) (.cons (.int _) .nil))) (prs_dp r)
theorem fine_pd {p : Nat × Nat} (h1 : p.1 < 2 ^ 60) (h2 : p.2 < 2 ^ 60) : Fine 1 129 (pd p) := fine_tuple (n := 2) (fun d hd => by
  rcases List.mem_cons.mp hd with z | z
  · rw [z]; exact fine_nat h1
  · rw [List.mem_singleton.mp z]; exact fine_nat h2) (Nat.le_refl _) (by decide)
/-- a list of pairs -/
theorem fine_pds {ps : List (Nat × Nat)} {n : Nat} (h : ∀ p ∈ ps, p.1 < 2 ^ 60 ∧ p.2 < 2 ^ 60) (hn : ps.length ≤ n) (hb : n ≤ 100000) : Fine 2 (n * 131 + 3) (.list (ps.map pd)) :=
  fine_list (fun d hd => by
    obtain ⟨p, hp, rfl⟩ := List.mem_map.mp hd
    exact fine_pd (h p hp).1 (h p hp).2) (by rw [List.length_map]; exact hn) hb
end Pc
namespace Pc
open PySem PySem.Spec PyProof.Rows L2 RZ
/-! ### a list or a tuple: walked, unpacked -/
/-- a list or a tuple is read -/
def Sq (K : PySem.W.Frag) (H : Hp) (a : Addr) (xs : List V) : Prop := SqL K H a xs ∨ SqT K H a xs
theorem Sq.same {K : PySem.W.Frag} {H H' : Hp} {a : Addr} {xs : List V} (h : Sq K H a xs) (e : Same H H') : Sq K H' a xs := h.imp (fun z => e.seq z) (fun z => same_tup e z)
def iSeq (K : PySem.W.Frag) (tl : TE) : TI := fun σ H R => tl σ H fun x H1 => ∃ a, x = .ref a ∧ (((∃ xs, SqL K H1 a xs) ∧ R (Itl K a) H1) ∨ ((∃ xs, SqT K H1 a xs) ∧ R (Itt K a) H1))
section
variable {X : Cx}
theorem pi_seq {tg l : Expr} {tl : TE} (hl : PE X l tl) : PI X tg l (iSeq X.K tl) := by
  constructor
  intro pins s σ H R I h
  refine thn (hl.run pins s σ H _ I h) ?_
  rintro v s1 ⟨x, H1, I1, r1, a, ex, q⟩
  subst ex
  cases r1
  rcases q with ⟨⟨xs, hx⟩, q⟩ | ⟨⟨xs, hx⟩, q⟩
  · obtain ⟨its, _, p, _⟩ := I1.list hx
    refine wpAny_pyIter_list p.isList ?_
    exact pi_one (tk := s1.toks) I1 _ (turn_list _ _) ⟨_, Heap.get?_push_size _ rfl, rfl, rfl⟩ q
  · obtain ⟨its, _, p, _⟩ := I1.tuple hx
    refine wpAny_pyIter_tuple p ?_
    exact pi_one (tk := s1.toks) I1 _ (turn_tuple _ _) ⟨_, Heap.get?_push_size _ rfl, rfl, rfl⟩ q
/-- names unpacked from a tuple or a list -/
def gSeq (K : PySem.W.Frag) (n : Nat) (t : TGs) : TG := fun v σ H Q => ∃ a xs, v = .ref a ∧ Sq K H a xs ∧ xs.length = n ∧ t xs σ H Q
theorem pg_seq {es : List Expr} {k : Nat} {t : TGs} {n : Nat} {pos : Pos} (hc : X.calm = true) (h : PGs X es t)
    (hn : (assignEach es X.env).length = n := by rfl) (hst : (assignEach es X.env).findIdx? (·.1) = none := by rfl) : PG X (.Tuple es k pos) (gSeq X.K n t) := by
  constructor
  intro pins s σ H v u Q I r hw
  obtain ⟨a, xs, e, hq, hl, hw⟩ := hw
  rcases hq with hq | hq
  · exact (pg_unl (pos := pos) (k := k) hc h hn hst).run pins s σ H v u Q I r ⟨a, xs, e, hq, hl, hw⟩
  · exact (pg_tup (pos := pos) (k := k) hc h hn hst).run pins s σ H v u Q I r ⟨a, xs, e, hq, hl, hw⟩
/-! ### a call with keywords alone -/
def tKw (n : Nat) (sp : Sp) (gV : List V → List V) (E : XK) (tk : TA) : TE := fun σ H Q => tk σ H fun zs H1 => zs.length = n ∧ sp (gV zs) H1 Q E
theorem pe_kw {CX : CXT} {k : Nat} {f : Addr} {fd : FuncData} {ps ks : List Str} {sp : Sp} {E : XK} {x : Str} {p pos : Pos} {kws : List Keyword} {tk : TA} {g : List Value → List Value} {gV : List V → List V}
    (F : FnOk X.prog X.w X.K X.mg X.base CX k f fd ps sp) (hr : Room k X.A) (hg : Gl X x) (hm : X.mg x = some (.ref f)) (hk : PySem.W.keepIn X.K (.ref f) = true)
    (hb : ∀ (s : Shared) (ws : List Value), ws.length = ks.length → BindsTo s fd ⟨[], ks.zip ws⟩ (ps.zip (g ws))) (rel : ∀ {zs : List V} {ws : List Value}, zs.length = ks.length → Vals zs ws → Vals (gV zs) (g ws)) (hx : Passes CX X E) (hkw : PK X kws tk)
    (hall : (backToKw pos (keywordEach kws X.env)).all (·.1.isSome) = true := by rfl) (hks : (backToKw pos (keywordEach kws X.env)).filterMap (·.1) = ks := by rfl) (hdb : (x == ("__debug__" : Str)) = false := by decide)
    (hpl : ((backTo pos (starEach [] X.env)).any (·.1) || (backToKw pos (keywordEach kws X.env)).any (·.1.isNone)) = false := by rfl) :
    PE X (.Call (.Name x p) [] kws pos) (tKw ks.length sp gV E tk) := by
  constructor
  intro pins s σ H Q I h
  refine wpAny_Call_Name_kw (ld_glob I hg hm ?_ hdb)
  refine PySem.W.callWith_KW0 (h₀ := X.base) I.ok.mod.kin hk hall (thn (hkw.run pos pins s σ H _ I h) ?_) hpl
  rintro ws s2 ⟨zs, H2, I2, rz, hz, q⟩
  refine ⟨I2.kIn, ?_⟩
  rw [hks]
  refine wpAny_call (codeAny_mono (F.run X.A X.stack s2 H2 ⟨[], ks.zip ws⟩ (g ws) (gV zs) Q E hr I2.env0 (hb s2 ws (by rw [← rz.length, hz])) (rel hz rz) q) ?_)
  intro res s' hq
  cases res with
  | error e => exact hx pins σ H2 s2 e s' I2 hq
  | ok fl =>
    cases fl with
    | ret u => exact I2.after hq
    | next => exact hq.elim
    | brk => exact hq.elim
    | cont => exact hq.elim
end
theorem kw_to {K : PySem.W.Frag} {x qual : Str} {st : Stmt} {f : Addr} {fd : FuncData} {ps ks : List Str} {g : List Value → List Value} (F : Fun K x qual st f fd)
    (h : ∀ (kV doc pm : Value) (an : Option Addr) (cdv ct : Value) (ws : List Value), ws.length = ks.length → bindArgs (PySem.W.fnOf x qual (defArgs st) (defBody st) (defScope st) .none kV doc pm an cdv ct) ⟨[], ks.zip ws⟩ = pure (ps.zip (g ws))) :
    ∀ (s : Shared) (ws : List Value), ws.length = ks.length → BindsTo s fd ⟨[], ks.zip ws⟩ (ps.zip (g ws)) := by
  obtain ⟨oc, od, kV, doc, pm, an, cdv, ct, osl, rfl, lk, hcd⟩ := F.ex
  intro s ws hl
  exact .of_eq (h kV doc pm an cdv ct ws hl)
end Pc
namespace Pc
open PySem PySem.Spec PyProof.Rows L2 RZ
/-! ### the couples of a pairing -/
/-- the couples whose first person is below i -/
def cplN (ps : List Nat) (i : Nat) : List (Nat × Nat) := ((List.range i).filter fun x => decide (x < ps.getD x 0)).map fun x => (x, ps.getD x 0)
def cpl (ps : List Nat) : List (Nat × Nat) := cplN ps ps.length
theorem getD_of {ps : List Nat} {x y : Nat} (h : ps[x]? = some y) : ps.getD x 0 = y := by
  rw [List.getD_eq_getElem?_getD, h]; rfl
theorem cplN_yes {ps : List Nat} {i y : Nat} (h : ps[i]? = some y) (hl : i < y) : cplN ps (i + 1) = cplN ps i ++ [(i, y)] := by
  unfold cplN
  rw [List.range_succ, List.filter_append, List.map_append]
  congr 1
  rw [List.filter_cons_of_pos (by rw [getD_of h]; exact decide_eq_true hl), List.filter_nil, List.map_cons, List.map_nil, getD_of h]
theorem cplN_no {ps : List Nat} {i y : Nat} (h : ps[i]? = some y) (hl : ¬ i < y) : cplN ps (i + 1) = cplN ps i := by
  unfold cplN
  rw [List.range_succ, List.filter_append, List.map_append, List.filter_cons_of_neg (by rw [getD_of h]; simpa using hl), List.filter_nil, List.map_nil, List.append_nil]
theorem cplN_len (ps : List Nat) (i : Nat) : (cplN ps i).length ≤ i := by
  unfold cplN
  rw [List.length_map]
  exact Nat.le_trans (List.length_filter_le _ _) (by rw [List.length_range]; exact Nat.le_refl _)
theorem mem_cpl {n : Nat} {ps : List Nat} (h : IsPair n ps) {p : Nat × Nat} : p ∈ cpl ps ↔ ps[p.1]? = some p.2 ∧ p.1 < p.2 := by
  unfold cpl cplN
  rw [h.len]
  constructor
  · intro hp
    obtain ⟨x, hx, rfl⟩ := List.mem_map.mp hp
    obtain ⟨h1, h2⟩ := List.mem_filter.mp hx
    obtain ⟨y, e, _⟩ := h.par x (List.mem_range.mp h1)
    rw [getD_of e] at h2 ⊢
    exact ⟨e, of_decide_eq_true h2⟩
  · rintro ⟨e, hl⟩
    refine List.mem_map.mpr ⟨p.1, List.mem_filter.mpr ⟨List.mem_range.mpr ?_, ?_⟩, ?_⟩
    · rw [← h.len]; exact get_lt e
    · rw [getD_of e]; exact decide_eq_true hl
    · rw [getD_of e]
theorem IsPair.back {n : Nat} {ps : List Nat} (h : IsPair n ps) {x y : Nat} (e : ps[x]? = some y) : ps[y]? = some x ∧ y < n ∧ x < n ∧ y ≠ x := by
  have hx : x < n := by rw [← h.len]; exact get_lt e
  obtain ⟨z, e1, e2, e3, e4⟩ := h.par x hx
  cases Option.some.inj (e.symm.trans e1)
  exact ⟨e4, e2, hx, e3⟩
theorem cpl_cover {n : Nat} {ps : List Nat} (h : IsPair n ps) {z : Nat} (hz : z < n) : ∃ p ∈ cpl ps, p.1 = z ∨ p.2 = z := by
  obtain ⟨y, e1, e2, e3, e4⟩ := h.par z hz
  rcases Nat.lt_or_gt_of_ne e3 with l | l
  · exact ⟨(y, z), (mem_cpl h).mpr ⟨e4, l⟩, .inr rfl⟩
  · exact ⟨(z, y), (mem_cpl h).mpr ⟨e1, l⟩, .inl rfl⟩
theorem filter_split {α : Type} (f : α → Bool) : ∀ l : List α, (l.filter f).length + (l.filter fun x => !f x).length = l.length
  | [] => rfl
  | a :: r => by
    have ih := filter_split f r
    cases e : f a with
    | true => rw [List.filter_cons_of_pos e, List.filter_cons_of_neg (by rw [e]; decide), List.length_cons, List.length_cons]; omega
    | false => rw [List.filter_cons_of_neg (by rw [e]; decide), List.filter_cons_of_pos (by rw [e]; rfl), List.length_cons, List.length_cons]; omega
theorem cpl_half {n : Nat} {ps : List Nat} (h : IsPair n ps) : 2 * (cpl ps).length = n := by
  have e1 : (cpl ps).length = ((List.range n).filter fun x => decide (x < ps.getD x 0)).length := by
    unfold cpl cplN; rw [List.length_map, h.len]
  have inj : ∀ x y, x < n → y < n → ps.getD x 0 = ps.getD y 0 → x = y := fun x y hx hy e => by
    obtain ⟨u, a1, _, _, a4⟩ := h.par x hx
    obtain ⟨v, b1, _, _, b4⟩ := h.par y hy
    rw [getD_of a1, getD_of b1] at e
    subst e
    exact Option.some.inj (a4.symm.trans b4)
  have nd0 : (List.range n).Nodup := List.nodup_range
  have p1 : (((List.range n).filter fun x => decide (x < ps.getD x 0)).map fun x => ps.getD x 0).Perm ((List.range n).filter fun x => !decide (x < ps.getD x 0)) := by
    refine (List.perm_ext_iff_of_nodup ?_ (nd0.filter _)).mpr fun z => ?_
    · refine List.Pairwise.map _ (fun a b hab => hab) ?_
      refine List.Pairwise.imp_of_mem (fun {a b} ha hb hab => ?_) (nd0.filter fun x => decide (x < ps.getD x 0))
      exact fun e => hab (inj a b (List.mem_range.mp (List.mem_filter.mp ha).1) (List.mem_range.mp (List.mem_filter.mp hb).1) e)
    · constructor
      · intro hz
        obtain ⟨x, hx, rfl⟩ := List.mem_map.mp hz
        obtain ⟨h1, h2⟩ := List.mem_filter.mp hx
        obtain ⟨y, a1, a2, a3, a4⟩ := h.par x (List.mem_range.mp h1)
        rw [getD_of a1] at h2 ⊢
        have h3 := of_decide_eq_true h2
        refine List.mem_filter.mpr ⟨List.mem_range.mpr a2, ?_⟩
        rw [getD_of a4, decide_eq_false (by omega)]; rfl
      · intro hz
        obtain ⟨h1, h2⟩ := List.mem_filter.mp hz
        obtain ⟨y, a1, a2, a3, a4⟩ := h.par z (List.mem_range.mp h1)
        rw [getD_of a1] at h2
        have h3 : ¬ z < y := by simpa using h2
        refine List.mem_map.mpr ⟨y, List.mem_filter.mpr ⟨List.mem_range.mpr a2, ?_⟩, getD_of a4⟩
        rw [getD_of a4]
        exact decide_eq_true (by omega)
  have e2 := p1.length_eq
  rw [List.length_map] at e2
  have e3 := filter_split (fun x => decide (x < ps.getD x 0)) (List.range n)
  rw [List.length_range] at e3
  omega
/-- what pairs must be so that they make the pairing ps -/
structure Makes (qs : List (Nat × Nat)) (ps : List Nat) : Prop where
  half : 2 * qs.length = ps.length
  ok : ∀ p ∈ qs, ps[p.1]? = some p.2 ∧ ps[p.2]? = some p.1
  all : ∀ z, z < ps.length → ∃ p ∈ qs, p.1 = z ∨ p.2 = z
theorem makes_cpl {n : Nat} {ps : List Nat} (h : IsPair n ps) : Makes (cpl ps) ps where
  half := by rw [cpl_half h, h.len]
  ok p hp := by
    obtain ⟨e, _⟩ := (mem_cpl h).mp hp
    exact ⟨e, (h.back e).1⟩
  all z hz := cpl_cover h (by rw [← h.len]; exact hz)
/-- the pairs of qs in any order, turned or not -/
theorem Makes.turned {qs rs : List (Nat × Nat)} {ps : List Nat} (h : Makes qs ps) (hl : rs.length = qs.length) (h1 : ∀ p ∈ rs, p ∈ qs ∨ (p.2, p.1) ∈ qs) (h2 : ∀ p ∈ qs, p ∈ rs ∨ (p.2, p.1) ∈ rs) : Makes rs ps where
  half := by rw [hl]; exact h.half
  ok p hp := by
    rcases h1 p hp with z | z
    · exact h.ok p z
    · obtain ⟨a, b⟩ := h.ok _ z
      exact ⟨b, a⟩
  all z hz := by
    obtain ⟨p, hp, e⟩ := h.all z hz
    rcases h2 p hp with q | q
    · exact ⟨p, q, e⟩
    · exact ⟨_, q, e.symm⟩
def CInv (ps : List Nat) (qs : List (Nat × Nat)) (fs : List Nat) (i : Nat) : Prop := fs.length = ps.length ∧ ∀ j, j < i → ∀ p, qs[j]? = some p → fs[p.1]? = ps[p.1]? ∧ fs[p.2]? = ps[p.2]?
theorem set_keeps {ps fs : List Nat} {x y z : Nat} (hy : ps[x]? = some y) (hx : x < fs.length) (h : fs[z]? = ps[z]?) : (fs.set x y)[z]? = ps[z]? := by
  by_cases e : x = z
  · subst e
    rw [List.getElem?_set_self hx, hy]
  · rw [List.getElem?_set_ne e]; exact h
theorem CInv.step {ps fs : List Nat} {qs : List (Nat × Nat)} {i : Nat} {p : Nat × Nat} (m : Makes qs ps) (h : CInv ps qs fs i) (hp : qs[i]? = some p) : CInv ps qs ((fs.set p.1 p.2).set p.2 p.1) (i + 1) := by
  obtain ⟨hl, hj⟩ := h
  obtain ⟨o1, o2⟩ := m.ok p (List.mem_of_getElem? hp)
  have l1 : p.1 < fs.length := by rw [hl]; exact get_lt o1
  have l2 : p.2 < (fs.set p.1 p.2).length := by rw [List.length_set, hl]; exact get_lt o2
  refine ⟨by rw [List.length_set, List.length_set, hl], fun j hj2 r hr => ?_⟩
  by_cases e : j = i
  · subst e
    cases Option.some.inj (hp.symm.trans hr)
    refine ⟨set_keeps o2 l2 ?_, ?_⟩
    · rw [List.getElem?_set_self l1, o1]
    · rw [List.getElem?_set_self l2, o2]
  · obtain ⟨a, b⟩ := hj j (by omega) r hr
    exact ⟨set_keeps o2 l2 (set_keeps o1 l1 a), set_keeps o2 l2 (set_keeps o1 l1 b)⟩
theorem CInv.done {ps fs : List Nat} {qs : List (Nat × Nat)} (m : Makes qs ps) (h : CInv ps qs fs qs.length) : fs = ps := by
  refine List.ext_getElem? fun z => ?_
  by_cases hz : z < ps.length
  · obtain ⟨p, hp, e⟩ := m.all z hz
    obtain ⟨i, hi, ei⟩ := List.mem_iff_getElem.mp hp
    obtain ⟨a, b⟩ := h.2 i hi p (by rw [List.getElem?_eq_getElem hi, ei])
    rcases e with e | e
    · rw [← e]; exact a
    · rw [← e]; exact b
  · rw [List.getElem?_eq_none (by rw [h.1]; omega), List.getElem?_eq_none (by omega)]
end Pc
namespace Pc
open PySem PySem.Spec PyProof.Rows L2 RZ
section
variable {K : PySem.W.Frag}
/-- the values us are the pairs qs, each a tuple or a list -/
def Items (K : PySem.W.Frag) (H : Hp) (us : List V) (qs : List (Nat × Nat)) : Prop := us.length = qs.length ∧ ∀ (i : Nat) (v : V), us[i]? = some v → ∃ (c : Addr) (p : Nat × Nat), v = .ref c ∧ qs[i]? = some p ∧ Sq K H c [.int p.1, .int p.2]
theorem Items.same {H H' : Hp} {us : List V} {qs : List (Nat × Nat)} (h : Items K H us qs) (e : Same H H') : Items K H' us qs := ⟨h.1, fun i v hv => by
  obtain ⟨c, p, h1, h2, h3⟩ := h.2 i v hv
  exact ⟨c, p, h1, h2, h3.same e⟩⟩
theorem items_of {H : Hp} {as : List Addr} {qs : List (Nat × Nat)} (h : Prs H as qs) : Items K H (as.map V.ref) qs := ⟨by rw [List.length_map]; exact h.length, fun i v hv => by
  rw [List.getElem?_map] at hv
  cases e : as[i]? with
  | none => rw [e] at hv; cases hv
  | some c =>
    rw [e] at hv
    obtain ⟨p, h1, h2⟩ := prs_get h e
    exact ⟨c, p, (Option.some.inj hv).symm, h1, .inr (.inl (.inl h2))⟩⟩
end
end Pc
namespace Pc
open PySem PySem.Spec PyProof.Rows L2 RZ
theorem paired_perm {α β : Type} {R : α → β → Prop} {as bs : List α} (h : as.Perm bs) : ∀ ps : List β, Paired R as ps → ∃ qs : List β, qs.Perm ps ∧ Paired R bs qs := by
  induction h with
  | nil => exact fun ps h => ⟨ps, List.Perm.refl _, h⟩
  | cons x _ ih =>
    intro ps h
    cases h with
    | cons r t =>
      obtain ⟨qs, h1, h2⟩ := ih _ t
      exact ⟨_ :: qs, h1.cons _, .cons r h2⟩
  | swap x y l =>
    intro ps h
    cases h with
    | cons r t =>
      cases t with
      | cons r2 t2 => exact ⟨_, List.Perm.swap _ _ _, .cons r2 (.cons r t2)⟩
  | trans _ _ ih1 ih2 =>
    intro ps h
    obtain ⟨qs, h1, h2⟩ := ih1 ps h
    obtain ⟨rs, h3, h4⟩ := ih2 qs h2
    exact ⟨rs, h3.trans h1, h4⟩
/-- the same pairs, some turned -/
def Turned (qs rs : List (Nat × Nat)) : Prop := rs.length = qs.length ∧ ∀ (j : Nat) (p q : Nat × Nat), qs[j]? = some p → rs[j]? = some q → q = p ∨ q = (p.2, p.1)
theorem Turned.mem1 {qs rs : List (Nat × Nat)} (h : Turned qs rs) : ∀ p ∈ rs, p ∈ qs ∨ (p.2, p.1) ∈ qs := fun p hp => by
  obtain ⟨j, hj, e⟩ := List.mem_iff_getElem.mp hp
  obtain ⟨q, hq⟩ := get_some (l := qs) (i := j) (by rw [← h.1]; exact hj)
  rcases h.2 j q p hq (by rw [List.getElem?_eq_getElem hj, e]) with z | z
  · exact .inl (z ▸ List.mem_of_getElem? hq)
  · refine .inr ?_
    rw [z]
    exact List.mem_of_getElem? hq
theorem Turned.mem2 {qs rs : List (Nat × Nat)} (h : Turned qs rs) : ∀ p ∈ qs, p ∈ rs ∨ (p.2, p.1) ∈ rs := fun p hp => by
  obtain ⟨j, hj, e⟩ := List.mem_iff_getElem.mp hp
  obtain ⟨q, hq⟩ := get_some (l := rs) (i := j) (by rw [h.1]; exact hj)
  rcases h.2 j p q (by rw [List.getElem?_eq_getElem hj, e]) hq with z | z
  · exact .inl (z ▸ List.mem_of_getElem? hq)
  · exact .inr (z ▸ List.mem_of_getElem? hq)
theorem Makes.perm {qs rs : List (Nat × Nat)} {ps : List Nat} (h : Makes qs ps) (e : rs.Perm qs) : Makes rs ps := h.turned e.length_eq (fun p hp => .inl (e.mem_iff.mp hp)) (fun p hp => .inl (e.mem_iff.mpr hp))
theorem IsPair.lt {n : Nat} {ps : List Nat} (h : IsPair n ps) : ∀ i ∈ ps, i < n := fun i hi => by
  obtain ⟨x, hx, e⟩ := List.mem_iff_getElem.mp hi
  obtain ⟨y, e1, e2, _⟩ := h.par x (by rw [← h.len]; exact hx)
  rw [List.getElem?_eq_getElem hx, e] at e1
  cases Option.some.inj e1
  exact e2
theorem Makes.lt {qs : List (Nat × Nat)} {ps : List Nat} (h : Makes qs ps) : ∀ p ∈ qs, p.1 < ps.length ∧ p.2 < ps.length := fun p hp => ⟨get_lt (h.ok p hp).1, get_lt (h.ok p hp).2⟩
theorem iteN {A B : Prop} (h : B) : if (!true) = true then A else B := by
  rw [if_neg (by decide)]
  exact h
end Pc
namespace Pc
open PySem PySem.Spec PyProof.Rows L2 RZ
/-! ### a loop over a list or a tuple that stays as it is -/
theorem for_seq {K : PySem.W.Frag} {a : Addr} {xs : List V} {g : TG} {tb : TS} {D : Ends} {σ : L2.St} {H0 H : Hp} (hS : Sq K H0 a xs) (Pv : Nat → L2.St → Hp → Prop) (h0 : Pv 0 σ H) (hst : ∀ i σ H', Pv i σ H' → Same H0 H')
    (hs : ∀ i x σ H', xs[i]? = some x → Pv i σ H' → g x σ H' fun σ2 H2 => tb { D with nx := Pv (i + 1), ct := Pv (i + 1), bk := D.nx } σ2 H2) (hd : ∀ σ H', Pv xs.length σ H' → D.nx σ H') :
    ((∃ ys, SqL K H a ys) ∧ ∃ W : Nat → Nat → L2.St → Hp → Prop, (∃ m, W 0 m σ H) ∧ ∀ i m σ H, W i m σ H → ((Itl K a).stop i H ∧ D.nx σ H) ∨ ((Itl K a).go i H ∧ ∃ N : L2.St → Hp → Prop, (∀ σ' H', N σ' H' → ∃ m', m' < m ∧ W (i + 1) m' σ' H') ∧ ∀ x H', (Itl K a).yld i H x H' → g x σ H' fun σ2 H2 => tb { D with nx := N, ct := N, bk := D.nx } σ2 H2)) ∨
    ((∃ ys, SqT K H a ys) ∧ ∃ W : Nat → Nat → L2.St → Hp → Prop, (∃ m, W 0 m σ H) ∧ ∀ i m σ H, W i m σ H → ((Itt K a).stop i H ∧ D.nx σ H) ∨ ((Itt K a).go i H ∧ ∃ N : L2.St → Hp → Prop, (∀ σ' H', N σ' H' → ∃ m', m' < m ∧ W (i + 1) m' σ' H') ∧ ∀ x H', (Itt K a).yld i H x H' → g x σ H' fun σ2 H2 => tb { D with nx := N, ct := N, bk := D.nx } σ2 H2)) := by
  rcases hS with h | h
  · exact .inl ⟨⟨_, (hst 0 σ H h0).seq h⟩, for_list Pv h0 (fun i σ H' _ p => (hst i σ H' p).seq h) hs hd⟩
  · exact .inr ⟨⟨_, same_tup (hst 0 σ H h0) h⟩, for_tup Pv h0 (fun i σ H' _ p => same_tup (hst i σ H' p) h) hs hd⟩
/-! ### two are joined, and the two that are left -/
def jn (fs : List Nat) (a b : Nat) : List Nat := if fs.getD a 0 = b then fs else (((fs.set a b).set b a).set (fs.getD a 0) (fs.getD b 0)).set (fs.getD b 0) (fs.getD a 0)
theorem jn_len (fs : List Nat) (a b : Nat) : (jn fs a b).length = fs.length := by
  unfold jn
  split
  · rfl
  · simp only [List.length_set]
/-- the four are different -/
theorem four {n : Nat} {fs : List Nat} (h : IsPair n fs) {a b c d : Nat} (hab : a ≠ b) (ea : fs[a]? = some c) (eb : fs[b]? = some d) (hcb : c ≠ b) : c ≠ a ∧ d ≠ b ∧ d ≠ a ∧ c ≠ d ∧ a < n ∧ b < n ∧ c < n ∧ d < n := by
  obtain ⟨a1, a2, a3, a4⟩ := h.back ea
  obtain ⟨b1, b2, b3, b4⟩ := h.back eb
  refine ⟨a4, b4, fun e => ?_, fun e => ?_, a3, b3, a2, b2⟩
  · rw [e, ea] at b1; exact hcb (Option.some.inj b1)
  · rw [e, b1] at a1; exact hab (Option.some.inj a1).symm
theorem jn_same {fs : List Nat} {a b : Nat} (e : fs[a]? = some b) : jn fs a b = fs := by
  unfold jn
  rw [getD_of e, if_pos rfl]
theorem jn_get {n : Nat} {fs : List Nat} (h : IsPair n fs) {a b c d : Nat} (hab : a ≠ b) (ea : fs[a]? = some c) (eb : fs[b]? = some d) (hcb : c ≠ b) (z : Nat) :
    (jn fs a b)[z]? = if z = a then some b else if z = b then some a else if z = c then some d else if z = d then some c else fs[z]? := by
  obtain ⟨x1, x2, x3, x4, l1, l2, l3, l4⟩ := four h hab ea eb hcb
  unfold jn
  rw [getD_of ea, getD_of eb, if_neg hcb]
  have hl := h.len
  by_cases z4 : z = d
  · subst z4
    rw [List.getElem?_set_self (by simp only [List.length_set]; omega), if_neg x3, if_neg x2, if_neg (Ne.symm x4), if_pos rfl]
  · rw [List.getElem?_set_ne (Ne.symm z4)]
    by_cases z3 : z = c
    · subst z3
      rw [List.getElem?_set_self (by simp only [List.length_set]; omega), if_neg x1, if_neg hcb, if_pos rfl]
    · rw [List.getElem?_set_ne (Ne.symm z3)]
      by_cases z2 : z = b
      · subst z2
        rw [List.getElem?_set_self (by simp only [List.length_set]; omega), if_neg (Ne.symm hab), if_pos rfl]
      · rw [List.getElem?_set_ne (Ne.symm z2)]
        by_cases z1 : z = a
        · subst z1
          rw [List.getElem?_set_self (by omega), if_pos rfl]
        · rw [List.getElem?_set_ne (Ne.symm z1), if_neg z1, if_neg z2, if_neg z3, if_neg z4]
theorem jn_pair {n : Nat} {fs : List Nat} (h : IsPair n fs) {a b : Nat} (hab : a ≠ b) (ha : a < n) (hb : b < n) : IsPair n (jn fs a b) := by
  obtain ⟨c, ea, _⟩ := h.par a ha
  obtain ⟨d, eb, _⟩ := h.par b hb
  by_cases hcb : c = b
  · subst hcb; rw [jn_same ea]; exact h
  · have G := jn_get h hab ea eb hcb
    obtain ⟨x1, x2, x3, x4, _, _, l3, l4⟩ := four h hab ea eb hcb
    refine ⟨by rw [jn_len]; exact h.len, fun x hx => ?_⟩
    by_cases z1 : x = a
    · subst z1
      exact ⟨b, by rw [G, if_pos rfl], hb, hab.symm, by rw [G, if_neg hab.symm, if_pos rfl]⟩
    · by_cases z2 : x = b
      · subst z2
        exact ⟨a, by rw [G, if_neg z1, if_pos rfl], ha, hab, by rw [G, if_pos rfl]⟩
      · by_cases z3 : x = c
        · subst z3
          exact ⟨d, by rw [G, if_neg z1, if_neg z2, if_pos rfl], l4, x4.symm, by rw [G, if_neg x3, if_neg x2, if_neg x4.symm, if_pos rfl]⟩
        · by_cases z4 : x = d
          · subst z4
            exact ⟨c, by rw [G, if_neg z1, if_neg z2, if_neg z3, if_pos rfl], l3, x4, by rw [G, if_neg x1, if_neg hcb, if_pos rfl]⟩
          · obtain ⟨y, e1, e2, e3, e4⟩ := h.par x hx
            have back : ∀ {u : Nat}, y = u → fs[u]? = some x := fun e => by rw [← e]; exact e4
            refine ⟨y, by rw [G, if_neg z1, if_neg z2, if_neg z3, if_neg z4]; exact e1, e2, e3, ?_⟩
            rw [G, if_neg, if_neg, if_neg, if_neg]
            · exact e4
            · intro e; have q := back e; rw [(h.back eb).1] at q; exact z2 (Option.some.inj q).symm
            · intro e; have q := back e; rw [(h.back ea).1] at q; exact z1 (Option.some.inj q).symm
            · intro e; have q := back e; rw [eb] at q; exact z4 (Option.some.inj q).symm
            · intro e; have q := back e; rw [ea] at q; exact z3 (Option.some.inj q).symm
/-- all pairs are calls of n people -/
def Calls (n : Nat) (qs : List (Nat × Nat)) : Prop := ∀ q ∈ qs, q.1 < q.2 ∧ q.2 < n
/-- the calls done one after another -/
def runs (qs : List (Nat × Nat)) (ps : List Nat) : List Nat := qs.foldl (fun fs q => jn fs q.1 q.2) ps
theorem runs_take {qs : List (Nat × Nat)} {ps : List Nat} {i : Nat} {q : Nat × Nat} (h : qs[i]? = some q) : runs (qs.take (i + 1)) ps = jn (runs (qs.take i) ps) q.1 q.2 := by
  unfold runs
  rw [List.take_add_one, h, List.foldl_append]
  rfl
theorem runs_pair {n : Nat} : ∀ (qs : List (Nat × Nat)) {ps : List Nat}, IsPair n ps → Calls n qs → IsPair n (runs qs ps)
  | [], _, h, _ => h
  | q :: r, ps, h, hc => by
    have h1 := hc q List.mem_cons_self
    exact runs_pair r (jn_pair h (by omega) (by omega) h1.2) (fun x hx => hc x (List.mem_cons_of_mem _ hx))
theorem Calls.take {n : Nat} {qs : List (Nat × Nat)} (h : Calls n qs) (i : Nat) : Calls n (qs.take i) := fun q hq => h q (List.mem_of_mem_take hq)
end Pc
namespace Pc
open PySem PySem.Spec PyProof.Rows L2 RZ
section
variable {P : Program} {w : World} {K : PySem.W.Frag} {mg : Str → Option Value} {base : Heap}
/-! ### drawn calls -/
def spSomeCalls : Sp := fun vs H Q _ => ∃ (b : Addr) (k n m : Nat), vs = [.ref b, .int n, .int m] ∧ Box (k + n * m + n + 10) H b ∧ 2 ≤ n ∧ n ≤ 1000 ∧ m ≤ 1000 ∧
  ∀ (H' : Hp) (p : Addr) (as : List Addr) (qs : List (Nat × Nat)), Calls n qs → qs.length ≤ m → H p = none → H' p = some (.lst (as.map V.ref)) → Prs H' as qs → Keep b H H' → Box k H' b → Q (.ref p) H'
theorem ok_some_calls (T : Env K mg) : FnOk P w K mg base CX0 4 T.f_random_word T.d_random_word ["_law_source", "_law_crowd", "_law_most"] spSomeCalls := by
  have GT : FnOk P w K mg base CX0 1 T.f_draw T.d_draw ["_law_source", "_law_bound"] spTake := ok_take T
  have GS : FnOk P w K mg base CX0 2 T.f_shuffled T.d_shuffled ["_law_source", "_law_some"] (spStrewn K) := ok_strewn T
  have GA : FnOk P w K mg base CX0 3 T.f_random_call T.d_random_call ["_law_source", "_law_some"] (spCallOf K) := ok_call_of T
  refine T.F_random_word.ok sc_random_word (fun vs H Q E h => ?_) (fun cdv A outer s H vs Q E hr h => ?_)
  · obtain ⟨b, k, n, m, rfl, _⟩ := h
    rfl
  · obtain ⟨b, k, n, m, rfl, hB, h2', hn, hm, q⟩ := h
    have h1 := hr.mono (show 1 ≤ 3 by decide)
    have h2 := hr.mono (show 2 ≤ 3 by decide)
    refine ⟨_, pss_cons (ps_set (i := 3) sc_random_word.nd rfl (.inr rfl) (pe_listRg rfl (by rfl) T.n_list (prg_1 (by rfl) T.n_range (pv 1)))) <|
      pss_cons (ps_if (PW.pt (pw_and (pt_cmpR op_gt (pv 1) pe_int (nomark _)) (pw_and1 (pt_cmpR op_eq (pe_call GT h1 (by rfl) T.g_draw T.F_draw.kp T.b_draw .nil pass0 (pa_cons (pv 0) (pa_cons pe_int pa_nil))) pe_int (nomark _)))))
        (pss_one (ps_set (i := 3) sc_random_word.nd rfl (.inr rfl) (pe_slice sl_list (pe_call GS h2 (by rfl) T.g_shuffled T.F_shuffled.kp T.b_shuffled .nil pass0 (pa_cons (pv 0) (pa_cons (pv 3) pa_nil))) po_none (po_some pe_int)))) pss_nil) <|
      pss_one (ps_ret (pe_lc (own := [("_law_turn", 4)]) (g := gName 4) (tt := tYes) (te := tCall (spCallOf K) [] E0 (tCons (tVar 0) (tCons (tVar 3) tNil))) rfl sc_random_word.nd
        (pi_range1 (by rfl) T.n_range (pa_cons (pe_call GT h1 (by rfl) T.g_draw T.F_draw.kp T.b_draw .nil pass0 (pa_cons (pv 0) (pa_cons (pe_op op_add (pv 2) pe_int) pa_nil))) pa_nil))
        (blkOk_by (N := N_random_word) (sc := defScope s_random_word) (by decide +kernel))
        (fun _ _ _ _ _ => pg_name (i := 4) sc_random_word.nd rfl (.inl rfl)) (fun _ _ _ _ _ => pts_nil)
        (fun _ _ _ _ _ => pe_call GA hr (by rfl) T.g_random_call T.F_random_call.kp T.b_random_call .nil pass0 (pa_cons (pv 0) (pa_cons (pv 3) pa_nil))))), ?_⟩
    refine ⟨.int n, rfl, n, rfl, RgOk.of_le (by decide) (by omega) (by decide) (by omega), fun rl nrl => ?_⟩
    rw [rg_nv]
    have sr : Same H _ := same_new (o := .lst (nv (List.range n))) nrl
    have er : (upd H rl (.lst (nv (List.range n)))) rl = some (.lst (nv (List.range n))) := upd_same
    have rb : rl ≠ b := (hB.ne_new nrl).symm
    have hBr := hB.same sr
    revert sr er hBr
    generalize upd H rl (.lst (nv (List.range n))) = Hr
    intro sr er hBr
    have kr : Keep b H Hr := Keep.of_same sr
    have lr : (List.range n).length = n := List.length_range
    refine ⟨.int n, rfl, n, 4, rfl, rfl, _, rfl, ite2 (fun c => ?_) (fun c => ?_)⟩
    · have c' : 4 < n := by have := of_decide_eq_true c; omega
      refine ⟨.ref b, rfl, b, k + n * m + n + 9, 3, rfl, hBr, by decide, by decide, fun r3 H3 r30 r31 hB3 k3 => ⟨rfl, _, rfl, ite2 (fun c3 => ?_) (fun c3 => ?_)⟩⟩
      · refine ⟨.ref b, rfl, .ref rl, rfl, b, rl, k + n * m + 9, nv (List.range n), rfl, hB3.mono (by rw [nv_length, lr]; omega), .inl (.inl (k3 _ _ rb er)), by rw [nv_length, lr]; exact hn, fun H4 p4 ys hpy k4 hB4 np4 ep4 => ?_⟩
        obtain ⟨os, e1, hp⟩ := perm_map_inv (fun (i : Nat) => V.int (i : Int)) hpy.symm (List.range n) rfl
        have ep : H4 p4 = some (.lst (nv os)) := by rw [ep4, e1]; rfl
        refine ⟨4, rfl, p4, nv os, rfl, .inl (.inl ep), fun sa nsa => ?_⟩
        have ec : cutV (nv os) none (some 4) = nv (os.take 4) := cut_head os 4
        rw [ec]
        have hol : os.length = n := by rw [hp.length_eq, lr]
        have s5 : Same H4 _ := same_new (o := .lst (nv (os.take 4))) nsa
        have f3 : (upd H4 sa (.lst (nv (os.take 4)))) sa = some (.lst (nv (os.take 4))) := upd_same
        have f0 : Keep b H _ := kr.trans (k3.trans (k4.trans (Keep.of_same s5)))
        have f1 := (hB4.same s5).mono (show k + n * m + 5 ≤ _ by omega)
        have f2 : sa ≠ b := (hB4.ne_new nsa).symm
        have f4 : (os.take 4).Nodup := (List.take_sublist 4 os).nodup (hp.nodup_iff.mpr List.nodup_range)
        have f5 : 2 ≤ (os.take 4).length := by rw [List.length_take]; omega
        have f6 : (os.take 4).length ≤ n := by rw [List.length_take]; omega
        have f7 : ∀ x ∈ os.take 4, x < n := fun x hx => List.mem_range.mp (hp.mem_iff.mp (List.mem_of_mem_take hx))
        revert s5 f3 f0 f1 f4 f5 f6 f7
        generalize upd H4 sa (.lst (nv (os.take 4))) = H0
        generalize os.take 4 = ss
        intro s5 f3 f0 f1 f4 f5 f6 f7
        have hnm : ∀ j : Nat, j < m → n * (m - (j + 1)) + n ≤ n * (m - j) := fun j hj => by
          rw [show m - j = (m - (j + 1)) + 1 by omega, Nat.mul_succ]; exact Nat.le_refl _
        refine ⟨.ref b, rfl, .int m, rfl, m, 1, rfl, rfl, b, k + n * m + 4, (m : Int) + 1, rfl, f1, by omega, by omega, fun r H2 r0 r1 hB2 k2 => ?_⟩
        refine ⟨r, rfl, by omega, by omega, fun D nD => ?_⟩
        have bD : b ≠ D := hB2.ne_new nD
        have k02 : Keep b H H2 := f0.trans k2
        have nD0 : H D = none := keep_none k02 hB2 nD
        have eS2 := k2 _ _ f2 f3
        have sD : sa ≠ D := ne_of_none eS2 nD
        refine lc_range (n := r.toNat) (fun j H' => Keep b H2 H' ∧ Box (k + n * (m - j)) H' b ∧ ∃ (as : List Addr) (qs : List (Nat × Nat)), H' D = some (.lst (as.map V.ref)) ∧ Prs H' as qs ∧ Calls n qs ∧ qs.length = j)
          ⟨Keep.of_same (same_new nD), (hB2.same (same_new nD)).mono (by rw [Nat.sub_zero]; omega), [], [], upd_same, .nil, fun q hq => by simp at hq, rfl⟩ (fun j H' hj hPv => ?_) (fun H' hPv => ?_)
        · obtain ⟨k3, hB3, as, qs, eD, hA, hc, hql⟩ := hPv
          have hj' := hnm j (by omega)
          refine ⟨rfl, yes_if ⟨_, rfl, _, rfl, b, sa, k + n * (m - (j + 1)), n, ss, rfl, hB3.mono (by omega), .inl (.inl (k3 _ _ f2 eS2)), f4, f5, by omega, f7, fun H4 t x y hxy hy nt et k4 hB4 => ?_⟩⟩
          have eD4 := k4 _ _ bD.symm eD
          have ntD : t ≠ D := fun z => by rw [z, eD4] at et; cases et
          obtain ⟨yb, hyb⟩ := hB3.lst
          refine ⟨_, eD4, small1000 (by rw [List.length_map, hA.length]; omega), fun a o na ha => ?_, hB4.keep (c := D) keep_upd bD, as ++ [t], qs ++ [(x, y)], ?_, ?_, ?_, ?_⟩
          · rw [upd_ne (ne_of_none ha nD)]; exact k4 _ _ na (k3 _ _ na ha)
          · rw [upd_same, List.map_append]; rfl
          · refine prs_append (prs_keep (b := D) keep_upd eD4 (prs_keep k4 hyb hA)) (.cons ?_ .nil)
            rw [upd_ne ntD]; exact et
          · intro q hq
            rcases List.mem_append.mp hq with z | z
            · exact hc q z
            · rw [List.mem_singleton.mp z]; exact ⟨hxy, by show y < n; omega⟩
          · rw [List.length_append, hql]; rfl
        · obtain ⟨k3, hB3, as, qs, eD, hA, hc, hql⟩ := hPv
          exact q H' D as qs hc (by omega) nD0 eD hA (k02.trans k3) (hB3.mono (by omega))
      · have f0 : Keep b H H3 := kr.trans k3
        have f1 : Box (k + n * m + 5) H3 b := hB3.mono (by omega)
        have f2 := rb
        have f3 := k3 _ _ rb er
        have f4 : (List.range n).Nodup := List.nodup_range
        have f5 : 2 ≤ (List.range n).length := by rw [lr]; exact h2'
        have f6 : (List.range n).length ≤ n := Nat.le_of_eq lr
        have f7 : ∀ x ∈ List.range n, x < n := fun x hx => List.mem_range.mp hx
        clear er
        revert f3 f4 f5 f6 f7
        generalize List.range n = ss
        intro f3 f4 f5 f6 f7
        have hnm : ∀ j : Nat, j < m → n * (m - (j + 1)) + n ≤ n * (m - j) := fun j hj => by
          rw [show m - j = (m - (j + 1)) + 1 by omega, Nat.mul_succ]; exact Nat.le_refl _
        refine ⟨.ref b, rfl, .int m, rfl, m, 1, rfl, rfl, b, k + n * m + 4, (m : Int) + 1, rfl, f1, by omega, by omega, fun r H2 r0 r1 hB2 k2 => ?_⟩
        refine ⟨r, rfl, by omega, by omega, fun D nD => ?_⟩
        have bD : b ≠ D := hB2.ne_new nD
        have k02 : Keep b H H2 := f0.trans k2
        have nD0 : H D = none := keep_none k02 hB2 nD
        have eS2 := k2 _ _ f2 f3
        have sD : rl ≠ D := ne_of_none eS2 nD
        refine lc_range (n := r.toNat) (fun j H' => Keep b H2 H' ∧ Box (k + n * (m - j)) H' b ∧ ∃ (as : List Addr) (qs : List (Nat × Nat)), H' D = some (.lst (as.map V.ref)) ∧ Prs H' as qs ∧ Calls n qs ∧ qs.length = j)
          ⟨Keep.of_same (same_new nD), (hB2.same (same_new nD)).mono (by rw [Nat.sub_zero]; omega), [], [], upd_same, .nil, fun q hq => by simp at hq, rfl⟩ (fun j H' hj hPv => ?_) (fun H' hPv => ?_)
        · obtain ⟨k3, hB3, as, qs, eD, hA, hc, hql⟩ := hPv
          have hj' := hnm j (by omega)
          refine ⟨rfl, yes_if ⟨_, rfl, _, rfl, b, rl, k + n * (m - (j + 1)), n, ss, rfl, hB3.mono (by omega), .inl (.inl (k3 _ _ f2 eS2)), f4, f5, by omega, f7, fun H4 t x y hxy hy nt et k4 hB4 => ?_⟩⟩
          have eD4 := k4 _ _ bD.symm eD
          have ntD : t ≠ D := fun z => by rw [z, eD4] at et; cases et
          obtain ⟨yb, hyb⟩ := hB3.lst
          refine ⟨_, eD4, small1000 (by rw [List.length_map, hA.length]; omega), fun a o na ha => ?_, hB4.keep (c := D) keep_upd bD, as ++ [t], qs ++ [(x, y)], ?_, ?_, ?_, ?_⟩
          · rw [upd_ne (ne_of_none ha nD)]; exact k4 _ _ na (k3 _ _ na ha)
          · rw [upd_same, List.map_append]; rfl
          · refine prs_append (prs_keep (b := D) keep_upd eD4 (prs_keep k4 hyb hA)) (.cons ?_ .nil)
            rw [upd_ne ntD]; exact et
          · intro q hq
            rcases List.mem_append.mp hq with z | z
            · exact hc q z
            · rw [List.mem_singleton.mp z]; exact ⟨hxy, by show y < n; omega⟩
          · rw [List.length_append, hql]; rfl
        · obtain ⟨k3, hB3, as, qs, eD, hA, hc, hql⟩ := hPv
          exact q H' D as qs hc (by omega) nD0 eD hA (k02.trans k3) (hB3.mono (by omega))
    · have f0 : Keep b H Hr := kr
      have f1 : Box (k + n * m + 5) Hr b := hBr.mono (by omega)
      have f2 := rb
      have f3 := er
      have f4 : (List.range n).Nodup := List.nodup_range
      have f5 : 2 ≤ (List.range n).length := by rw [lr]; exact h2'
      have f6 : (List.range n).length ≤ n := Nat.le_of_eq lr
      have f7 : ∀ x ∈ List.range n, x < n := fun x hx => List.mem_range.mp hx
      clear er
      revert f3 f4 f5 f6 f7
      generalize List.range n = ss
      intro f3 f4 f5 f6 f7
      have hnm : ∀ j : Nat, j < m → n * (m - (j + 1)) + n ≤ n * (m - j) := fun j hj => by
        rw [show m - j = (m - (j + 1)) + 1 by omega, Nat.mul_succ]; exact Nat.le_refl _
      refine ⟨.ref b, rfl, .int m, rfl, m, 1, rfl, rfl, b, k + n * m + 4, (m : Int) + 1, rfl, f1, by omega, by omega, fun r H2 r0 r1 hB2 k2 => ?_⟩
      refine ⟨r, rfl, by omega, by omega, fun D nD => ?_⟩
      have bD : b ≠ D := hB2.ne_new nD
      have k02 : Keep b H H2 := f0.trans k2
      have nD0 : H D = none := keep_none k02 hB2 nD
      have eS2 := k2 _ _ f2 f3
      have sD : rl ≠ D := ne_of_none eS2 nD
      refine lc_range (n := r.toNat) (fun j H' => Keep b H2 H' ∧ Box (k + n * (m - j)) H' b ∧ ∃ (as : List Addr) (qs : List (Nat × Nat)), H' D = some (.lst (as.map V.ref)) ∧ Prs H' as qs ∧ Calls n qs ∧ qs.length = j)
        ⟨Keep.of_same (same_new nD), (hB2.same (same_new nD)).mono (by rw [Nat.sub_zero]; omega), [], [], upd_same, .nil, fun q hq => by simp at hq, rfl⟩ (fun j H' hj hPv => ?_) (fun H' hPv => ?_)
      · obtain ⟨k3, hB3, as, qs, eD, hA, hc, hql⟩ := hPv
        have hj' := hnm j (by omega)
        refine ⟨rfl, yes_if ⟨_, rfl, _, rfl, b, rl, k + n * (m - (j + 1)), n, ss, rfl, hB3.mono (by omega), .inl (.inl (k3 _ _ f2 eS2)), f4, f5, by omega, f7, fun H4 t x y hxy hy nt et k4 hB4 => ?_⟩⟩
        have eD4 := k4 _ _ bD.symm eD
        have ntD : t ≠ D := fun z => by rw [z, eD4] at et; cases et
        obtain ⟨yb, hyb⟩ := hB3.lst
        refine ⟨_, eD4, small1000 (by rw [List.length_map, hA.length]; omega), fun a o na ha => ?_, hB4.keep (c := D) keep_upd bD, as ++ [t], qs ++ [(x, y)], ?_, ?_, ?_, ?_⟩
        · rw [upd_ne (ne_of_none ha nD)]; exact k4 _ _ na (k3 _ _ na ha)
        · rw [upd_same, List.map_append]; rfl
        · refine prs_append (prs_keep (b := D) keep_upd eD4 (prs_keep k4 hyb hA)) (.cons ?_ .nil)
          rw [upd_ne ntD]; exact et
        · intro q hq
          rcases List.mem_append.mp hq with z | z
          · exact hc q z
          · rw [List.mem_singleton.mp z]; exact ⟨hxy, by show y < n; omega⟩
        · rw [List.length_append, hql]; rfl
      · obtain ⟨k3, hB3, as, qs, eD, hA, hc, hql⟩ := hPv
        exact q H' D as qs hc (by omega) nD0 eD hA (k02.trans k3) (hB3.mono (by omega))
end
end Pc
namespace Pc
open PySem PySem.Spec PyProof.Rows L2 RZ
/-! ### lists of tuples of numbers -/
def Tups (H : Hp) (as : List Addr) (ls : List (List Nat)) : Prop := Paired (fun a l => H a = some (.tup (nv l))) as ls
theorem Tups.length {H : Hp} {as : List Addr} {ls : List (List Nat)} (h : Tups H as ls) : as.length = ls.length := Paired.length h
theorem tups_same {H H' : Hp} (e : Same H H') : ∀ {as : List Addr} {ls : List (List Nat)}, Tups H as ls → Tups H' as ls
  | _, _, .nil => .nil
  | _, _, .cons h r => .cons (e _ _ h) (tups_same e r)
theorem tups_keep {b : Addr} {H H' : Hp} {ys : List V} (k : Keep b H H') (hb : H b = some (.lst ys)) : ∀ {as : List Addr} {ls : List (List Nat)}, Tups H as ls → Tups H' as ls
  | _, _, .nil => .nil
  | _, _, .cons h r => .cons (k.tup hb h) (tups_keep k hb r)
theorem tups_append {H : Hp} : ∀ {as bs : List Addr} {ls ms : List (List Nat)}, Tups H as ls → Tups H bs ms → Tups H (as ++ bs) (ls ++ ms)
  | _, _, _, _, .nil, s => s
  | _, _, _, _, .cons h r, s => .cons h (tups_append r s)
theorem tups_get {H : Hp} : ∀ {as : List Addr} {ls : List (List Nat)} {i : Nat} {a : Addr}, Tups H as ls → as[i]? = some a → ∃ l, ls[i]? = some l ∧ H a = some (.tup (nv l))
  | _, _, _, _, .nil, h => by simp at h
  | _, _, 0, _, .cons (b := p) h _, e => by
    cases Option.some.inj e
    exact ⟨p, rfl, h⟩
  | _, _, i + 1, a, .cons _ r, e => tups_get (i := i) r e
def td (l : List Nat) : PyData := .tuple (nd l)
theorem tups_dp {K : PySem.W.Frag} {H : Hp} : ∀ {as : List Addr} {ls : List (List Nat)}, Tups H as ls → DpAll K H (as.map V.ref) (ls.map td)
  | _, _, .nil => .nil
  | _, _, .cons (b := l) h r => .cons (.tup (.inl (.inl h)) (dp_nats l)) (tups_dp r)
theorem fine_tds {ls : List (List Nat)} {n m : Nat} (h : ∀ l ∈ ls, l.length ≤ m ∧ ∀ i ∈ l, i < 2 ^ 60) (hn : ls.length ≤ n) (hb : n ≤ 100000) (hm : m ≤ 100000) : Fine 2 (n * (m * 63 + 5) + 3) (.list (ls.map td)) :=
  fine_list (fun d hd => by
    obtain ⟨l, hl, rfl⟩ := List.mem_map.mp hd
    exact fine_tup (h l hl).2 (h l hl).1 hm) (by rw [List.length_map]; exact hn) hb
/-- the pairings before the first call and behind each -/
def alongs (qs : List (Nat × Nat)) (ps : List Nat) (i : Nat) : List (List Nat) := (List.range (i + 1)).map fun j => runs (qs.take j) ps
theorem alongs_zero (qs : List (Nat × Nat)) (ps : List Nat) : alongs qs ps 0 = [ps] := rfl
theorem alongs_succ (qs : List (Nat × Nat)) (ps : List Nat) (i : Nat) : alongs qs ps (i + 1) = alongs qs ps i ++ [runs (qs.take (i + 1)) ps] := by
  unfold alongs
  rw [List.range_succ, List.map_append]
  rfl
theorem alongs_len (qs : List (Nat × Nat)) (ps : List Nat) (i : Nat) : (alongs qs ps i).length = i + 1 := by
  unfold alongs
  rw [List.length_map, List.length_range]
theorem alongs_mem {n i : Nat} {qs : List (Nat × Nat)} {ps l : List Nat} (hP : IsPair n ps) (hc : Calls n qs) (h : l ∈ alongs qs ps i) : IsPair n l := by
  obtain ⟨j, _, rfl⟩ := List.mem_map.mp h
  exact runs_pair _ hP (hc.take j)
end Pc
namespace Pc
open PySem PySem.Spec PyProof.Rows L2 RZ
/-! ### sheets as lists of natural numbers -/
/-- the empty sheet of n people -/
def emp (n : Nat) : List Nat := (List.range (2 * n)).map fun e => (e + n) % (2 * n)
theorem emp_len (n : Nat) : (emp n).length = 2 * n := by unfold emp; rw [List.length_map, List.length_range]
theorem emp_get {n e : Nat} (h : e < 2 * n) : (emp n)[e]? = some ((e + n) % (2 * n)) := by
  unfold emp
  rw [List.getElem?_map, List.getElem?_range h]
  rfl
theorem emp_lo {n e : Nat} (h : e < n) : (emp n)[e]? = some (n + e) := by
  rw [emp_get (by omega), Nat.mod_eq_of_lt (by omega), Nat.add_comm]
theorem emp_hi {n e : Nat} (h : e < n) : (emp n)[n + e]? = some e := by
  rw [emp_get (by omega), show n + e + n = e + 1 * (2 * n) by omega, Nat.add_mul_mod_self_right, Nat.mod_eq_of_lt (by omega)]
theorem emp_pair {n : Nat} (hn : 0 < n) : IsPair (2 * n) (emp n) := by
  refine ⟨emp_len n, fun x hx => ?_⟩
  by_cases h : x < n
  · exact ⟨n + x, emp_lo h, by omega, by omega, emp_hi h⟩
  · have e : x = n + (x - n) := by omega
    refine ⟨x - n, ?_, by omega, by omega, ?_⟩
    · have := emp_hi (n := n) (e := x - n) (by omega)
      rw [← e] at this; exact this
    · have := emp_lo (n := n) (e := x - n) (by omega)
      rw [← e] at this; exact this
/-- the calls at the lower ends -/
def low (n : Nat) (qs : List (Nat × Nat)) : List (Nat × Nat) := qs.map fun q => (n + q.1, n + q.2)
theorem low_calls {n : Nat} {qs : List (Nat × Nat)} (h : Calls n qs) : Calls (2 * n) (low n qs) := fun q hq => by
  obtain ⟨r, hr, rfl⟩ := List.mem_map.mp hq
  have := h r hr
  exact ⟨by show n + r.1 < n + r.2; omega, by show n + r.2 < 2 * n; omega⟩
theorem low_take (n : Nat) (qs : List (Nat × Nat)) (i : Nat) : (low n qs).take i = low n (qs.take i) := by unfold low; rw [List.map_take]
theorem low_get {n i : Nat} {qs : List (Nat × Nat)} {q : Nat × Nat} (h : qs[i]? = some q) : (low n qs)[i]? = some (n + q.1, n + q.2) := by
  unfold low; rw [List.getElem?_map, h]; rfl
/-- the sheet with calls added -/
def shw (n : Nat) (qs : List (Nat × Nat)) (fs : List Nat) : List Nat := runs (low n qs) fs
theorem shw_take {n i : Nat} {qs : List (Nat × Nat)} {fs : List Nat} {q : Nat × Nat} (h : qs[i]? = some q) : shw n (qs.take (i + 1)) fs = jn (shw n (qs.take i) fs) (n + q.1) (n + q.2) := by
  unfold shw
  rw [← low_take, ← low_take, runs_take (low_get h)]
theorem shw_pair {n : Nat} {qs : List (Nat × Nat)} {fs : List Nat} (hP : IsPair (2 * n) fs) (h : Calls n qs) : IsPair (2 * n) (shw n qs fs) := runs_pair _ hP (low_calls h)
/-- the other order of the stores -/
theorem jn_alt {n : Nat} {fs : List Nat} (h : IsPair n fs) {a b c d : Nat} (hab : a ≠ b) (ea : fs[a]? = some c) (eb : fs[b]? = some d) (hcb : c ≠ b) : (((fs.set c d).set d c).set a b).set b a = jn fs a b := by
  obtain ⟨x1, x2, x3, x4, l1, l2, l3, l4⟩ := four h hab ea eb hcb
  have hl := h.len
  refine List.ext_getElem? fun z => ?_
  rw [jn_get h hab ea eb hcb]
  by_cases z2 : z = b
  · subst z2
    rw [List.getElem?_set_self (by simp only [List.length_set]; omega), if_neg hab.symm, if_pos rfl]
  · rw [List.getElem?_set_ne (Ne.symm z2)]
    by_cases z1 : z = a
    · subst z1
      rw [List.getElem?_set_self (by simp only [List.length_set]; omega), if_pos rfl]
    · rw [List.getElem?_set_ne (Ne.symm z1), if_neg z1, if_neg z2]
      by_cases z4 : z = d
      · subst z4
        rw [List.getElem?_set_self (by simp only [List.length_set]; omega), if_neg (Ne.symm x4), if_pos rfl]
      · rw [List.getElem?_set_ne (Ne.symm z4)]
        by_cases z3 : z = c
        · subst z3
          rw [List.getElem?_set_self (by omega), if_pos rfl]
        · rw [List.getElem?_set_ne (Ne.symm z3), if_neg z3, if_neg z4]
theorem range_shift (n : Nat) : rgV (n : Int) (2 * (n : Int)) = nv ((List.range n).map fun i => n + i) := by
  unfold rgV nv
  rw [show (2 * (n : Int) - (n : Int)).toNat = n by omega, List.map_map]
  refine List.map_congr_left fun i _ => ?_
  show V.int ((n : Int) + (i : Nat)) = V.int (((n + i : Nat) : Int))
  rw [show (((n + i : Nat) : Int)) = (n : Int) + (i : Nat) by omega]
/-- strands in any order: the upper ends in turn, the lower ends as drawn -/
def SInv (n : Nat) (ls fs : List Nat) (t : Nat) : Prop := fs.length = 2 * n ∧ ∀ j, j < t → ∀ l, ls[j]? = some l → fs[j]? = some l ∧ fs[l]? = some j
theorem SInv.step {n : Nat} {ls fs : List Nat} {t l : Nat} (hp : ls.Perm ((List.range n).map fun i => n + i)) (h : SInv n ls fs t) (hl : ls[t]? = some l) : SInv n ls ((fs.set t l).set l t) (t + 1) := by
  have hln : ls.length = n := by rw [hp.length_eq, List.length_map, List.length_range]
  have hnd : ls.Nodup := hp.nodup_iff.mpr (List.Pairwise.map _ (fun a b (hab : a ≠ b) => show n + a ≠ n + b by omega) List.nodup_range)
  have big : ∀ {j x : Nat}, ls[j]? = some x → n ≤ x ∧ x < 2 * n := fun hx => by
    obtain ⟨i, hi, e⟩ := List.mem_map.mp (hp.mem_iff.mp (List.mem_of_getElem? hx))
    have := List.mem_range.mp hi
    omega
  have ht : t < n := by rw [← hln]; exact get_lt hl
  have hb := big hl
  obtain ⟨h1, h2⟩ := h
  refine ⟨by simp only [List.length_set]; exact h1, fun j hj x hx => ?_⟩
  have hjn : j < n := by rw [← hln]; exact get_lt hx
  have hbx := big hx
  by_cases e : j = t
  · subst e
    cases Option.some.inj (hl.symm.trans hx)
    exact ⟨by rw [List.getElem?_set_ne (by omega), List.getElem?_set_self (by omega)], by rw [List.getElem?_set_self (by simp only [List.length_set]; omega)]⟩
  · obtain ⟨g1, g2⟩ := h2 j (by omega) x hx
    have xl : l ≠ x := fun z => by subst z; exact e (nd_ix hnd hx hl)
    exact ⟨by rw [List.getElem?_set_ne (by omega), List.getElem?_set_ne (by omega)]; exact g1, by rw [List.getElem?_set_ne xl, List.getElem?_set_ne (by omega)]; exact g2⟩
theorem SInv.done {n : Nat} {ls fs : List Nat} (hp : ls.Perm ((List.range n).map fun i => n + i)) (h : SInv n ls fs n) : IsPair (2 * n) fs := by
  have hln : ls.length = n := by rw [hp.length_eq, List.length_map, List.length_range]
  refine ⟨h.1, fun x hx => ?_⟩
  by_cases e : x < n
  · obtain ⟨l, hl⟩ := get_some (l := ls) (i := x) (by omega)
    obtain ⟨i, hi, e'⟩ := List.mem_map.mp (hp.mem_iff.mp (List.mem_of_getElem? hl))
    have := List.mem_range.mp hi
    obtain ⟨g1, g2⟩ := h.2 x e l hl
    exact ⟨l, g1, by omega, by omega, g2⟩
  · have hm : x ∈ ls := hp.mem_iff.mpr (List.mem_map.mpr ⟨x - n, List.mem_range.mpr (by omega), by omega⟩)
    obtain ⟨j, hj, ej⟩ := List.mem_iff_getElem.mp hm
    obtain ⟨g1, g2⟩ := h.2 j (by omega) x (by rw [List.getElem?_eq_getElem hj, ej])
    exact ⟨j, g2, by omega, by omega, g1⟩
theorem emp_step (n i : Nat) (h : i < 2 * n) : (emp n).take (i + 1) = (emp n).take i ++ [(i + n) % (2 * n)] := by
  rw [List.take_add_one, emp_get h]
  rfl
theorem nv_snoc' (l : List Nat) (x : Nat) : nv l ++ [.int (x : Int)] = nv (l ++ [x]) := by
  unfold nv
  rw [List.map_append]; rfl
theorem mod_cast_n (i n : Nat) : ((0 : Int) + (i : Nat) + (n : Int)) % (2 * (n : Int)) = (((i + n) % (2 * n) : Nat) : Int) := by
  have h : (((i + n) % (2 * n) : Nat) : Int) = ((i + n : Nat) : Int) % ((2 * n : Nat) : Int) := Int.natCast_emod _ _
  rw [h, Int.natCast_add, Int.natCast_mul, Int.zero_add]
  rfl
end Pc
namespace Pc
open PySem PySem.Spec PyProof.Rows L2 RZ
/-! ### pairs that are chosen from a range -/
def selN (c : Nat → Bool) (g : Nat → Nat × Nat) (i : Nat) : List (Nat × Nat) := ((List.range i).filter c).map g
theorem selN_yes {c : Nat → Bool} {g : Nat → Nat × Nat} {i : Nat} (h : c i = true) : selN c g (i + 1) = selN c g i ++ [g i] := by
  unfold selN
  rw [List.range_succ, List.filter_append, List.map_append, List.filter_cons_of_pos h, List.filter_nil, List.map_cons, List.map_nil]
theorem selN_no {c : Nat → Bool} {g : Nat → Nat × Nat} {i : Nat} (h : c i = false) : selN c g (i + 1) = selN c g i := by
  unfold selN
  rw [List.range_succ, List.filter_append, List.map_append, List.filter_cons_of_neg (by rw [h]; decide), List.filter_nil, List.map_nil, List.append_nil]
theorem selN_len (c : Nat → Bool) (g : Nat → Nat × Nat) (i : Nat) : (selN c g i).length ≤ i := by
  unfold selN
  rw [List.length_map]
  exact Nat.le_trans (List.length_filter_le _ _) (by rw [List.length_range]; exact Nat.le_refl _)
theorem selN_mem {c : Nat → Bool} {g : Nat → Nat × Nat} {i : Nat} {p : Nat × Nat} : p ∈ selN c g i ↔ ∃ x, x < i ∧ c x = true ∧ g x = p := by
  unfold selN
  rw [List.mem_map]
  constructor
  · rintro ⟨x, hx, e⟩
    have := List.mem_filter.mp hx
    exact ⟨x, List.mem_range.mp this.1, this.2, e⟩
  · rintro ⟨x, h1, h2, e⟩
    exact ⟨x, List.mem_filter.mpr ⟨List.mem_range.mpr h1, h2⟩, e⟩
/-- one more pair is put to the list -/
theorem sel_step {H H1 : Hp} {D u : Addr} {as : List Addr} {c : Nat → Bool} {g : Nat → Nat × Nat} {i : Nat} {v1 v2 : V} (nD : H D = none) (sm : Same H H1) (eD : H1 D = some (.lst (as.map V.ref))) (hA : Prs H1 as (selN c g i)) (hc : c i = true) (nu : H1 u = none)
    (hv : [v1, v2] = [V.int ((g i).1 : Int), V.int ((g i).2 : Int)]) (hi : i ≤ 999) : ∃ acc, (upd H1 u (.tup [v1, v2])) D = some (.lst acc) ∧ acc.length < sizeLine ∧
      (Same H (upd (upd H1 u (.tup [v1, v2])) D (.lst (acc ++ [.ref u]))) ∧ ∃ as' : List Addr, (upd (upd H1 u (.tup [v1, v2])) D (.lst (acc ++ [.ref u]))) D = some (.lst (as'.map V.ref)) ∧ Prs (upd (upd H1 u (.tup [v1, v2])) D (.lst (acc ++ [.ref u]))) as' (selN c g (i + 1))) := by
  have su : Same H1 (upd H1 u (.tup [v1, v2])) := same_new nu
  have nuD : u ≠ D := fun e => by rw [e, eD] at nu; cases nu
  refine ⟨_, su _ _ eD, ?_, fun b' o hb => ?_, as ++ [u], ?_, ?_⟩
  · rw [List.length_map, hA.length]
    have := selN_len c g i
    exact small1000 (by omega)
  · rw [upd_ne (ne_of_none hb nD)]; exact su _ _ (sm _ _ hb)
  · rw [upd_same, List.map_append]; rfl
  · rw [selN_yes hc]
    refine prs_append (prs_keep (b := D) (ys := as.map V.ref) keep_upd (su _ _ eD) (prs_same su hA)) (.cons ?_ .nil)
    rw [upd_ne nuD, upd_same, hv]
theorem ix_sq {K : PySem.W.Frag} {H : Hp} {a : Addr} {xs : List V} {i : Int} {v : V} {Q : VK} (h : Sq K H a xs) (e : atI xs i = some v) (q : Q v H) : rIx K (.ref a) (.int i) H Q :=
  h.elim (fun z => .inl ⟨a, xs, i, v, rfl, rfl, z, e, q⟩) (fun z => .inr (.inl ⟨a, xs, i, v, rfl, rfl, z, e, q⟩))
/-! ### upper pairs, lower pairs, strands -/
def upC (fs : List Nat) (n x : Nat) : Bool := decide (x < fs.getD x 0) && decide (fs.getD x 0 < n)
def upG (fs : List Nat) (x : Nat) : Nat × Nat := (x, fs.getD x 0)
def loC (fs : List Nat) (n x : Nat) : Bool := decide (n + x < fs.getD (n + x) 0)
def loG (fs : List Nat) (n x : Nat) : Nat × Nat := (x, fs.getD (n + x) 0 - n)
def stC (fs : List Nat) (n x : Nat) : Bool := decide (n ≤ fs.getD x 0)
def stG (fs : List Nat) (n x : Nat) : Nat × Nat := (x, fs.getD x 0 - n)
def ups (fs : List Nat) (n : Nat) : List (Nat × Nat) := selN (upC fs n) (upG fs) n
def los (fs : List Nat) (n : Nat) : List (Nat × Nat) := selN (loC fs n) (loG fs n) n
def sts (fs : List Nat) (n : Nat) : List (Nat × Nat) := selN (stC fs n) (stG fs n) n
theorem ups_mem {n : Nat} {fs : List Nat} (h : IsPair (2 * n) fs) {p : Nat × Nat} (hp : p ∈ ups fs n) : fs[p.1]? = some p.2 ∧ p.1 < p.2 ∧ p.2 < n := by
  obtain ⟨x, hx, hc, e⟩ := selN_mem.mp hp
  obtain ⟨y, ey, _⟩ := h.par x (by omega)
  unfold upC at hc
  rw [getD_of ey, Bool.and_eq_true, decide_eq_true_iff, decide_eq_true_iff] at hc
  subst e
  show fs[x]? = some (fs.getD x 0) ∧ x < fs.getD x 0 ∧ fs.getD x 0 < n
  rw [getD_of ey]
  exact ⟨ey, hc.1, hc.2⟩
theorem los_mem {n : Nat} {fs : List Nat} (h : IsPair (2 * n) fs) {p : Nat × Nat} (hp : p ∈ los fs n) : fs[n + p.1]? = some (n + p.2) ∧ p.1 < p.2 ∧ p.2 < n := by
  obtain ⟨x, hx, hc, e⟩ := selN_mem.mp hp
  obtain ⟨y, ey, hy, _⟩ := h.par (n + x) (by omega)
  unfold loC at hc
  rw [getD_of ey, decide_eq_true_iff] at hc
  subst e
  show fs[n + x]? = some (n + (fs.getD (n + x) 0 - n)) ∧ x < fs.getD (n + x) 0 - n ∧ fs.getD (n + x) 0 - n < n
  rw [getD_of ey, show n + (y - n) = y by omega]
  exact ⟨ey, by omega, by omega⟩
theorem sts_mem {n : Nat} {fs : List Nat} (h : IsPair (2 * n) fs) {p : Nat × Nat} (hp : p ∈ sts fs n) : fs[p.1]? = some (n + p.2) ∧ p.1 < n ∧ p.2 < n := by
  obtain ⟨x, hx, hc, e⟩ := selN_mem.mp hp
  obtain ⟨y, ey, hy, _⟩ := h.par x (by omega)
  unfold stC at hc
  rw [getD_of ey, decide_eq_true_iff] at hc
  subst e
  show fs[x]? = some (n + (fs.getD x 0 - n)) ∧ x < n ∧ fs.getD x 0 - n < n
  rw [getD_of ey, show n + (y - n) = y by omega]
  exact ⟨ey, by omega, by omega⟩
/-- all joins of a sheet, as pairs of ends -/
def jns (fs : List Nat) (n : Nat) : List (Nat × Nat) := ups fs n ++ ((los fs n).map (fun p => (n + p.1, n + p.2)) ++ (sts fs n).map (fun p => (p.1, n + p.2)))
theorem jns_ok {n : Nat} {fs : List Nat} (h : IsPair (2 * n) fs) : ∀ p ∈ jns fs n, fs[p.1]? = some p.2 ∧ p.1 < p.2 := fun p hp => by
  rcases List.mem_append.mp hp with z | z
  · have := ups_mem h z; exact ⟨this.1, this.2.1⟩
  · rcases List.mem_append.mp z with z | z
    · obtain ⟨r, hr, rfl⟩ := List.mem_map.mp z
      have := los_mem h hr
      exact ⟨this.1, by show n + r.1 < n + r.2; omega⟩
    · obtain ⟨r, hr, rfl⟩ := List.mem_map.mp z
      have := sts_mem h hr
      exact ⟨this.1, by show r.1 < n + r.2; omega⟩
theorem sel_fst {c : Nat → Bool} {g : Nat → Nat × Nat} {i : Nat} (h : ∀ x, (g x).1 = x) : (selN c g i).map Prod.fst = (List.range i).filter c := by
  unfold selN
  rw [List.map_map]
  conv => rhs; rw [← List.map_id ((List.range i).filter c)]
  exact List.map_congr_left fun x _ => h x
theorem jns_nodup {n : Nat} {fs : List Nat} (h : IsPair (2 * n) fs) : ((jns fs n).map Prod.fst).Nodup := by
  have e1 : (ups fs n).map Prod.fst = (List.range n).filter (upC fs n) := sel_fst fun _ => rfl
  have e2 : ((los fs n).map (fun p => (n + p.1, n + p.2))).map Prod.fst = ((List.range n).filter (loC fs n)).map (fun x => n + x) := by
    rw [← sel_fst (c := loC fs n) (g := loG fs n) (i := n) fun _ => rfl, List.map_map, List.map_map]; rfl
  have e3 : ((sts fs n).map (fun p => (p.1, n + p.2))).map Prod.fst = (List.range n).filter (stC fs n) := by
    rw [← sel_fst (c := stC fs n) (g := stG fs n) (i := n) fun _ => rfl, List.map_map]; rfl
  unfold jns
  rw [List.map_append, List.map_append, e1, e2, e3]
  have nr : (List.range n).Nodup := List.nodup_range
  refine List.nodup_append.mpr ⟨nr.filter _, List.nodup_append.mpr ⟨?_, nr.filter _, fun a ha b hb => ?_⟩, fun a ha b hb => ?_⟩
  · exact List.Pairwise.map _ (fun a b (hab : a ≠ b) => show n + a ≠ n + b by omega) (nr.filter _)
  · obtain ⟨x, _, rfl⟩ := List.mem_map.mp ha
    have := List.mem_range.mp (List.mem_filter.mp hb).1
    omega
  · have ha1 := List.mem_range.mp (List.mem_filter.mp ha).1
    have ha2 := (List.mem_filter.mp ha).2
    unfold upC at ha2
    rw [Bool.and_eq_true, decide_eq_true_iff, decide_eq_true_iff] at ha2
    rcases List.mem_append.mp hb with z | z
    · obtain ⟨x, _, rfl⟩ := List.mem_map.mp z; omega
    · have hb2 := (List.mem_filter.mp z).2
      unfold stC at hb2
      rw [decide_eq_true_iff] at hb2
      intro e; subst e; omega
theorem jns_all {n : Nat} {fs : List Nat} (h : IsPair (2 * n) fs) {z y : Nat} (e : fs[z]? = some y) (hz : z < y) : (z, y) ∈ jns fs n := by
  obtain ⟨_, hy, hz2, _⟩ := h.back e
  unfold jns
  by_cases c : z < n
  · by_cases d : y < n
    · refine List.mem_append.mpr (.inl (selN_mem.mpr ⟨z, c, ?_, ?_⟩))
      · unfold upC; rw [getD_of e, decide_eq_true hz, decide_eq_true d]; rfl
      · unfold upG; rw [getD_of e]
    · refine List.mem_append.mpr (.inr (List.mem_append.mpr (.inr (List.mem_map.mpr ⟨(z, y - n), selN_mem.mpr ⟨z, c, ?_, ?_⟩, ?_⟩))))
      · unfold stC; rw [getD_of e]; exact decide_eq_true (by omega)
      · unfold stG; rw [getD_of e]
      · show (z, n + (y - n)) = (z, y); rw [show n + (y - n) = y by omega]
  · have e' : fs[n + (z - n)]? = some y := by rw [show n + (z - n) = z by omega]; exact e
    refine List.mem_append.mpr (.inr (List.mem_append.mpr (.inl (List.mem_map.mpr ⟨(z - n, y - n), selN_mem.mpr ⟨z - n, by omega, ?_, ?_⟩, ?_⟩))))
    · unfold loC; rw [getD_of e']; exact decide_eq_true (by omega)
    · unfold loG; rw [getD_of e']
    · show (n + (z - n), n + (y - n)) = (z, y); rw [show n + (z - n) = z by omega, show n + (y - n) = y by omega]
/-- the ends of joins in a row -/
def flat : List (Nat × Nat) → List Nat
  | [] => []
  | p :: r => p.1 :: p.2 :: flat r
theorem flat_app : ∀ a b : List (Nat × Nat), flat (a ++ b) = flat a ++ flat b
  | [], _ => rfl
  | p :: r, b => by show p.1 :: p.2 :: flat (r ++ b) = _; rw [flat_app r b]; rfl
theorem flat_mem : ∀ {l : List (Nat × Nat)} {z : Nat}, z ∈ flat l ↔ ∃ p ∈ l, z = p.1 ∨ z = p.2
  | [], z => by simp [flat]
  | p :: r, z => by
    show z ∈ p.1 :: p.2 :: flat r ↔ _
    rw [List.mem_cons, List.mem_cons, flat_mem (l := r)]
    constructor
    · rintro (e | e | ⟨q, hq, e⟩)
      · exact ⟨p, List.mem_cons_self, .inl e⟩
      · exact ⟨p, List.mem_cons_self, .inr e⟩
      · exact ⟨q, List.mem_cons_of_mem _ hq, e⟩
    · rintro ⟨q, hq, e⟩
      rcases List.mem_cons.mp hq with z | z
      · subst z; exact e.elim .inl (fun e => .inr (.inl e))
      · exact .inr (.inr ⟨q, z, e⟩)
theorem flat_len : ∀ l : List (Nat × Nat), (flat l).length = 2 * l.length
  | [] => rfl
  | p :: r => by show (flat r).length + 1 + 1 = 2 * (r.length + 1); rw [flat_len r]; omega
theorem flat_nodup {n : Nat} {fs : List Nat} (h : IsPair n fs) : ∀ {l : List (Nat × Nat)}, (∀ p ∈ l, fs[p.1]? = some p.2 ∧ p.1 < p.2) → (l.map Prod.fst).Nodup → (flat l).Nodup
  | [], _, _ => List.nodup_nil
  | p :: r, ho, hd => by
    have hp := ho p List.mem_cons_self
    obtain ⟨n1, n2⟩ := List.nodup_cons.mp (show (p.1 :: r.map Prod.fst).Nodup from hd)
    have hr : ∀ q ∈ r, fs[q.1]? = some q.2 ∧ q.1 < q.2 := fun q hq => ho q (List.mem_cons_of_mem _ hq)
    have ih := flat_nodup h hr n2
    have bp := (h.back hp.1).1
    have ne1 : ∀ q ∈ r, p.1 ≠ q.1 := fun q hq e => n1 (List.mem_map.mpr ⟨q, hq, e.symm⟩)
    show (p.1 :: p.2 :: flat r).Nodup
    refine List.nodup_cons.mpr ⟨fun hm => ?_, List.nodup_cons.mpr ⟨fun hm => ?_, ih⟩⟩
    · rcases List.mem_cons.mp hm with e | e
      · omega
      · obtain ⟨q, hq, e⟩ := flat_mem.mp e
        have hq' := hr q hq
        rcases e with e | e
        · exact ne1 q hq e
        · have bq := (h.back hq'.1).1
          rw [← e, hp.1] at bq
          have := Option.some.inj bq
          omega
    · obtain ⟨q, hq, e⟩ := flat_mem.mp hm
      have hq' := hr q hq
      rcases e with e | e
      · have e1 := hq'.1
        rw [← e, bp] at e1
        have := Option.some.inj e1
        omega
      · have bq := (h.back hq'.1).1
        rw [← e, bp] at bq
        exact ne1 q hq (Option.some.inj bq)
theorem jns_perm {n : Nat} {fs : List Nat} (h : IsPair (2 * n) fs) : (flat (jns fs n)).Perm (List.range (2 * n)) := by
  refine (List.perm_ext_iff_of_nodup (flat_nodup h (jns_ok h) (jns_nodup h)) List.nodup_range).mpr fun z => ?_
  rw [flat_mem, List.mem_range]
  constructor
  · rintro ⟨p, hp, e⟩
    obtain ⟨b1, b2, b3, _⟩ := h.back (jns_ok h p hp).1
    rcases e with e | e <;> omega
  · intro hz
    obtain ⟨y, ey, hy, hne, eb⟩ := h.par z hz
    by_cases c : z < y
    · exact ⟨_, jns_all h ey c, .inl rfl⟩
    · exact ⟨_, jns_all h eb (by omega), .inr rfl⟩
theorem flat_two {f : Nat → Bool} : ∀ {l : List (Nat × Nat)}, (∀ p ∈ l, f p.1 = true ∧ f p.2 = true) → (flat l).countP f = 2 * l.length
  | [], _ => rfl
  | p :: r, h => by
    have hp := h p List.mem_cons_self
    show (p.1 :: p.2 :: flat r).countP f = _
    rw [List.countP_cons_of_pos hp.1, List.countP_cons_of_pos hp.2, flat_two fun q hq => h q (List.mem_cons_of_mem _ hq), List.length_cons]
    omega
theorem flat_none {f : Nat → Bool} : ∀ {l : List (Nat × Nat)}, (∀ p ∈ l, f p.1 = false ∧ f p.2 = false) → (flat l).countP f = 0
  | [], _ => rfl
  | p :: r, h => by
    have hp := h p List.mem_cons_self
    show (p.1 :: p.2 :: flat r).countP f = _
    rw [List.countP_cons_of_neg (by rw [hp.1]; decide), List.countP_cons_of_neg (by rw [hp.2]; decide), flat_none fun q hq => h q (List.mem_cons_of_mem _ hq)]
theorem flat_one {f : Nat → Bool} : ∀ {l : List (Nat × Nat)}, (∀ p ∈ l, f p.1 = true ∧ f p.2 = false) → (flat l).countP f = l.length
  | [], _ => rfl
  | p :: r, h => by
    have hp := h p List.mem_cons_self
    show (p.1 :: p.2 :: flat r).countP f = _
    rw [List.countP_cons_of_pos hp.1, List.countP_cons_of_neg (by rw [hp.2]; decide), flat_one fun q hq => h q (List.mem_cons_of_mem _ hq), List.length_cons]
theorem range_low (n : Nat) : (List.range (2 * n)).countP (fun z => decide (z < n)) = n := by
  rw [show 2 * n = n + n by omega, List.range_add, List.countP_append, List.countP_eq_length.mpr (fun a ha => decide_eq_true (List.mem_range.mp ha)), List.countP_eq_zero.mpr (fun a ha => ?_), List.length_range, Nat.add_zero]
  obtain ⟨x, _, rfl⟩ := List.mem_map.mp ha
  rw [decide_eq_true_iff]; omega
theorem ups_los {n : Nat} {fs : List Nat} (h : IsPair (2 * n) fs) : (ups fs n).length = (los fs n).length := by
  have hp := jns_perm h
  have hl := hp.length_eq
  have hc := hp.countP_eq (fun z => decide (z < n))
  rw [range_low] at hc
  rw [flat_len, List.length_range] at hl
  unfold jns at hc hl
  rw [List.length_append, List.length_append, List.length_map, List.length_map] at hl
  have x1 : (flat (ups fs n)).countP (fun z => decide (z < n)) = 2 * (ups fs n).length := flat_two fun p hp => by
    have := ups_mem h hp
    exact ⟨decide_eq_true (by omega), decide_eq_true (by omega)⟩
  have x2 : (flat ((los fs n).map (fun p => (n + p.1, n + p.2)))).countP (fun z => decide (z < n)) = 0 := flat_none fun p hp => by
    obtain ⟨r, hr, rfl⟩ := List.mem_map.mp hp
    exact ⟨decide_eq_false (by show ¬ n + r.1 < n; omega), decide_eq_false (by show ¬ n + r.2 < n; omega)⟩
  have x3 : (flat ((sts fs n).map (fun p => (p.1, n + p.2)))).countP (fun z => decide (z < n)) = ((sts fs n).map (fun p => (p.1, n + p.2))).length := flat_one fun p hp => by
    obtain ⟨r, hr, rfl⟩ := List.mem_map.mp hp
    have := sts_mem h hr
    exact ⟨decide_eq_true (by show r.1 < n; omega), decide_eq_false (by show ¬ n + r.2 < n; omega)⟩
  rw [flat_app, flat_app, List.countP_append, List.countP_append, x1, x2, x3, List.length_map] at hc
  omega
end Pc
namespace Pc
open PySem PySem.Spec PyProof.Rows L2 RZ
section
variable {P : Program} {w : World} {K : PySem.W.Frag} {mg : Str → Option Value} {base : Heap}
/-! ### the number of people of a sheet -/
def spPeople (K : PySem.W.Frag) : Sp := fun vs H Q _ => ∃ (a : Addr) (fs : List Nat) (n : Nat), vs = [.ref a] ∧ Sq K H a (nv fs) ∧ fs.length = 2 * n ∧ Q (.int n) H
theorem ok_p_people_of (T : Env K mg) : FnOk P w K mg base CX0 1 T.f_p_people_of T.d_p_people_of ["sheet"] (spPeople K) := by
  refine T.F_p_people_of.ok sc_p_people_of (fun vs H Q E h => ?_) (fun cdv A outer s H vs Q E hr h => ?_)
  · obtain ⟨a, fs, n, rfl, _⟩ := h
    rfl
  · obtain ⟨a, fs, n, rfl, hS, hl, q⟩ := h
    refine ⟨_, pss_one (ps_ret (pe_op op_fdiv (pe_callB call_len_seq (by rfl) T.n_len PySem.boot_len (pa_cons (pv 0) pa_nil)) pe_int)), ?_⟩
    refine ⟨.ref a, rfl, a, _, rfl, hS, _, 2, rfl, rfl, ⟨by decide, by decide⟩, ?_⟩
    show Q (.int (((nv fs).length : Int) / 2)) H
    rw [nv_length, hl, show (((2 * n : Nat) : Int) / 2) = (n : Int) by omega]
    exact q
end
end Pc
namespace Pc
/-! ### ways along a sheet and a pairing -/
/-- nodup numbers below n are n at most -/
theorem few_below : ∀ (n : Nat) (l : List Nat), l.Nodup → (∀ x ∈ l, x < n) → l.length ≤ n
  | 0, l, _, h => by
    cases l with
    | nil => exact Nat.le_refl _
    | cons a r => exact absurd (h a List.mem_cons_self) (Nat.not_lt_zero _)
  | n + 1, l, hd, h => by
    by_cases hm : n ∈ l
    · have h1 : (l.erase n).length = l.length - 1 := List.length_erase_of_mem hm
      have h2 := few_below n (l.erase n) (hd.erase n) (fun x hx => by
        have hx' := (hd.mem_erase_iff).mp hx
        have := h x hx'.2
        have := hx'.1
        omega)
      omega
    · have h2 := few_below n l hd (fun x hx => by
        have := h x hx
        have : x ≠ n := fun e => hm (e ▸ hx)
        omega)
      omega
/-- a function on the first n + 1 numbers into the n first ones takes one value twice -/
theorem pigeon (n : Nat) (f : Nat → Nat) (h : ∀ i, i ≤ n → f i < n) : ∃ i j, i < j ∧ j ≤ n ∧ f i = f j := by
  apply Classical.byContradiction
  intro hn
  have hd : ((List.range (n + 1)).map f).Nodup := by
    rw [List.nodup_iff_pairwise_ne, List.pairwise_map]
    refine List.Pairwise.imp_of_mem ?_ List.pairwise_lt_range
    intro a b ha hb hab e
    exact hn ⟨a, b, hab, by have := List.mem_range.mp hb; omega, e⟩
  have := few_below n _ hd (fun x hx => by
    obtain ⟨i, hi, rfl⟩ := List.mem_map.mp hx
    exact h i (by have := List.mem_range.mp hi; omega))
  rw [List.length_map, List.length_range] at this
  omega
section
variable (fs ps : List Nat) (n : Nat)
/-- the whole way from an end: along the join, along the couple, and so on until a lower end -/
inductive Trail : Nat → List Nat → Prop
  | stop {z : Nat} : n ≤ fs.getD z 0 → Trail z [z, fs.getD z 0]
  | go {z : Nat} {l : List Nat} : fs.getD z 0 < n → Trail (ps.getD (fs.getD z 0) 0) l → Trail z (z :: fs.getD z 0 :: l)
/-- where the steps of a way begin -/
def hop (z : Nat) : Nat → Nat
  | 0 => z
  | k + 1 => ps.getD (fs.getD (hop z k) 0) 0
end
theorem IsPair.d {n : Nat} {ps : List Nat} (h : IsPair n ps) {x : Nat} (hx : x < n) : ps.getD x 0 < n ∧ ps.getD x 0 ≠ x ∧ ps.getD (ps.getD x 0) 0 = x ∧ ps[x]? = some (ps.getD x 0) := by
  obtain ⟨y, h1, h2, h3, h4⟩ := h.par x hx
  rw [getD_of h1]
  exact ⟨h2, h3, getD_of h4, h1⟩
theorem IsPair.inj {n : Nat} {ps : List Nat} (h : IsPair n ps) {x y : Nat} (hx : x < n) (hy : y < n) (e : ps.getD x 0 = ps.getD y 0) : x = y := by
  rw [← (h.d hx).2.2.1, ← (h.d hy).2.2.1, e]
theorem Trail.det {fs ps : List Nat} {n z : Nat} {l m : List Nat} (h : Trail fs ps n z l) : Trail fs ps n z m → l = m := by
  induction h generalizing m with
  | stop h1 => intro h; cases h with
    | stop _ => rfl
    | go h2 _ => omega
  | go h1 _ ih => intro h; cases h with
    | stop h2 => omega
    | go _ h3 => rw [ih h3]
theorem Trail.len {fs ps : List Nat} {n z : Nat} {l : List Nat} (h : Trail fs ps n z l) : 2 ≤ l.length ∧ l.length % 2 = 0 ∧ n ≤ l.getLastD 0 := by
  induction h with
  | stop h1 => exact ⟨Nat.le_refl _, by simp only [List.length_cons, List.length_nil], h1⟩
  | @go z l h1 _ ih =>
    refine ⟨by simp only [List.length_cons]; omega, by simp only [List.length_cons]; omega, ?_⟩
    cases l with
    | nil => exact absurd ih.1 (by decide)
    | cons a r => exact ih.2.2
theorem hop_step (fs ps : List Nat) (z k : Nat) : hop fs ps (ps.getD (fs.getD z 0) 0) k = hop fs ps z (k + 1) := by
  induction k with
  | zero => rfl
  | succ k ih => rw [hop, ih]; rfl
theorem trail_of {fs ps : List Nat} {n : Nat} : ∀ (m z : Nat), n ≤ fs.getD (hop fs ps z m) 0 → ∃ l, Trail fs ps n z l ∧ l.length ≤ 2 * m + 2
  | 0, z, h => ⟨_, .stop h, Nat.le_refl _⟩
  | m + 1, z, h => by
    by_cases c : fs.getD z 0 < n
    · obtain ⟨l, h1, h2⟩ := trail_of m (ps.getD (fs.getD z 0) 0) (by rw [hop_step]; exact h)
      exact ⟨_, .go c h1, by simp only [List.length_cons]; omega⟩
    · exact ⟨_, .stop (by omega), by simp only [List.length_cons, List.length_nil]; omega⟩
/-- every way from a lower end comes to a lower end -/
theorem trail_ex {fs ps : List Nat} {n : Nat} (hF : IsPair (2 * n) fs) (hP : IsPair n ps) {z : Nat} (hz : n ≤ z) (hz2 : z < 2 * n) : ∃ l, Trail fs ps n z l ∧ l.length ≤ 2 * n + 2 := by
  apply Classical.byContradiction
  intro hn
  have small : ∀ k, k ≤ n → fs.getD (hop fs ps z k) 0 < n := fun k hk => by
    apply Classical.byContradiction
    intro h
    obtain ⟨l, h1, h2⟩ := trail_of (fs := fs) (ps := ps) (n := n) k z (by omega)
    exact hn ⟨l, h1, by omega⟩
  have hl : ∀ k, k ≤ n → hop fs ps z k < 2 * n ∧ (0 < k → hop fs ps z k < n) := fun k hk => by
    cases k with
    | zero => exact ⟨hz2, fun h => absurd h (Nat.lt_irrefl _)⟩
    | succ k =>
      have := (hP.d (small k (by omega))).1
      exact ⟨by show ps.getD _ 0 < 2 * n; omega, fun _ => this⟩
  have diff : ∀ i j, i < j → j ≤ n → hop fs ps z i ≠ hop fs ps z j := fun i => by
    induction i with
    | zero =>
      intro j hj hn2 e
      have := (hl j hn2).2 hj
      have e' : z = hop fs ps z j := e
      omega
    | succ i ih =>
      intro j hj hn2 e
      cases j with
      | zero => omega
      | succ j =>
        have e1 : fs.getD (hop fs ps z i) 0 = fs.getD (hop fs ps z j) 0 := hP.inj (small i (by omega)) (small j (by omega)) e
        exact ih j (by omega) (by omega) (hF.inj (hl i (by omega)).1 (hl j (by omega)).1 e1)
  obtain ⟨i, j, h1, h2, h3⟩ := pigeon n (fun k => fs.getD (hop fs ps z k) 0) small
  exact diff i j h1 h2 (hF.inj (hl i (by omega)).1 (hl j h2).1 h3)
/-- the way of a lower end, and where it ends -/
noncomputable def trl (fs ps : List Nat) (n z : Nat) : List Nat := open Classical in if h : ∃ l, Trail fs ps n z l then h.choose else []
noncomputable def far (fs ps : List Nat) (n z : Nat) : Nat := (trl fs ps n z).getLastD 0
theorem Trail.eq {fs ps : List Nat} {n z : Nat} {l : List Nat} (h : Trail fs ps n z l) : trl fs ps n z = l := by
  unfold trl
  rw [dif_pos ⟨l, h⟩]
  exact (Exists.choose_spec (⟨l, h⟩ : ∃ l, Trail fs ps n z l)).det h
theorem trl_trail {fs ps : List Nat} {n : Nat} (hF : IsPair (2 * n) fs) (hP : IsPair n ps) {z : Nat} (hz : n ≤ z) (hz2 : z < 2 * n) : Trail fs ps n z (trl fs ps n z) ∧ (trl fs ps n z).length ≤ 2 * n + 2 := by
  obtain ⟨l, h1, h2⟩ := trail_ex hF hP hz hz2
  rw [h1.eq]; exact ⟨h1, h2⟩
/-- what is read -/
noncomputable def rd (fs ps : List Nat) (n : Nat) : List Nat := (List.range n).map fun x => far fs ps n (n + x) - n
end Pc
namespace Pc
theorem lastc {l : List Nat} (h : 2 ≤ l.length) (a b d : Nat) : (a :: b :: l).getLastD d = l.getLastD d := by
  cases l with
  | nil => exact absurd h (by decide)
  | cons x r => rfl
theorem Trail.last {fs ps : List Nat} {n z : Nat} {l : List Nat} (hF : IsPair (2 * n) fs) (hP : IsPair n ps) (h : Trail fs ps n z l) : z < 2 * n → l.getLastD 0 < 2 * n := by
  induction h with
  | @stop z h1 => intro hz; exact (hF.d hz).1
  | @go z l h1 h2 ih =>
    intro hz
    rw [lastc h2.len.1]
    have := (hP.d h1).1
    exact ih (by omega)
theorem Trail.rev {fs ps : List Nat} {n z : Nat} {l : List Nat} (hF : IsPair (2 * n) fs) (hP : IsPair n ps) (h : Trail fs ps n z l) : z < 2 * n → ∀ t : List Nat, (n ≤ z → t = []) → (z < n → Trail fs ps n (ps.getD z 0) t) → Trail fs ps n (l.getLastD 0) (l.reverse ++ t) := by
  have one : ∀ {z : Nat} {t : List Nat}, z < 2 * n → (n ≤ z → t = []) → (z < n → Trail fs ps n (ps.getD z 0) t) → Trail fs ps n (fs.getD z 0) (fs.getD z 0 :: z :: t) := fun {z t} hz h1 h2 => by
    have e := (hF.d hz).2.2.1
    by_cases c : z < n
    · have := Trail.go (fs := fs) (ps := ps) (n := n) (z := fs.getD z 0) (l := t) (by rw [e]; exact c) (by rw [e]; exact h2 c)
      rw [e] at this; exact this
    · rw [h1 (by omega)]
      have := Trail.stop (fs := fs) (ps := ps) (n := n) (z := fs.getD z 0) (by rw [e]; omega)
      rw [e] at this; exact this
  induction h with
  | @stop z h1 => intro hz t a b; exact one hz a b
  | @go z l h1 h2 ih =>
    intro hz t a b
    have hz' := hP.d h1
    rw [lastc h2.len.1]
    have := ih (by omega) (fs.getD z 0 :: z :: t) (fun x => by omega) (fun _ => by rw [hz'.2.2.1]; exact one hz a b)
    simp only [List.reverse_cons, List.append_assoc, List.cons_append, List.nil_append]
    exact this
theorem Trail.back {fs ps : List Nat} {n z : Nat} {l : List Nat} (hF : IsPair (2 * n) fs) (hP : IsPair n ps) (h : Trail fs ps n z l) (hz : n ≤ z) (hz2 : z < 2 * n) : Trail fs ps n (l.getLastD 0) l.reverse := by
  have := h.rev hF hP hz2 [] (fun _ => rfl) (fun h => by omega)
  rw [List.append_nil] at this; exact this
theorem Trail.head {fs ps : List Nat} {n z : Nat} {l : List Nat} (h : Trail fs ps n z l) : l[0]? = some z := by
  cases h <;> rfl
theorem Trail.adj {fs ps : List Nat} {n z : Nat} {l : List Nat} (hF : IsPair (2 * n) fs) (hP : IsPair n ps) (h : Trail fs ps n z l) : z < 2 * n → ∀ i x, l[i]? = some x → l[i + 1]? ≠ some x := by
  induction h with
  | @stop z h1 =>
    intro hz i x h1 h2
    have hi : i + 1 < 2 := get_lt h2
    have : i = 0 := by omega
    subst this
    have e1 : z = x := Option.some.inj h1
    have e2 : fs.getD z 0 = x := Option.some.inj h2
    exact (hF.d hz).2.1 (e2.trans e1.symm)
  | @go z l h1 h2 ih =>
    intro hz i x g1 g2
    have hz' := hP.d h1
    cases i with
    | zero =>
      have e1 : z = x := Option.some.inj g1
      have e2 : fs.getD z 0 = x := Option.some.inj g2
      exact (hF.d hz).2.1 (e2.trans e1.symm)
    | succ i =>
      cases i with
      | zero =>
        have e1 : fs.getD z 0 = x := Option.some.inj g1
        have e2 : some (ps.getD (fs.getD z 0) 0) = some x := h2.head.symm.trans g2
        exact hz'.2.1 ((Option.some.inj e2).trans e1.symm)
      | succ i => exact ih (by omega) i x g1 g2
theorem last_get {l : List Nat} (h : 0 < l.length) : l[l.length - 1]? = some (l.getLastD 0) := by
  cases l with
  | nil => exact absurd h (by decide)
  | cons a r => rw [← List.getLast?_eq_getElem?, List.getLast?_eq_some_getLast (List.cons_ne_nil a r), List.getLastD_cons, ← List.getLast_eq_getLastD (h := List.cons_ne_nil a r)]
theorem far_is {fs ps : List Nat} {n z : Nat} {l : List Nat} (h : Trail fs ps n z l) : far fs ps n z = l.getLastD 0 := by
  unfold far; rw [h.eq]
theorem far_d {fs ps : List Nat} {n : Nat} (hF : IsPair (2 * n) fs) (hP : IsPair n ps) {z : Nat} (hz : n ≤ z) (hz2 : z < 2 * n) : n ≤ far fs ps n z ∧ far fs ps n z < 2 * n ∧ far fs ps n (far fs ps n z) = z ∧ far fs ps n z ≠ z := by
  obtain ⟨l, h1, _⟩ := trail_ex hF hP hz hz2
  have hb := h1.back hF hP hz hz2
  have hl := h1.len
  have e := far_is h1
  have e2 := far_is hb
  rw [e, e2]
  refine ⟨hl.2.2, h1.last hF hP hz2, ?_, fun c => ?_⟩
  · have g := last_get (l := l.reverse) (by rw [List.length_reverse]; omega)
    rw [List.length_reverse, List.getElem?_reverse (by omega), show l.length - 1 - (l.length - 1) = 0 by omega, h1.head] at g
    exact (Option.some.inj g).symm
  · rw [c] at hb
    have e3 : l = l.reverse := h1.det hb
    obtain ⟨k, hk⟩ : ∃ k, l.length = 2 * k := ⟨l.length / 2, by omega⟩
    have g1 : l[k - 1]? = l[k]? := by
      have g : l[k - 1]? = l.reverse[k - 1]? := congrArg (fun (m : List Nat) => m[k - 1]?) e3
      rw [List.getElem?_reverse (by omega), show l.length - 1 - (k - 1) = k by omega] at g
      exact g
    have lt : k - 1 < l.length := by omega
    exact h1.adj hF hP hz2 (k - 1) l[k - 1] (List.getElem?_eq_getElem lt) (by rw [show k - 1 + 1 = k by omega, ← g1]; exact List.getElem?_eq_getElem lt)
theorem rd_len (fs ps : List Nat) (n : Nat) : (rd fs ps n).length = n := by unfold rd; rw [List.length_map, List.length_range]
theorem rd_get (fs ps : List Nat) {n x : Nat} (h : x < n) : (rd fs ps n)[x]? = some (far fs ps n (n + x) - n) := by
  unfold rd; rw [List.getElem?_map, List.getElem?_range h]; rfl
theorem rd_pair {fs ps : List Nat} {n : Nat} (hF : IsPair (2 * n) fs) (hP : IsPair n ps) : IsPair n (rd fs ps n) := by
  refine ⟨rd_len _ _ _, fun x hx => ?_⟩
  obtain ⟨h1, h2, h3, h4⟩ := far_d hF hP (z := n + x) (by omega) (by omega)
  refine ⟨_, rd_get fs ps hx, by omega, by omega, ?_⟩
  rw [rd_get fs ps (by omega), show n + (far fs ps n (n + x) - n) = far fs ps n (n + x) by omega, h3, show n + x - n = x by omega]
/-- a sheet that differs only at four ends -/
structure Near (fs gs : List Nat) (n A B c d : Nat) : Prop where
  la : n ≤ A
  lb : n ≤ B
  ab : A ≠ B
  fc : fs.getD c 0 = A
  un : ∀ z, fs.getD z 0 = A → z = c
  fd : fs.getD d 0 = B
  fb : fs.getD B 0 = d
  gc : gs.getD c 0 = d
  eq : ∀ z, z ≠ A → z ≠ B → z ≠ c → z ≠ d → gs.getD z 0 = fs.getD z 0
theorem Trail.near {fs gs ps : List Nat} {n A B c d z : Nat} {l : List Nat} (hP : IsPair n ps) (N : Near fs gs n A B c d) (h : Trail fs ps n z l) : z ≠ A → z ≠ B → l.getLastD 0 ≠ A → l.getLastD 0 ≠ B → Trail gs ps n z l := by
  have la := N.la
  have lb := N.lb
  induction h with
  | @stop z h1 =>
    intro hA hB eA eB
    have e : gs.getD z 0 = fs.getD z 0 := N.eq z hA hB (fun e => eA (by rw [e]; exact N.fc)) (fun e => eB (by rw [e]; exact N.fd))
    rw [← e]; exact .stop (by rw [e]; exact h1)
  | @go z l h1 h2 ih =>
    intro hA hB eA eB
    rw [lastc h2.len.1] at eA eB
    have e : gs.getD z 0 = fs.getD z 0 := N.eq z hA hB (fun e => by rw [e, N.fc] at h1; omega) (fun e => by rw [e, N.fd] at h1; omega)
    have hz' := (hP.d h1).1
    have t := ih (by omega) (by omega) eA eB
    rw [← e] at h1 t ⊢
    exact .go h1 t
theorem Trail.over {fs gs ps : List Nat} {n A B c d z : Nat} {l m : List Nat} (hP : IsPair n ps) (N : Near fs gs n A B c d) (hm : Trail fs ps n B m) (mA : m.getLastD 0 ≠ A) (mB : m.getLastD 0 ≠ B) (h : Trail fs ps n z l) : z ≠ A → z ≠ B → l.getLastD 0 = A → ∃ k, Trail gs ps n z k ∧ k.getLastD 0 = m.getLastD 0 := by
  have la := N.la
  have lb := N.lb
  have fb := N.fb
  induction h with
  | @stop z h1 =>
    intro hA hB eA
    by_cases zc : z = c
    · subst zc
      cases hm with
      | stop h => 
        refine ⟨_, .stop (by rw [N.gc, ← fb]; exact h), ?_⟩
        rw [N.gc, ← fb]; rfl
      | @go _ m h h2 =>
        rw [lastc h2.len.1] at mA mB ⊢
        rw [fb] at h h2
        have := hP.d h
        refine ⟨_, .go (by rw [N.gc]; exact h) (by rw [N.gc]; exact h2.near hP N (by omega) (by omega) mA mB), ?_⟩
        rw [lastc h2.len.1]
    · exact absurd (N.un z eA) zc
  | @go z l h1 h2 ih =>
    intro hA hB eA
    rw [lastc h2.len.1] at eA
    have e : gs.getD z 0 = fs.getD z 0 := N.eq z hA hB (fun e => by rw [e, N.fc] at h1; omega) (fun e => by rw [e, N.fd] at h1; omega)
    have hz' := (hP.d h1).1
    obtain ⟨k, t1, t2⟩ := ih (by omega) (by omega) eA
    rw [← e] at h1 t1
    refine ⟨_, .go h1 t1, ?_⟩
    rw [lastc t1.len.1]; exact t2

theorem jn_near {fs : List Nat} {n A B : Nat} (hF : IsPair (2 * n) fs) (hA : n ≤ A) (hB : n ≤ B) (hA2 : A < 2 * n) (hB2 : B < 2 * n) (hab : A ≠ B) (hc : fs.getD A 0 ≠ B) : Near fs (jn fs A B) n A B (fs.getD A 0) (fs.getD B 0) ∧ Near fs (jn fs A B) n B A (fs.getD B 0) (fs.getD A 0) ∧ (jn fs A B).getD A 0 = B ∧ (jn fs A B).getD B 0 = A := by
  obtain ⟨a1, a2, a3, a4⟩ := hF.d hA2
  obtain ⟨b1, b2, b3, b4⟩ := hF.d hB2
  have G := jn_get hF hab a4 b4 hc
  obtain ⟨x1, x2, x3, x4, _⟩ := four hF hab a4 b4 hc
  have D : ∀ z, (jn fs A B).getD z 0 = ((jn fs A B)[z]?).getD 0 := fun z => List.getD_eq_getElem?_getD
  have un : ∀ {X : Nat}, n ≤ X → X < 2 * n → ∀ z, fs.getD z 0 = X → z = fs.getD X 0 := fun {X} h1 h2 z e => by
    by_cases hz : z < 2 * n
    · rw [← e, (hF.d hz).2.2.1]
    · rw [List.getD_eq_getElem?_getD, List.getElem?_eq_none (by rw [hF.len]; omega)] at e
      have e' : 0 = X := e
      omega
  have E : ∀ z, z ≠ A → z ≠ B → z ≠ fs.getD A 0 → z ≠ fs.getD B 0 → (jn fs A B).getD z 0 = fs.getD z 0 := fun z h1 h2 h3 h4 => by
    rw [D, G, if_neg h1, if_neg h2, if_neg h3, if_neg h4, ← List.getD_eq_getElem?_getD]
  refine ⟨⟨hA, hB, hab, a3, un hA hA2, b3, rfl, ?_, E⟩, ⟨hB, hA, hab.symm, b3, un hB hB2, a3, rfl, ?_, fun z h1 h2 h3 h4 => E z h2 h1 h4 h3⟩, ?_, ?_⟩
  · rw [D, G, if_neg x1, if_neg hc, if_pos rfl]; rfl
  · rw [D, G, if_neg x3, if_neg x2, if_neg (Ne.symm x4), if_pos rfl]; rfl
  · rw [D, G, if_pos rfl]; rfl
  · rw [D, G, if_neg hab.symm, if_pos rfl]; rfl
theorem IsPair.ofd {fs : List Nat} {n x y : Nat} (h : IsPair n fs) (hx : x < n) (e : fs.getD x 0 = y) : fs[x]? = some y := by
  rw [← e]; exact (h.d hx).2.2.2
/-- a call added to a sheet is a call behind what is read -/
theorem rd_jn {fs ps : List Nat} {n a b : Nat} (hF : IsPair (2 * n) fs) (hP : IsPair n ps) (hab : a ≠ b) (ha : a < n) (hb : b < n) : rd (jn fs (n + a) (n + b)) ps n = jn (rd fs ps n) a b := by
  have hR := rd_pair hF hP
  by_cases hc : fs.getD (n + a) 0 = n + b
  · rw [jn_same (hF.ofd (by omega) hc)]
    have t : Trail fs ps n (n + a) [n + a, n + b] := by
      have := Trail.stop (fs := fs) (ps := ps) (n := n) (z := n + a) (by rw [hc]; omega)
      rw [hc] at this; exact this
    refine (jn_same ?_).symm
    rw [rd_get fs ps ha, far_is t]
    show some (n + b - n) = some b
    rw [Nat.add_sub_cancel_left]
  · obtain ⟨N1, N2, gA, gB⟩ := jn_near hF (A := n + a) (B := n + b) (by omega) (by omega) (by omega) (by omega) (by omega) hc
    have hF' : IsPair (2 * n) (jn fs (n + a) (n + b)) := jn_pair hF (by omega) (by omega) (by omega)
    have fA := far_d hF hP (z := n + a) (by omega) (by omega)
    have fB := far_d hF hP (z := n + b) (by omega) (by omega)
    have tA : Trail (jn fs (n + a) (n + b)) ps n (n + a) [n + a, n + b] := by
      have := Trail.stop (fs := jn fs (n + a) (n + b)) (ps := ps) (n := n) (z := n + a) (by rw [gA]; omega)
      rw [gA] at this; exact this
    have tB : Trail (jn fs (n + a) (n + b)) ps n (n + b) [n + b, n + a] := by
      have := Trail.stop (fs := jn fs (n + a) (n + b)) (ps := ps) (n := n) (z := n + b) (by rw [gB]; omega)
      rw [gB] at this; exact this
    obtain ⟨lA, hlA, _⟩ := trail_ex hF hP (z := n + a) (by omega) (by omega)
    obtain ⟨lB, hlB, _⟩ := trail_ex hF hP (z := n + b) (by omega) (by omega)
    have eA := far_is hlA
    have eB := far_is hlB
    have ga := rd_get fs ps ha
    have gb := rd_get fs ps hb
    refine List.ext_getElem? fun x => ?_
    by_cases hx : x < n
    · rw [rd_get _ ps hx]
      have fX := far_d hF hP (z := n + x) (by omega) (by omega)
      obtain ⟨lX, hlX, _⟩ := trail_ex hF hP (z := n + x) (by omega) (by omega)
      have eX := far_is hlX
      by_cases xa : x = a
      · subst xa
        rw [far_is tA, show [n + x, n + b].getLastD 0 - n = b by show n + b - n = b; omega]
        by_cases c : far fs ps n (n + x) - n = b
        · rw [jn_same (by rw [rd_get fs ps hx, c]), rd_get fs ps hx, c]
        · rw [jn_get hR hab ga gb c, if_pos rfl]
      · by_cases xb : x = b
        · subst xb
          rw [far_is tB, show [n + x, n + a].getLastD 0 - n = a by show n + a - n = a; omega]
          by_cases c : far fs ps n (n + a) - n = x
          · rw [jn_same (by rw [rd_get fs ps ha, c]), rd_get fs ps hx, show n + x = far fs ps n (n + a) by omega, fA.2.2.1, Nat.add_sub_cancel_left]
          · rw [jn_get hR hab ga gb c, if_neg (Ne.symm hab), if_pos rfl]
        · by_cases yA : far fs ps n (n + x) = n + a
          · -- the way of x came to a
            have e1 : far fs ps n (n + a) = n + x := by rw [← yA]; exact fX.2.2.1
            have e2 : far fs ps n (n + b) ≠ n + a := fun z => by
              have := fB.2.2.1
              rw [z, e1] at this; omega
            obtain ⟨k, k1, k2⟩ := Trail.over hP N1 hlB (by rw [← eB]; exact e2) (by rw [← eB]; exact fB.2.2.2) hlX (by omega) (by omega) (by rw [← eX]; exact yA)
            rw [far_is k1, k2, ← eB, jn_get hR hab ga gb (by omega), if_neg xa, if_neg xb, if_pos (by omega)]
          · by_cases yB : far fs ps n (n + x) = n + b
            · have e1 : far fs ps n (n + b) = n + x := by rw [← yB]; exact fX.2.2.1
              have e2 : far fs ps n (n + a) ≠ n + b := fun z => by
                have := fA.2.2.1
                rw [z, e1] at this; omega
              obtain ⟨k, k1, k2⟩ := Trail.over hP N2 hlA (by rw [← eA]; exact e2) (by rw [← eA]; exact fA.2.2.2) hlX (by omega) (by omega) (by rw [← eX]; exact yB)
              have e3 : far fs ps n (n + a) ≠ n + x := fun z => by
                have := fA.2.2.1
                rw [z, yB] at this; omega
              rw [far_is k1, k2, ← eA, jn_get hR hab ga gb (by omega), if_neg xa, if_neg xb, if_neg (by omega), if_pos (by omega)]
            · have t := hlX.near hP N1 (by omega) (by omega) (by rw [← eX]; exact yA) (by rw [← eX]; exact yB)
              rw [far_is t, ← eX, ← rd_get fs ps hx]
              by_cases c : far fs ps n (n + a) - n = b
              · rw [jn_same (by rw [rd_get fs ps ha, c])]
              · have e1 : far fs ps n (n + a) ≠ n + x := fun z => by
                  have := fA.2.2.1
                  rw [z] at this; exact yA this
                have e2 : far fs ps n (n + b) ≠ n + x := fun z => by
                  have := fB.2.2.1
                  rw [z] at this; exact yB this
                rw [jn_get hR hab ga gb c, if_neg xa, if_neg xb, if_neg (by omega), if_neg (by omega)]
    · rw [List.getElem?_eq_none (by rw [rd_len]; omega), List.getElem?_eq_none (by rw [jn_len, rd_len]; omega)]
end Pc
namespace Pc
theorem rd_emp {ps : List Nat} {n : Nat} (hn : 0 < n) (hP : IsPair n ps) : rd (emp n) ps n = ps := by
  refine List.ext_getElem? fun x => ?_
  by_cases hx : x < n
  · obtain ⟨h1, _, _, h4⟩ := hP.d hx
    have e1 : (emp n).getD (n + x) 0 = x := getD_of (emp_hi hx)
    have e2 : (emp n).getD (ps.getD x 0) 0 = n + ps.getD x 0 := getD_of (emp_lo h1)
    have t2 := Trail.stop (fs := emp n) (ps := ps) (n := n) (z := ps.getD x 0) (by rw [e2]; omega)
    have t := Trail.go (fs := emp n) (ps := ps) (n := n) (z := n + x) (by rw [e1]; exact hx) (by rw [e1]; exact t2)
    rw [rd_get _ ps hx, far_is t, h4]
    show some ((emp n).getD (ps.getD x 0) 0 - n) = _
    rw [e2, Nat.add_sub_cancel_left]
  · rw [List.getElem?_eq_none (by rw [rd_len]; omega), List.getElem?_eq_none (by rw [hP.len]; omega)]
theorem rd_runs {n : Nat} {ps : List Nat} (hP : IsPair n ps) : ∀ (qs : List (Nat × Nat)) {fs : List Nat}, IsPair (2 * n) fs → Calls n qs → rd (shw n qs fs) ps n = runs qs (rd fs ps n)
  | [], _, _, _ => rfl
  | q :: r, fs, hF, hc => by
    have h1 := hc q List.mem_cons_self
    have h2 := rd_runs hP r (jn_pair hF (a := n + q.1) (b := n + q.2) (by omega) (by omega) (by omega)) (fun x hx => hc x (List.mem_cons_of_mem _ hx))
    rw [rd_jn hF hP (by omega) (by omega) h1.2] at h2
    exact h2
/-- guarantee (a) -/
theorem rd_word {n : Nat} {ps : List Nat} {qs : List (Nat × Nat)} (hn : 0 < n) (hP : IsPair n ps) (hc : Calls n qs) : rd (shw n qs (emp n)) ps n = runs qs ps := by
  rw [rd_runs hP qs (emp_pair hn) hc, rd_emp hn hP]
end Pc
namespace Pc
/-! ### walks along layers: a layer of m upper and n lower ends joins them in pairs -/
section
variable {S Y : Type} (step : S → S ⊕ Y)
inductive Ends : S → Y → Prop
  | stop {s : S} {y : Y} : step s = .inr y → Ends s y
  | go {s t : S} {y : Y} : step s = .inl t → Ends t y → Ends s y
/-- where a walk is after i steps -/
def itr (s : S) : Nat → S
  | 0 => s
  | i + 1 => match step (itr s i) with
    | .inl t => t
    | .inr _ => itr s i
end
theorem Ends.det {S Y : Type} {step : S → S ⊕ Y} {s : S} {x y : Y} (h : Ends step s x) : Ends step s y → x = y := by
  induction h with
  | stop h1 => intro h; cases h with
    | stop h2 => rw [h1] at h2; exact Sum.inr.inj h2
    | go h2 _ => rw [h1] at h2; cases h2
  | go h1 _ ih => intro h; cases h with
    | stop h2 => rw [h1] at h2; cases h2
    | go h2 h3 => rw [h1] at h2; cases h2; exact ih h3
theorem itr_step {S Y : Type} {step : S → S ⊕ Y} {s t : S} (h : step s = .inl t) : ∀ i, itr step t i = itr step s (i + 1)
  | 0 => by show t = (match step s with | .inl t => t | .inr _ => s); rw [h]
  | i + 1 => by
    show (match step (itr step t i) with | .inl t => t | .inr _ => itr step t i) = (match step (itr step s (i + 1)) with | .inl t => t | .inr _ => itr step s (i + 1))
    rw [itr_step h i]
theorem itr_succ {S Y : Type} {step : S → S ⊕ Y} {s t : S} {i : Nat} (h : step (itr step s i) = .inl t) : itr step s (i + 1) = t := by
  show (match step (itr step s i) with | .inl t => t | .inr _ => itr step s i) = t
  rw [h]
theorem Ends.nth {S Y : Type} {step : S → S ⊕ Y} {s : S} {y : Y} (h : Ends step s y) : ∃ m, (∀ i, i < m → step (itr step s i) = .inl (itr step s (i + 1))) ∧ step (itr step s m) = .inr y := by
  induction h with
  | stop h => exact ⟨0, fun i hi => absurd hi (Nat.not_lt_zero _), h⟩
  | go h _ ih =>
    obtain ⟨m, h1, h2⟩ := ih
    refine ⟨m + 1, fun i hi => ?_, by rw [← itr_step h]; exact h2⟩
    cases i with
    | zero => rw [← itr_step h 0]; exact h
    | succ i =>
      have := h1 i (by omega)
      rw [itr_step h, itr_step h] at this; exact this
theorem ends_of {S Y : Type} {step : S → S ⊕ Y} : ∀ (m : Nat) (s : S) (y : Y), step (itr step s m) = .inr y → ∃ z, Ends step s z
  | 0, s, y, h => ⟨y, .stop h⟩
  | m + 1, s, y, h => by
    cases e : step s with
    | inr z => exact ⟨z, .stop e⟩
    | inl t =>
      obtain ⟨z, hz⟩ := ends_of m t y (by rw [itr_step e]; exact h)
      exact ⟨z, .go e hz⟩
/-- the step of a walk along a layer f, of m and n ends, and a layer g behind it -/
def cstep (f g : List Nat) (m n : Nat) : Bool × Nat → (Bool × Nat) ⊕ Nat
  | (true, z) => if f.getD z 0 < m then .inr (f.getD z 0) else .inl (false, f.getD z 0 - m)
  | (false, z) => if g.getD z 0 < n then .inl (true, m + g.getD z 0) else .inr (m + (g.getD z 0 - n))
def cst (m n e : Nat) : Bool × Nat := if e < m then (true, e) else (false, n + (e - m))
theorem cs_tl {f g : List Nat} {m n z : Nat} (h : f.getD z 0 < m) : cstep f g m n (true, z) = .inr (f.getD z 0) := if_pos h
theorem cs_tg {f g : List Nat} {m n z : Nat} (h : m ≤ f.getD z 0) : cstep f g m n (true, z) = .inl (false, f.getD z 0 - m) := if_neg (by omega)
theorem cs_fl {f g : List Nat} {m n z : Nat} (h : g.getD z 0 < n) : cstep f g m n (false, z) = .inl (true, m + g.getD z 0) := if_pos h
theorem cs_fg {f g : List Nat} {m n z : Nat} (h : n ≤ g.getD z 0) : cstep f g m n (false, z) = .inr (m + (g.getD z 0 - n)) := if_neg (by omega)
def opp (f g : List Nat) : Bool × Nat → Bool × Nat
  | (true, z) => (true, f.getD z 0)
  | (false, z) => (false, g.getD z 0)
/-- the states of a walk -/
def Val (m n k : Nat) : Bool × Nat → Prop
  | (true, z) => z < m + n
  | (false, z) => z < n + k
section
variable {f g : List Nat} {m n k : Nat} (hf : IsPair (m + n) f) (hg : IsPair (n + k) g)
include hf hg
theorem cs_val {s t : Bool × Nat} (hs : Val m n k s) (h : cstep f g m n s = .inl t) : Val m n k t ∧ (t = (true, t.2) ∧ m ≤ t.2 ∨ t = (false, t.2) ∧ t.2 < n) ∧ t.1 = !s.1 ∧ cstep f g m n (opp f g t) = .inl (opp f g s) := by
  obtain ⟨b, z⟩ := s
  cases b with
  | true =>
    have hz : z < m + n := hs
    by_cases c : f.getD z 0 < m
    · rw [cs_tl c] at h; cases h
    · rw [cs_tg (by omega)] at h
      cases h
      have := hf.d hz
      have hx : f.getD z 0 - m < n + k := by omega
      have gx := hg.d hx
      refine ⟨hx, .inr ⟨rfl, by show f.getD z 0 - m < n; omega⟩, rfl, ?_⟩
      show cstep f g m n (false, g.getD (f.getD z 0 - m) 0) = .inl (true, f.getD z 0)
      rw [cs_fl (by rw [gx.2.2.1]; omega), gx.2.2.1, show m + (f.getD z 0 - m) = f.getD z 0 by omega]
  | false =>
    have hz : z < n + k := hs
    by_cases c : g.getD z 0 < n
    · rw [cs_fl c] at h
      cases h
      have hx : m + g.getD z 0 < m + n := by omega
      have fx := hf.d hx
      refine ⟨hx, .inl ⟨rfl, by show m ≤ m + g.getD z 0; omega⟩, rfl, ?_⟩
      show cstep f g m n (true, f.getD (m + g.getD z 0) 0) = .inl (false, g.getD z 0)
      rw [cs_tg (by rw [fx.2.2.1]; omega), fx.2.2.1, show m + g.getD z 0 - m = g.getD z 0 by omega]
    · rw [cs_fg (by omega)] at h; cases h
theorem opp_opp {s : Bool × Nat} (hs : Val m n k s) : opp f g (opp f g s) = s ∧ opp f g s ≠ s ∧ (opp f g s).1 = s.1 ∧ Val m n k (opp f g s) := by
  obtain ⟨b, z⟩ := s
  cases b with
  | true =>
    have := hf.d (show z < m + n from hs)
    exact ⟨by show (true, f.getD (f.getD z 0) 0) = (true, z); rw [this.2.2.1], fun e => this.2.1 (congrArg Prod.snd e), rfl, this.1⟩
  | false =>
    have := hg.d (show z < n + k from hs)
    exact ⟨by show (false, g.getD (g.getD z 0) 0) = (false, z); rw [this.2.2.1], fun e => this.2.1 (congrArg Prod.snd e), rfl, this.1⟩
theorem cs_inj {s t u : Bool × Nat} (hs : Val m n k s) (ht : Val m n k t) (h1 : cstep f g m n s = .inl u) (h2 : cstep f g m n t = .inl u) : s = t := by
  have a := (cs_val hf hg hs h1).2.2.2
  have b := (cs_val hf hg ht h2).2.2.2
  rw [a] at b
  have e : opp f g s = opp f g t := Sum.inl.inj b
  rw [← (opp_opp hf hg hs).1, e, (opp_opp hf hg ht).1]
theorem cs_end {s : Bool × Nat} {y : Nat} (hs : Val m n k s) (h : cstep f g m n s = .inr y) : cst m n y = opp f g s ∧ y < m + k := by
  obtain ⟨b, z⟩ := s
  cases b with
  | true =>
    by_cases c : f.getD z 0 < m
    · rw [cs_tl c] at h; cases h
      refine ⟨?_, by omega⟩
      unfold cst; rw [if_pos c]; rfl
    · rw [cs_tg (by omega)] at h; cases h
  | false =>
    have := hg.d (show z < n + k from hs)
    by_cases c : g.getD z 0 < n
    · rw [cs_fl c] at h; cases h
    · rw [cs_fg (by omega)] at h; cases h
      refine ⟨?_, by omega⟩
      unfold cst; rw [if_neg (by omega), show n + (m + (g.getD z 0 - n) - m) = g.getD z 0 by omega]; rfl
theorem cst_val {e : Nat} (he : e < m + k) : Val m n k (cst m n e) ∧ cstep f g m n (opp f g (cst m n e)) = .inr e := by
  unfold cst
  by_cases c : e < m
  · rw [if_pos c]
    have := hf.d (show e < m + n by omega)
    refine ⟨show e < m + n by omega, ?_⟩
    show cstep f g m n (true, f.getD e 0) = .inr e
    rw [cs_tl (by rw [this.2.2.1]; exact c), this.2.2.1]
  · rw [if_neg c]
    have := hg.d (show n + (e - m) < n + k by omega)
    refine ⟨show n + (e - m) < n + k by omega, ?_⟩
    show cstep f g m n (false, g.getD (n + (e - m)) 0) = .inr e
    rw [cs_fg (by rw [this.2.2.1]; omega), this.2.2.1, show m + (n + (e - m) - n) = e by omega]
theorem cs_out {e : Nat} (he : e < m + k) {s : Bool × Nat} (hs : Val m n k s) : cstep f g m n s ≠ .inl (cst m n e) := fun h => by
  have h1 := (cs_val hf hg hs h).2.2.2
  rw [(cst_val hf hg he).2] at h1
  cases h1
theorem walk_ends {e : Nat} (he : e < m + k) : ∃ y, Ends (cstep f g m n) (cst m n e) y := by
  apply Classical.byContradiction
  intro hn
  have go : ∀ i, cstep f g m n (itr (cstep f g m n) (cst m n e) i) = .inl (itr (cstep f g m n) (cst m n e) (i + 1)) := fun i => by
    cases h : cstep f g m n (itr (cstep f g m n) (cst m n e) i) with
    | inr y => exact absurd (ends_of i _ y h) hn
    | inl t => rw [itr_succ h]
  have val : ∀ i, Val m n k (itr (cstep f g m n) (cst m n e) i) := fun i => by
    induction i with
    | zero => exact (cst_val hf hg he).1
    | succ i ih => exact (cs_val hf hg ih (go i)).1
  have diff : ∀ i j, i < j → itr (cstep f g m n) (cst m n e) i ≠ itr (cstep f g m n) (cst m n e) j := fun i => by
    induction i with
    | zero =>
      intro j hj h
      cases j with
      | zero => omega
      | succ j => exact cs_out hf hg he (val j) ((go j).trans (congrArg Sum.inl h.symm))
    | succ i ih =>
      intro j hj h
      cases j with
      | zero => omega
      | succ j => exact ih j (by omega) (cs_inj hf hg (val i) (val j) (go i) ((go j).trans (congrArg Sum.inl h.symm)))
  let code : Bool × Nat → Nat := fun s => if s.1 = true then s.2 - m else n + s.2
  obtain ⟨i, j, h1, h2, h3⟩ := pigeon (2 * n) (fun i => code (itr (cstep f g m n) (cst m n e) (i + 1))) (fun i _ => by
    have v := val (i + 1)
    have := (cs_val hf hg (val i) (go i)).2.1
    generalize itr (cstep f g m n) (cst m n e) (i + 1) = s at v this
    obtain ⟨b, z⟩ := s
    cases b with
    | true =>
      rcases this with h | h
      · have hv : z < m + n := v
        have hz : m ≤ z := h.2
        show (if true = true then z - m else n + z) < 2 * n
        rw [if_pos rfl]; omega
      · cases h.1
    | false =>
      rcases this with h | h
      · cases h.1
      · have hz : z < n := h.2
        show (if false = true then z - m else n + z) < 2 * n
        rw [if_neg Bool.false_ne_true]; omega)
  refine diff (i + 1) (j + 1) (by omega) ?_
  have v1 := (cs_val hf hg (val i) (go i)).2.1
  have v2 := (cs_val hf hg (val j) (go j)).2.1
  have w1 := val (i + 1)
  have w2 := val (j + 1)
  have h3' : code (itr (cstep f g m n) (cst m n e) (i + 1)) = code (itr (cstep f g m n) (cst m n e) (j + 1)) := h3
  clear h3 diff val go hn
  generalize itr (cstep f g m n) (cst m n e) (i + 1) = s at v1 h3' w1
  generalize itr (cstep f g m n) (cst m n e) (j + 1) = t at v2 h3' w2
  obtain ⟨b, z⟩ := s
  obtain ⟨b', z'⟩ := t
  have T : ∀ z, code (true, z) = z - m := fun z => if_pos rfl
  have F : ∀ z, code (false, z) = n + z := fun z => if_neg Bool.false_ne_true
  cases b <;> cases b'
  · rw [F, F] at h3'
    have : z = z' := by omega
    rw [this]
  · rw [F, T] at h3'
    rcases v2 with h | h
    · have : z' < m + n := w2
      have : m ≤ z' := h.2
      omega
    · cases h.1
  · rw [T, F] at h3'
    rcases v1 with h | h
    · have : z < m + n := w1
      have : m ≤ z := h.2
      omega
    · cases h.1
  · rw [T, T] at h3'
    rcases v1 with h | h
    · rcases v2 with h' | h'
      · have : m ≤ z := h.2
        have : m ≤ z' := h'.2
        have : z = z' := by omega
        rw [this]
      · cases h'.1
    · cases h.1
theorem ends_back {s : Bool × Nat} {y : Nat} (h : Ends (cstep f g m n) s y) : Val m n k s → y < m + k ∧ ∀ y0, Ends (cstep f g m n) (opp f g s) y0 → Ends (cstep f g m n) (cst m n y) y0 := by
  induction h with
  | stop h1 =>
    intro hs
    have := cs_end hf hg hs h1
    exact ⟨this.2, fun y0 h0 => by rw [this.1]; exact h0⟩
  | go h1 _ ih =>
    intro hs
    obtain ⟨v1, _, _, v2⟩ := cs_val hf hg hs h1
    obtain ⟨i1, i2⟩ := ih v1
    exact ⟨i1, fun y0 h0 => i2 y0 (.go v2 h0)⟩
theorem ends_inv {e y : Nat} (he : e < m + k) (h : Ends (cstep f g m n) (cst m n e) y) : y < m + k ∧ Ends (cstep f g m n) (cst m n y) e ∧ y ≠ e := by
  obtain ⟨v, o⟩ := cst_val hf hg he
  obtain ⟨h1, h2⟩ := ends_back hf hg h v
  refine ⟨h1, h2 e (.stop o), fun c => ?_⟩
  subst c
  obtain ⟨t, g1, g2⟩ := h.nth
  have val : ∀ i, i ≤ t → Val m n k (itr (cstep f g m n) (cst m n y) i) := fun i => by
    induction i with
    | zero => exact fun _ => v
    | succ i ih => exact fun hi => (cs_val hf hg (ih (by omega)) (g1 i (by omega))).1
  have mir : ∀ j, j ≤ t → opp f g (itr (cstep f g m n) (cst m n y) (t - j)) = itr (cstep f g m n) (cst m n y) j := fun j => by
    induction j with
    | zero => intro _; exact (cs_end hf hg (val t (Nat.le_refl _)) g2).1.symm
    | succ j ih =>
      intro hj
      have a1 := ih (by omega)
      have a2 := g1 (t - (j + 1)) (by omega)
      rw [show t - (j + 1) + 1 = t - j by omega] at a2
      have a3 := (cs_val hf hg (val _ (by omega)) a2).2.2.2
      rw [a1, g1 j (by omega)] at a3
      exact (Sum.inl.inj a3).symm
  by_cases p : t % 2 = 0
  · have := mir (t / 2) (by omega)
    rw [show t - t / 2 = t / 2 by omega] at this
    exact (opp_opp hf hg (val (t / 2) (by omega))).2.1 this
  · have a := mir (t / 2) (by omega)
    rw [show t - t / 2 = t / 2 + 1 by omega] at a
    have b := (opp_opp hf hg (val (t / 2 + 1) (by omega))).2.2.1
    have c := (cs_val hf hg (val (t / 2) (by omega)) (g1 (t / 2) (by omega))).2.2.1
    rw [a] at b
    rw [← b] at c
    exact absurd c (by cases (itr (cstep f g m n) (cst m n y) (t / 2)).1 <;> decide)
end
/-- two layers one behind the other -/
noncomputable def cfar (f g : List Nat) (m n e : Nat) : Nat := open Classical in if h : ∃ y, Ends (cstep f g m n) (cst m n e) y then h.choose else 0
noncomputable def cmp (f g : List Nat) (m n k : Nat) : List Nat := (List.range (m + k)).map fun e => cfar f g m n e
theorem cfar_is {f g : List Nat} {m n e y : Nat} (h : Ends (cstep f g m n) (cst m n e) y) : cfar f g m n e = y := by
  unfold cfar
  rw [dif_pos ⟨y, h⟩]
  exact (Exists.choose_spec (⟨y, h⟩ : ∃ y, Ends (cstep f g m n) (cst m n e) y)).det h
theorem cmp_len (f g : List Nat) (m n k : Nat) : (cmp f g m n k).length = m + k := by unfold cmp; rw [List.length_map, List.length_range]
theorem cmp_get (f g : List Nat) {m n k e : Nat} (h : e < m + k) : (cmp f g m n k)[e]? = some (cfar f g m n e) := by unfold cmp; rw [List.getElem?_map, List.getElem?_range h]; rfl
theorem cmp_d (f g : List Nat) {m n k e : Nat} (h : e < m + k) : (cmp f g m n k).getD e 0 = cfar f g m n e := by
  rw [List.getD_eq_getElem?_getD, cmp_get f g h]; rfl
theorem cmp_ends {f g : List Nat} {m n k e : Nat} (hf : IsPair (m + n) f) (hg : IsPair (n + k) g) (he : e < m + k) : Ends (cstep f g m n) (cst m n e) ((cmp f g m n k).getD e 0) := by
  obtain ⟨y, h⟩ := walk_ends hf hg he
  rw [cmp_d f g he, cfar_is h]; exact h
theorem cmp_pair {f g : List Nat} {m n k : Nat} (hf : IsPair (m + n) f) (hg : IsPair (n + k) g) : IsPair (m + k) (cmp f g m n k) := by
  refine ⟨cmp_len .., fun e he => ?_⟩
  obtain ⟨y, h⟩ := walk_ends hf hg he
  obtain ⟨h1, h2, h3⟩ := ends_inv hf hg he h
  exact ⟨y, by rw [cmp_get f g he, cfar_is h], h1, h3, by rw [cmp_get f g h1, cfar_is h2]⟩
theorem cmp_ext {f g x : List Nat} {m n k : Nat} (hx : x.length = m + k) (h : ∀ e, e < m + k → Ends (cstep f g m n) (cst m n e) (x.getD e 0)) : cmp f g m n k = x := by
  refine List.ext_getElem? fun e => ?_
  by_cases he : e < m + k
  · rw [cmp_get f g he, cfar_is (h e he), List.getD_eq_getElem?_getD, List.getElem?_eq_getElem (by omega)]; rfl
  · rw [List.getElem?_eq_none (by rw [cmp_len]; omega), List.getElem?_eq_none (by omega)]
end Pc
namespace Pc
/-! ### three layers -/
def step3 (f g h : List Nat) (m n k : Nat) : Nat × Nat → (Nat × Nat) ⊕ Nat
  | (0, z) => if f.getD z 0 < m then .inr (f.getD z 0) else .inl (1, f.getD z 0 - m)
  | (1, z) => if g.getD z 0 < n then .inl (0, m + g.getD z 0) else .inl (2, g.getD z 0 - n)
  | (_, z) => if h.getD z 0 < k then .inl (1, n + h.getD z 0) else .inr (m + (h.getD z 0 - k))
section
variable {f g h : List Nat} {m n k l : Nat}
/-- the first two -/
def em1 : Bool × Nat → Nat × Nat
  | (true, z) => (0, z)
  | (false, z) => (1, z)
theorem first_two {s : Bool × Nat} {e : Nat} (w : Ends (cstep f g m n) s e) : (e < m → Ends (step3 f g h m n k) (em1 s) e) ∧ (m ≤ e → ∀ y, Ends (step3 f g h m n k) (2, e - m) y → Ends (step3 f g h m n k) (em1 s) y) := by
  induction w with
  | @stop s e h1 =>
    obtain ⟨b, z⟩ := s
    cases b with
    | true =>
      by_cases c : f.getD z 0 < m
      · rw [cs_tl c] at h1; cases h1
        exact ⟨fun _ => .stop (if_pos c), fun q => absurd c (by omega)⟩
      · rw [cs_tg (by omega)] at h1; cases h1
    | false =>
      by_cases c : g.getD z 0 < n
      · rw [cs_fl c] at h1; cases h1
      · rw [cs_fg (by omega)] at h1; cases h1
        refine ⟨fun q => by omega, fun _ y hy => .go (t := (2, g.getD z 0 - n)) (if_neg c) ?_⟩
        rw [show m + (g.getD z 0 - n) - m = g.getD z 0 - n by omega] at hy
        exact hy
  | @go s t e h1 _ ih =>
    have st : step3 f g h m n k (em1 s) = .inl (em1 t) := by
      obtain ⟨b, z⟩ := s
      cases b with
      | true =>
        by_cases c : f.getD z 0 < m
        · rw [cs_tl c] at h1; cases h1
        · rw [cs_tg (by omega)] at h1; cases h1
          exact if_neg c
      | false =>
        by_cases c : g.getD z 0 < n
        · rw [cs_fl c] at h1; cases h1
          exact if_pos c
        · rw [cs_fg (by omega)] at h1; cases h1
    exact ⟨fun q => .go st (ih.1 q), fun q y hy => .go st (ih.2 q y hy)⟩
/-- the last two -/
def em2 : Bool × Nat → Nat × Nat
  | (true, z) => (1, z)
  | (false, z) => (2, z)
theorem last_two {s : Bool × Nat} {e : Nat} (w : Ends (cstep g h n k) s e) : (n ≤ e → Ends (step3 f g h m n k) (em2 s) (m + (e - n))) ∧ (e < n → ∀ y, Ends (step3 f g h m n k) (0, m + e) y → Ends (step3 f g h m n k) (em2 s) y) := by
  induction w with
  | @stop s e h1 =>
    obtain ⟨b, z⟩ := s
    cases b with
    | true =>
      by_cases c : g.getD z 0 < n
      · rw [cs_tl c] at h1; cases h1
        exact ⟨fun q => absurd c (by omega), fun _ y hy => .go (t := (0, m + g.getD z 0)) (if_pos c) hy⟩
      · rw [cs_tg (by omega)] at h1; cases h1
    | false =>
      by_cases c : h.getD z 0 < k
      · rw [cs_fl c] at h1; cases h1
      · rw [cs_fg (by omega)] at h1; cases h1
        refine ⟨fun _ => .stop ?_, fun q => by omega⟩
        rw [show m + (n + (h.getD z 0 - k) - n) = m + (h.getD z 0 - k) by omega]
        exact if_neg c
  | @go s t e h1 _ ih =>
    have st : step3 f g h m n k (em2 s) = .inl (em2 t) := by
      obtain ⟨b, z⟩ := s
      cases b with
      | true =>
        by_cases c : g.getD z 0 < n
        · rw [cs_tl c] at h1; cases h1
        · rw [cs_tg (by omega)] at h1; cases h1
          exact if_neg c
      | false =>
        by_cases c : h.getD z 0 < k
        · rw [cs_fl c] at h1; cases h1
          exact if_pos c
        · rw [cs_fg (by omega)] at h1; cases h1
    exact ⟨fun q => .go st (ih.1 q), fun q y hy => .go st (ih.2 q y hy)⟩
def em3 (m n : Nat) : Bool × Nat → Nat × Nat
  | (true, z) => if z < m then (0, z) else (1, n + (z - m))
  | (false, z) => (2, z)
def em4 (n k : Nat) : Bool × Nat → Nat × Nat
  | (true, z) => (0, z)
  | (false, z) => if z < n then (1, z) else (2, k + (z - n))
theorem em3_cst (z : Nat) : em3 m n (true, z) = em1 (cst m n z) := by
  unfold cst
  by_cases c : z < m
  · rw [if_pos c]; exact if_pos c
  · rw [if_neg c]; exact if_neg c
theorem em4_cst (z : Nat) : em4 n k (false, z) = em2 (cst n k z) := by
  unfold cst
  by_cases c : z < n
  · rw [if_pos c]; exact if_pos c
  · rw [if_neg c]; exact if_neg c
theorem left_three (hf : IsPair (m + n) f) (hg : IsPair (n + k) g) (hh : IsPair (k + l) h) {s : Bool × Nat} {y : Nat} (w : Ends (cstep (cmp f g m n k) h m k) s y) : Val m k l s → Ends (step3 f g h m n k) (em3 m n s) y := by
  have hfg := cmp_pair hf hg
  induction w with
  | @stop s e h1 =>
    intro hs
    obtain ⟨b, z⟩ := s
    cases b with
    | true =>
      have W := first_two (h := h) (k := k) (cmp_ends hf hg (show z < m + k from hs))
      by_cases c : (cmp f g m n k).getD z 0 < m
      · rw [cs_tl c] at h1; cases h1
        rw [em3_cst]; exact W.1 c
      · rw [cs_tg (by omega)] at h1; cases h1
    | false =>
      by_cases c : h.getD z 0 < k
      · rw [cs_fl c] at h1; cases h1
      · rw [cs_fg (by omega)] at h1; cases h1
        exact .stop (if_neg c)
  | @go s t e h1 _ ih =>
    intro hs
    have ht := (cs_val hfg hh hs h1).1
    obtain ⟨b, z⟩ := s
    cases b with
    | true =>
      have W := first_two (h := h) (k := k) (cmp_ends hf hg (show z < m + k from hs))
      by_cases c : (cmp f g m n k).getD z 0 < m
      · rw [cs_tl c] at h1; cases h1
      · rw [cs_tg (by omega)] at h1; cases h1
        rw [em3_cst]; exact W.2 (by omega) _ (ih ht)
    | false =>
      by_cases c : h.getD z 0 < k
      · rw [cs_fl c] at h1; cases h1
        refine .go (t := (1, n + h.getD z 0)) (if_pos c) ?_
        have q := ih ht
        have e : em3 m n (true, m + h.getD z 0) = (1, n + h.getD z 0) := by
          show (if m + h.getD z 0 < m then _ else _) = _
          rw [if_neg (by omega), show m + h.getD z 0 - m = h.getD z 0 by omega]
        rw [e] at q; exact q
      · rw [cs_fg (by omega)] at h1; cases h1
theorem right_three (hf : IsPair (m + n) f) (hg : IsPair (n + k) g) (hh : IsPair (k + l) h) {s : Bool × Nat} {y : Nat} (w : Ends (cstep f (cmp g h n k l) m n) s y) : Val m n l s → Ends (step3 f g h m n k) (em4 n k s) y := by
  have hgh := cmp_pair hg hh
  induction w with
  | @stop s e h1 =>
    intro hs
    obtain ⟨b, z⟩ := s
    cases b with
    | true =>
      by_cases c : f.getD z 0 < m
      · rw [cs_tl c] at h1; cases h1
        exact .stop (if_pos c)
      · rw [cs_tg (by omega)] at h1; cases h1
    | false =>
      have W := last_two (f := f) (m := m) (cmp_ends hg hh (show z < n + l from hs))
      by_cases c : (cmp g h n k l).getD z 0 < n
      · rw [cs_fl c] at h1; cases h1
      · rw [cs_fg (by omega)] at h1; cases h1
        rw [em4_cst]; exact W.1 (by omega)
  | @go s t e h1 _ ih =>
    intro hs
    have ht := (cs_val hf hgh hs h1).1
    obtain ⟨b, z⟩ := s
    cases b with
    | true =>
      by_cases c : f.getD z 0 < m
      · rw [cs_tl c] at h1; cases h1
      · rw [cs_tg (by omega)] at h1; cases h1
        refine .go (t := (1, f.getD z 0 - m)) (if_neg c) ?_
        have q := ih ht
        have fz := hf.d (show z < m + n from hs)
        have e : em4 n k (false, f.getD z 0 - m) = (1, f.getD z 0 - m) := if_pos (by omega)
        rw [e] at q; exact q
    | false =>
      have W := last_two (f := f) (m := m) (cmp_ends hg hh (show z < n + l from hs))
      by_cases c : (cmp g h n k l).getD z 0 < n
      · rw [cs_fl c] at h1; cases h1
        rw [em4_cst]; exact W.2 c _ (ih ht)
      · rw [cs_fg (by omega)] at h1; cases h1
/-- the order of joining does not matter -/
theorem cmp_assoc (hf : IsPair (m + n) f) (hg : IsPair (n + k) g) (hh : IsPair (k + l) h) : cmp (cmp f g m n k) h m k l = cmp f (cmp g h n k l) m n l := by
  have hfg := cmp_pair hf hg
  have hgh := cmp_pair hg hh
  refine cmp_ext (by rw [cmp_len]) fun e he => ?_
  obtain ⟨y, w⟩ := walk_ends hfg hh he
  have a := left_three hf hg hh w (cst_val hfg hh he).1
  have b := right_three hf hg hh (cmp_ends hf hgh he) (cst_val hf hgh he).1
  have e1 : em3 m n (cst m k e) = em4 n k (cst m n e) := by
    unfold cst
    by_cases c : e < m
    · rw [if_pos c, if_pos c]; exact if_pos c
    · rw [if_neg c, if_neg c]
      show (2, k + (e - m)) = if n + (e - m) < n then _ else _
      rw [if_neg (by omega), show n + (e - m) - n = e - m by omega]
  rw [e1] at a
  rw [← a.det b]; exact w
end
/-! ### what is read is a layer behind a pairing -/
theorem trail_ends {fs ps : List Nat} {n z : Nat} {l : List Nat} (hP : IsPair n ps) (h : Trail fs ps n z l) : Ends (cstep ps fs 0 n) (false, z) (l.getLastD 0 - n) := by
  induction h with
  | @stop z h1 =>
    have := cs_fg (f := ps) (g := fs) (m := 0) (n := n) (z := z) h1
    rw [Nat.zero_add] at this
    exact .stop this
  | @go z l h1 h2 ih =>
    have a := cs_fl (f := ps) (g := fs) (m := 0) (n := n) (z := z) h1
    rw [Nat.zero_add] at a
    have b := cs_tg (f := ps) (g := fs) (m := 0) (n := n) (z := fs.getD z 0) (Nat.zero_le _)
    rw [Nat.sub_zero] at b
    rw [lastc h2.len.1]
    exact .go a (.go b ih)
theorem rd_cmp {fs ps : List Nat} {n : Nat} (hF : IsPair (2 * n) fs) (hP : IsPair n ps) : rd fs ps n = cmp ps fs 0 n n := by
  refine (cmp_ext (by rw [rd_len, Nat.zero_add]) fun e he => ?_).symm
  obtain ⟨l, h1, _⟩ := trail_ex hF hP (z := n + e) (by omega) (by omega)
  have := trail_ends hP h1
  rw [← far_is h1] at this
  have e1 : (rd fs ps n).getD e 0 = far fs ps n (n + e) - n := by
    rw [List.getD_eq_getElem?_getD, rd_get fs ps (by omega)]; rfl
  rw [e1]
  unfold cst
  rw [if_neg (Nat.not_lt_zero _), Nat.sub_zero]
  exact this
/-! ### a call added to the second layer -/
section
variable {f g g' : List Nat} {m n k A B c d : Nat}
theorem Ends.near (hf : IsPair (m + n) f) (hg : IsPair (n + k) g) (hN : Near g g' n A B c d) {s : Bool × Nat} {y : Nat} (w : Ends (cstep f g m n) s y) : Val m n k s → s ≠ (false, A) → s ≠ (false, B) → y ≠ m + (A - n) → y ≠ m + (B - n) → Ends (cstep f g' m n) s y := by
  have la := hN.la
  have lb := hN.lb
  induction w with
  | @stop s y h1 =>
    intro vs s1 s2 y1 y2
    obtain ⟨b, z⟩ := s
    cases b with
    | true =>
      by_cases q : f.getD z 0 < m
      · rw [cs_tl q] at h1; cases h1; exact .stop (cs_tl q)
      · rw [cs_tg (by omega)] at h1; cases h1
    | false =>
      by_cases q : g.getD z 0 < n
      · rw [cs_fl q] at h1; cases h1
      · rw [cs_fg (by omega)] at h1; cases h1
        have e : g'.getD z 0 = g.getD z 0 := hN.eq z (fun e => s1 (by rw [e])) (fun e => s2 (by rw [e])) (fun e => y1 (by rw [e, hN.fc])) (fun e => y2 (by rw [e, hN.fd]))
        have := cs_fg (f := f) (g := g') (m := m) (n := n) (z := z) (by rw [e]; omega)
        rw [e] at this; exact .stop this
  | @go s t y h1 _ ih =>
    intro vs s1 s2 y1 y2
    have cv := cs_val hf hg vs h1
    obtain ⟨b, z⟩ := s
    cases b with
    | true =>
      by_cases q : f.getD z 0 < m
      · rw [cs_tl q] at h1; cases h1
      · rw [cs_tg (by omega)] at h1; cases h1
        have hz := (hf.d (show z < m + n from vs)).1
        exact .go (cs_tg (by omega)) (ih cv.1 (fun h => by have := congrArg Prod.snd h; have e : f.getD z 0 - m = A := this; omega) (fun h => by have := congrArg Prod.snd h; have e : f.getD z 0 - m = B := this; omega) y1 y2)
    | false =>
      by_cases q : g.getD z 0 < n
      · rw [cs_fl q] at h1; cases h1
        have e : g'.getD z 0 = g.getD z 0 := hN.eq z (fun e => s1 (by rw [e])) (fun e => s2 (by rw [e])) (fun e => by rw [e, hN.fc] at q; omega) (fun e => by rw [e, hN.fd] at q; omega)
        have := cs_fl (f := f) (g := g') (m := m) (n := n) (z := z) (by rw [e]; exact q)
        rw [e] at this
        exact .go this (ih cv.1 (fun h => by cases h) (fun h => by cases h) y1 y2)
      · rw [cs_fg (by omega)] at h1; cases h1
theorem Ends.over (hf : IsPair (m + n) f) (hg : IsPair (n + k) g) (hN : Near g g' n A B c d) (hB : B < n + k) {y' : Nat} (wB : Ends (cstep f g m n) (false, B) y') (yA : y' ≠ m + (A - n)) (yB : y' ≠ m + (B - n)) {s : Bool × Nat} {y : Nat} (w : Ends (cstep f g m n) s y) :
    Val m n k s → s ≠ (false, A) → s ≠ (false, B) → y = m + (A - n) → Ends (cstep f g' m n) s y' := by
  have la := hN.la
  have lb := hN.lb
  have fb := hN.fb
  induction w with
  | @stop s y h1 =>
    intro vs s1 s2 y1
    obtain ⟨b, z⟩ := s
    cases b with
    | true =>
      by_cases q : f.getD z 0 < m
      · rw [cs_tl q] at h1; cases h1; omega
      · rw [cs_tg (by omega)] at h1; cases h1
    | false =>
      by_cases q : g.getD z 0 < n
      · rw [cs_fl q] at h1; cases h1
      · rw [cs_fg (by omega)] at h1; cases h1
        have zc : z = c := hN.un z (by omega)
        subst zc
        -- the way of B goes on from here
        cases wB with
        | stop h2 =>
          by_cases p : g.getD B 0 < n
          · rw [cs_fl p] at h2; cases h2
          · rw [cs_fg (by omega)] at h2; cases h2
            have := cs_fg (f := f) (g := g') (m := m) (n := n) (z := z) (by rw [hN.gc, ← fb]; omega)
            rw [hN.gc, ← fb] at this; exact .stop this
        | @go _ t _ h2 h3 =>
          have cv := cs_val hf hg (show Val m n k (false, B) from hB) h2
          by_cases p : g.getD B 0 < n
          · rw [cs_fl p] at h2; cases h2
            have := cs_fl (f := f) (g := g') (m := m) (n := n) (z := z) (by rw [hN.gc, ← fb]; exact p)
            rw [hN.gc, ← fb] at this
            exact .go this (h3.near hf hg hN cv.1 (fun h => by cases h) (fun h => by cases h) yA yB)
          · rw [cs_fg (by omega)] at h2; cases h2
  | @go s t y h1 _ ih =>
    intro vs s1 s2 y1
    have cv := cs_val hf hg vs h1
    obtain ⟨b, z⟩ := s
    cases b with
    | true =>
      by_cases q : f.getD z 0 < m
      · rw [cs_tl q] at h1; cases h1
      · rw [cs_tg (by omega)] at h1; cases h1
        have hz := (hf.d (show z < m + n from vs)).1
        exact .go (cs_tg (by omega)) (ih cv.1 (fun h => by have := congrArg Prod.snd h; have e : f.getD z 0 - m = A := this; omega) (fun h => by have := congrArg Prod.snd h; have e : f.getD z 0 - m = B := this; omega) y1)
    | false =>
      by_cases q : g.getD z 0 < n
      · rw [cs_fl q] at h1; cases h1
        have e : g'.getD z 0 = g.getD z 0 := hN.eq z (fun e => s1 (by rw [e])) (fun e => s2 (by rw [e])) (fun e => by rw [e, hN.fc] at q; omega) (fun e => by rw [e, hN.fd] at q; omega)
        have := cs_fl (f := f) (g := g') (m := m) (n := n) (z := z) (by rw [e]; exact q)
        rw [e] at this
        exact .go this (ih cv.1 (fun h => by cases h) (fun h => by cases h) y1)
      · rw [cs_fg (by omega)] at h1; cases h1
end
/-- a call at the lower ends of the second layer is one at the lower ends of both -/
theorem cmp_jn {f g : List Nat} {m n k a b : Nat} (hn : k = n) (h0 : 0 < n) (hf : IsPair (m + n) f) (hg : IsPair (n + k) g) (hab : a ≠ b) (ha : a < k) (hb : b < k) : cmp f (jn g (n + a) (n + b)) m n k = jn (cmp f g m n k) (m + a) (m + b) := by
  subst hn
  have hR := cmp_pair hf hg
  have hg2 : IsPair (2 * k) g := by rw [show 2 * k = k + k by omega]; exact hg
  by_cases hc : g.getD (k + a) 0 = k + b
  · rw [jn_same (hg.ofd (by omega) hc)]
    have w : Ends (cstep f g m k) (cst m k (m + a)) (m + b) := by
      have := cs_fg (f := f) (g := g) (m := m) (n := k) (z := k + a) (by rw [hc]; omega)
      rw [hc, show k + b - k = b by omega] at this
      unfold cst
      rw [if_neg (by omega), show m + a - m = a by omega]
      exact .stop this
    refine (jn_same ?_).symm
    rw [cmp_get f g (by omega), cfar_is w]
  · obtain ⟨N1, N2, gA, gB⟩ := jn_near hg2 (A := k + a) (B := k + b) (by omega) (by omega) (by omega) (by omega) (by omega) hc
    have hg' : IsPair (k + k) (jn g (k + a) (k + b)) := jn_pair hg (by omega) (by omega) (by omega)
    have ga := hR.d (show m + a < m + k by omega)
    have gb := hR.d (show m + b < m + k by omega)
    have sA : cst m k (m + a) = (false, k + a) := by unfold cst; rw [if_neg (by omega), show m + a - m = a by omega]
    have sB : cst m k (m + b) = (false, k + b) := by unfold cst; rw [if_neg (by omega), show m + b - m = b by omega]
    have wA := cmp_ends hf hg (show m + a < m + k by omega)
    have wB := cmp_ends hf hg (show m + b < m + k by omega)
    have JS : (cmp f g m k k).getD (m + a) 0 = m + b → jn (cmp f g m k k) (m + a) (m + b) = cmp f g m k k := fun c => jn_same (hR.ofd (by omega) c)
    rw [sA] at wA
    rw [sB] at wB
    refine cmp_ext (by rw [jn_len, cmp_len]) fun e he => ?_
    have G : ∀ {v : Nat}, (jn (cmp f g m k k) (m + a) (m + b))[e]? = some v → (jn (cmp f g m k k) (m + a) (m + b)).getD e 0 = v := fun h => getD_of h
    have we := cmp_ends hf hg he
    have ve := (cst_val hf hg he).1
    have ge := hR.d he
    have ne : ∀ {x : Nat}, x < k → e ≠ m + x → cst m k e ≠ (false, k + x) := fun {x} hx h z => by
      unfold cst at z
      by_cases c : e < m
      · rw [if_pos c] at z; cases z
      · rw [if_neg c] at z
        have : k + (e - m) = k + x := congrArg Prod.snd z
        omega
    by_cases ea : e = m + a
    · subst ea
      have w : Ends (cstep f (jn g (k + a) (k + b)) m k) (cst m k (m + a)) (m + b) := by
        have := cs_fg (f := f) (g := jn g (k + a) (k + b)) (m := m) (n := k) (z := k + a) (by rw [gA]; omega)
        rw [gA, show k + b - k = b by omega] at this
        rw [sA]; exact .stop this
      by_cases c : (cmp f g m k k).getD (m + a) 0 = m + b
      · rw [JS c, c]; exact w
      · rw [G (by rw [jn_get hR (by omega) ga.2.2.2 gb.2.2.2 c, if_pos rfl])]; exact w
    · by_cases eb : e = m + b
      · subst eb
        have w : Ends (cstep f (jn g (k + a) (k + b)) m k) (cst m k (m + b)) (m + a) := by
          have := cs_fg (f := f) (g := jn g (k + a) (k + b)) (m := m) (n := k) (z := k + b) (by rw [gB]; omega)
          rw [gB, show k + a - k = a by omega] at this
          rw [sB]; exact .stop this
        by_cases c : (cmp f g m k k).getD (m + a) 0 = m + b
        · rw [JS c, show (cmp f g m k k).getD (m + b) 0 = m + a by rw [← c]; exact ga.2.2.1]; exact w
        · rw [G (by rw [jn_get hR (by omega) ga.2.2.2 gb.2.2.2 c, if_neg (by omega), if_pos rfl])]; exact w
      · have s1 := ne ha ea
        have s2 := ne hb eb
        by_cases yA : (cmp f g m k k).getD e 0 = m + a
        · have e1 : (cmp f g m k k).getD (m + a) 0 = e := by rw [← yA]; exact ge.2.2.1
          have e2 : (cmp f g m k k).getD (m + b) 0 ≠ m + a := fun z => by
            have := gb.2.2.1
            rw [z, e1] at this; omega
          have w := Ends.over hf hg N1 (by omega) wB (by rw [show k + a - k = a by omega]; exact e2) (by rw [show k + b - k = b by omega]; exact gb.2.1) we ve s1 s2 (by rw [show k + a - k = a by omega]; exact yA)
          rw [G (by rw [jn_get hR (by omega) ga.2.2.2 gb.2.2.2 (by rw [e1]; omega), if_neg ea, if_neg eb, if_pos e1.symm])]; exact w
        · by_cases yB : (cmp f g m k k).getD e 0 = m + b
          · have e1 : (cmp f g m k k).getD (m + b) 0 = e := by rw [← yB]; exact ge.2.2.1
            have e2 : (cmp f g m k k).getD (m + a) 0 ≠ m + b := fun z => by
              have := ga.2.2.1
              rw [z, e1] at this; omega
            have e3 : (cmp f g m k k).getD (m + a) 0 ≠ e := fun z => by
              have := ga.2.2.1
              rw [z, yB] at this; omega
            have w := Ends.over hf hg N2 (by omega) wA (by rw [show k + b - k = b by omega]; exact e2) (by rw [show k + a - k = a by omega]; exact ga.2.1) we ve s2 s1 (by rw [show k + b - k = b by omega]; exact yB)
            rw [G (by rw [jn_get hR (by omega) ga.2.2.2 gb.2.2.2 e2, if_neg ea, if_neg eb, if_neg (fun z => e3 z.symm), if_pos e1.symm])]; exact w
          · have w := we.near hf hg N1 ve s1 s2 (by rw [show k + a - k = a by omega]; exact yA) (by rw [show k + b - k = b by omega]; exact yB)
            by_cases c : (cmp f g m k k).getD (m + a) 0 = m + b
            · rw [JS c]; exact w
            · have e1 : (cmp f g m k k).getD (m + a) 0 ≠ e := fun z => by
                have := ga.2.2.1
                rw [z] at this; exact yA this
              have e2 : (cmp f g m k k).getD (m + b) 0 ≠ e := fun z => by
                have := gb.2.2.1
                rw [z] at this; exact yB this
              rw [G (by rw [jn_get hR (by omega) ga.2.2.2 gb.2.2.2 c, if_neg ea, if_neg eb, if_neg (fun z => e1 z.symm), if_neg (fun z => e2 z.symm)]; exact ge.2.2.2)]; exact w
end Pc
namespace Pc
/-! ### sheets one after another -/
theorem IsPair.two {n : Nat} {f : List Nat} (h : IsPair (2 * n) f) : IsPair (n + n) f := by rw [← Nat.two_mul]; exact h
theorem IsPair.one {n : Nat} {f : List Nat} (h : IsPair (n + n) f) : IsPair (2 * n) f := by rw [Nat.two_mul]; exact h
noncomputable def fol (f g : List Nat) (n : Nat) : List Nat := cmp f g n n n
theorem fol_pair {f g : List Nat} {n : Nat} (hf : IsPair (2 * n) f) (hg : IsPair (2 * n) g) : IsPair (2 * n) (fol f g n) := (cmp_pair hf.two hg.two).one
theorem fol_assoc {f g h : List Nat} {n : Nat} (hf : IsPair (2 * n) f) (hg : IsPair (2 * n) g) (hh : IsPair (2 * n) h) : fol (fol f g n) h n = fol f (fol g h n) n := cmp_assoc hf.two hg.two hh.two
theorem rd_fol {f g ps : List Nat} {n : Nat} (hf : IsPair (2 * n) f) (hg : IsPair (2 * n) g) (hP : IsPair n ps) : rd (fol f g n) ps n = rd g (rd f ps n) n := by
  have hR := rd_pair hf hP
  have hP0 : IsPair (0 + n) ps := by rw [Nat.zero_add]; exact hP
  rw [rd_cmp (fol_pair hf hg) hP, rd_cmp hg hR, rd_cmp hf hP]
  exact (cmp_assoc hP0 hf.two hg.two).symm
theorem fol_emp {f : List Nat} {n : Nat} (hn : 0 < n) (hf : IsPair (2 * n) f) : fol f (emp n) n = f := by
  refine cmp_ext (by rw [hf.len]; omega) fun e he => ?_
  have fe := hf.d (show e < 2 * n by omega)
  have em : ∀ {x : Nat}, x < n → (emp n).getD x 0 = n + x := fun h => getD_of (emp_lo h)
  have em2 : ∀ {x : Nat}, x < n → (emp n).getD (n + x) 0 = x := fun h => getD_of (emp_hi h)
  -- from the first layer
  have T : ∀ {z : Nat}, z < 2 * n → Ends (cstep f (emp n) n n) (true, z) (f.getD z 0) := fun {z} hz => by
    have fz := hf.d hz
    by_cases c : f.getD z 0 < n
    · exact .stop (cs_tl c)
    · refine .go (cs_tg (by omega)) (.stop ?_)
      have e1 := em (x := f.getD z 0 - n) (by omega)
      rw [cs_fg (by rw [e1]; omega), e1, show n + (n + (f.getD z 0 - n) - n) = f.getD z 0 by omega]
  unfold cst
  by_cases c : e < n
  · rw [if_pos c]; exact T (by omega)
  · rw [if_neg c]
    have e1 := em2 (x := e - n) (by omega)
    refine .go (t := (true, e)) ?_ (T (by omega))
    rw [cs_fl (by rw [e1]; omega), e1, show n + (e - n) = e by omega]
theorem emp_fol {f : List Nat} {n : Nat} (hn : 0 < n) (hf : IsPair (2 * n) f) : fol (emp n) f n = f := by
  refine cmp_ext (by rw [hf.len]; omega) fun e he => ?_
  have em : ∀ {x : Nat}, x < n → (emp n).getD x 0 = n + x := fun h => getD_of (emp_lo h)
  have em2 : ∀ {x : Nat}, x < n → (emp n).getD (n + x) 0 = x := fun h => getD_of (emp_hi h)
  have T : ∀ {z : Nat}, z < 2 * n → Ends (cstep (emp n) f n n) (false, z) (f.getD z 0) := fun {z} hz => by
    have fz := hf.d hz
    by_cases c : f.getD z 0 < n
    · refine .go (cs_fl c) (.stop ?_)
      have e1 := em2 c
      rw [cs_tl (by rw [e1]; exact c), e1]
    · refine .stop ?_
      rw [cs_fg (by omega), show n + (f.getD z 0 - n) = f.getD z 0 by omega]
  unfold cst
  by_cases c : e < n
  · rw [if_pos c]
    have e1 := em c
    refine .go (t := (false, e)) ?_ (T (by omega))
    rw [cs_tg (by rw [e1]; omega), e1, show n + e - n = e by omega]
  · rw [if_neg c, show n + (e - n) = e by omega]; exact T (by omega)
theorem fol_shw {f : List Nat} {n : Nat} (hn : 0 < n) (hf : IsPair (2 * n) f) : ∀ (qs : List (Nat × Nat)) {g : List Nat}, IsPair (2 * n) g → Calls n qs → fol f (shw n qs g) n = shw n qs (fol f g n)
  | [], _, _, _ => rfl
  | q :: r, g, hg, hc => by
    have h1 := hc q List.mem_cons_self
    have h2 := fol_shw hn hf r (jn_pair hg (a := n + q.1) (b := n + q.2) (by omega) (by omega) (by omega)) (fun x hx => hc x (List.mem_cons_of_mem _ hx))
    have e : fol f (jn g (n + q.1) (n + q.2)) n = jn (fol f g n) (n + q.1) (n + q.2) := cmp_jn rfl hn hf.two hg.two (by omega) (by omega) h1.2
    rw [e] at h2
    exact h2
/-- the sheet of a word behind a sheet is the word added to it -/
theorem fol_word {f : List Nat} {n : Nat} {qs : List (Nat × Nat)} (hn : 0 < n) (hf : IsPair (2 * n) f) (hc : Calls n qs) : fol f (shw n qs (emp n)) n = shw n qs f := by
  rw [fol_shw hn hf qs (emp_pair hn) hc, fol_emp hn hf]
theorem shw_app (n : Nat) (qs rs : List (Nat × Nat)) (f : List Nat) : shw n (qs ++ rs) f = shw n rs (shw n qs f) := by
  unfold shw runs low
  rw [List.map_append, List.foldl_append]
/-! ### again and again -/
noncomputable def pw (f : List Nat) (n : Nat) : Nat → List Nat
  | 0 => emp n
  | k + 1 => fol (pw f n k) f n
theorem pw_pair {f : List Nat} {n : Nat} (hn : 0 < n) (hf : IsPair (2 * n) f) : ∀ k, IsPair (2 * n) (pw f n k)
  | 0 => emp_pair hn
  | k + 1 => fol_pair (pw_pair hn hf k) hf
theorem pw_add {f : List Nat} {n : Nat} (hn : 0 < n) (hf : IsPair (2 * n) f) (a : Nat) : ∀ b, fol (pw f n a) (pw f n b) n = pw f n (a + b)
  | 0 => fol_emp hn (pw_pair hn hf a)
  | b + 1 => by
    show fol (pw f n a) (fol (pw f n b) f n) n = fol (pw f n (a + b)) f n
    rw [← fol_assoc (pw_pair hn hf a) (pw_pair hn hf b) hf, pw_add hn hf a b]
theorem pw_one {f : List Nat} {n : Nat} (hn : 0 < n) (hf : IsPair (2 * n) f) : pw f n 1 = f := emp_fol hn hf
/-! ### upside down -/
def os (n e : Nat) : Nat := if e < n then e + n else e - n
theorem os_lt {n e : Nat} (h : e < 2 * n) : os n e < 2 * n := by unfold os; split <;> omega
theorem os_os {n e : Nat} (h : e < 2 * n) : os n (os n e) = e := by
  unfold os
  by_cases c : e < n
  · rw [if_pos c, if_neg (by omega)]; omega
  · rw [if_neg c, if_pos (by omega)]; omega
def mir (f : List Nat) (n : Nat) : List Nat := (List.range (2 * n)).map fun e => os n (f.getD (os n e) 0)
theorem mir_len (f : List Nat) (n : Nat) : (mir f n).length = 2 * n := by unfold mir; rw [List.length_map, List.length_range]
theorem mir_get (f : List Nat) {n e : Nat} (h : e < 2 * n) : (mir f n)[e]? = some (os n (f.getD (os n e) 0)) := by unfold mir; rw [List.getElem?_map, List.getElem?_range h]; rfl
theorem mir_d (f : List Nat) {n e : Nat} (h : e < 2 * n) : (mir f n).getD e 0 = os n (f.getD (os n e) 0) := getD_of (mir_get f h)
theorem mir_pair {f : List Nat} {n : Nat} (hf : IsPair (2 * n) f) : IsPair (2 * n) (mir f n) := by
  refine ⟨mir_len f n, fun e he => ?_⟩
  have fo := hf.d (os_lt he)
  refine ⟨_, mir_get f he, os_lt fo.1, fun z => ?_, ?_⟩
  · have := congrArg (os n) z
    rw [os_os fo.1] at this
    exact fo.2.1 this
  · rw [mir_get f (os_lt fo.1), os_os fo.1, fo.2.2.1, os_os he]
theorem list_d {x y : List Nat} (h : x.length = y.length) (e : ∀ i, i < x.length → x.getD i 0 = y.getD i 0) : x = y := by
  refine List.ext_getElem? fun i => ?_
  by_cases hi : i < x.length
  · have := e i hi
    rw [List.getD_eq_getElem?_getD, List.getD_eq_getElem?_getD, List.getElem?_eq_getElem hi, List.getElem?_eq_getElem (by omega)] at this
    rw [List.getElem?_eq_getElem hi, List.getElem?_eq_getElem (by omega)]
    exact congrArg some this
  · rw [List.getElem?_eq_none (by omega), List.getElem?_eq_none (by omega)]
theorem mir_mir {f : List Nat} {n : Nat} (hf : IsPair (2 * n) f) : mir (mir f n) n = f := by
  refine list_d (by rw [mir_len, hf.len]) fun e he => ?_
  rw [mir_len] at he
  rw [mir_d _ he, mir_d _ (os_lt he), os_os he, os_os (hf.d he).1]
theorem mir_emp {n : Nat} : mir (emp n) n = emp n := by
  refine list_d (by rw [mir_len, emp_len]) fun e he => ?_
  rw [mir_len] at he
  rw [mir_d _ he]
  by_cases c : e < n
  · have e1 : os n e = n + e := by unfold os; rw [if_pos c]; omega
    rw [e1, getD_of (emp_hi c), getD_of (emp_lo c), e1]
  · have e1 : os n e = e - n := by unfold os; rw [if_neg c]
    have h2 := emp_hi (n := n) (e := e - n) (by omega)
    rw [show n + (e - n) = e by omega] at h2
    rw [e1, getD_of (emp_lo (by omega)), getD_of h2]
    unfold os; rw [if_neg (by omega)]; omega
/-- a walk seen from below -/
theorem mir_ends {f g : List Nat} {n : Nat} (hf : IsPair (2 * n) f) (hg : IsPair (2 * n) g) {s : Bool × Nat} {y : Nat} (w : Ends (cstep f g n n) s y) : Val n n n s → Ends (cstep (mir g n) (mir f n) n n) (!s.1, os n s.2) (os n y) := by
  induction w with
  | @stop s y h1 =>
    intro hs
    obtain ⟨b, z⟩ := s
    have hz : z < 2 * n := by cases b <;> (have : z < n + n := hs; omega)
    cases b with
    | true =>
      have fz := hf.d hz
      by_cases c : f.getD z 0 < n
      · rw [cs_tl c] at h1; cases h1
        have e1 : (mir f n).getD (os n z) 0 = os n (f.getD z 0) := by rw [mir_d _ (os_lt hz), os_os hz]
        have e2 : os n (f.getD z 0) = f.getD z 0 + n := by unfold os; rw [if_pos c]
        refine .stop ?_
        show cstep (mir g n) (mir f n) n n (false, os n z) = _
        rw [cs_fg (by rw [e1, e2]; omega), e1, e2, show n + (f.getD z 0 + n - n) = f.getD z 0 + n by omega]
      · rw [cs_tg (by omega)] at h1; cases h1
    | false =>
      have gz := hg.d hz
      by_cases c : g.getD z 0 < n
      · rw [cs_fl c] at h1; cases h1
      · rw [cs_fg (by omega)] at h1; cases h1
        have e1 : (mir g n).getD (os n z) 0 = os n (g.getD z 0) := by rw [mir_d _ (os_lt hz), os_os hz]
        have e2 : os n (g.getD z 0) = g.getD z 0 - n := by unfold os; rw [if_neg c]
        refine .stop ?_
        show cstep (mir g n) (mir f n) n n (true, os n z) = _
        rw [cs_tl (by rw [e1, e2]; omega), e1, show n + (g.getD z 0 - n) = g.getD z 0 by omega]
  | @go s t y h1 _ ih =>
    intro hs
    have cv := cs_val hf.two hg.two hs h1
    have IH := ih cv.1
    obtain ⟨b, z⟩ := s
    have hz : z < 2 * n := by cases b <;> (have : z < n + n := hs; omega)
    cases b with
    | true =>
      have fz := hf.d hz
      by_cases c : f.getD z 0 < n
      · rw [cs_tl c] at h1; cases h1
      · rw [cs_tg (by omega)] at h1; cases h1
        have e1 : (mir f n).getD (os n z) 0 = os n (f.getD z 0) := by rw [mir_d _ (os_lt hz), os_os hz]
        have e2 : os n (f.getD z 0) = f.getD z 0 - n := by unfold os; rw [if_neg c]
        have e3 : os n (f.getD z 0 - n) = n + (f.getD z 0 - n) := by unfold os; rw [if_pos (by omega)]; omega
        refine .go (t := (true, n + (f.getD z 0 - n))) ?_ (by rw [← e3]; exact IH)
        show cstep (mir g n) (mir f n) n n (false, os n z) = _
        rw [cs_fl (by rw [e1, e2]; omega), e1, e2]
    | false =>
      have gz := hg.d hz
      by_cases c : g.getD z 0 < n
      · rw [cs_fl c] at h1; cases h1
        have e1 : (mir g n).getD (os n z) 0 = os n (g.getD z 0) := by rw [mir_d _ (os_lt hz), os_os hz]
        have e2 : os n (g.getD z 0) = g.getD z 0 + n := by unfold os; rw [if_pos c]
        have e3 : os n (n + g.getD z 0) = g.getD z 0 := by unfold os; rw [if_neg (by omega)]; omega
        refine .go (t := (false, g.getD z 0)) ?_ (by have := IH; rw [show os n (true, n + g.getD z 0).2 = g.getD z 0 from e3] at this; exact this)
        show cstep (mir g n) (mir f n) n n (true, os n z) = _
        rw [cs_tg (by rw [e1, e2]; omega), e1, e2, show g.getD z 0 + n - n = g.getD z 0 by omega]
      · rw [cs_fg (by omega)] at h1; cases h1
theorem mir_fol {f g : List Nat} {n : Nat} (hf : IsPair (2 * n) f) (hg : IsPair (2 * n) g) : mir (fol f g n) n = fol (mir g n) (mir f n) n := by
  refine (cmp_ext (by rw [mir_len]; omega) fun e he => ?_).symm
  have he2 : e < 2 * n := by omega
  have w := mir_ends hf hg (cmp_ends hf.two hg.two (show os n e < n + n by have := os_lt he2; omega)) (cst_val hf.two hg.two (by have := os_lt he2; omega)).1
  rw [mir_d _ he2]
  have e1 : ((!(cst n n (os n e)).1, os n (cst n n (os n e)).2) : Bool × Nat) = cst n n e := by
    unfold cst
    by_cases c : e < n
    · have e2 : os n e = e + n := by unfold os; rw [if_pos c]
      rw [e2, if_neg (by omega), if_pos c, show n + (e + n - n) = e + n by omega]
      show (true, os n (e + n)) = _
      unfold os; rw [if_neg (by omega), Nat.add_sub_cancel]
    · have e2 : os n e = e - n := by unfold os; rw [if_neg c]
      rw [e2, if_pos (by omega), if_neg c]
      show (false, os n (e - n)) = _
      unfold os; rw [if_pos (by omega), Nat.add_comm]
  rw [e1] at w
  exact w
/-- forth, back and forth again -/
theorem fol_mir {f : List Nat} {n : Nat} (hf : IsPair (2 * n) f) : fol (fol f (mir f n) n) f n = f := by
  have hm := mir_pair hf
  have hfm := fol_pair hf hm
  have up : ∀ {x : Nat}, x < n → n ≤ f.getD x 0 → (fol f (mir f n) n).getD x 0 = n + x := fun {x} hx h => by
    have fx := hf.d (show x < 2 * n by omega)
    have w : Ends (cstep f (mir f n) n n) (cst n n x) (n + x) := by
      unfold cst; rw [if_pos hx]
      refine .go (cs_tg h) (.stop ?_)
      have e1 : (mir f n).getD (f.getD x 0 - n) 0 = x + n := by
        rw [mir_d _ (by omega), show os n (f.getD x 0 - n) = f.getD x 0 by unfold os; rw [if_pos (by omega)]; omega, fx.2.2.1]
        unfold os; rw [if_pos hx]
      rw [cs_fg (by rw [e1]; omega), e1, show n + (x + n - n) = n + x by omega]
    show (cmp f (mir f n) n n n).getD x 0 = _
    rw [cmp_d _ _ (by omega), cfar_is w]
  have upp : ∀ {x : Nat}, x < n → f.getD x 0 < n → (fol f (mir f n) n).getD x 0 = f.getD x 0 := fun {x} hx h => by
    have w : Ends (cstep f (mir f n) n n) (cst n n x) (f.getD x 0) := by
      unfold cst; rw [if_pos hx]; exact .stop (cs_tl h)
    show (cmp f (mir f n) n n n).getD x 0 = _
    rw [cmp_d _ _ (by omega), cfar_is w]
  have dn : ∀ {x : Nat}, x < n → n ≤ f.getD x 0 → (fol f (mir f n) n).getD (n + x) 0 = x := fun {x} hx h => by
    have := hfm.d (show x < 2 * n by omega)
    rw [up hx h] at this
    exact this.2.2.1
  refine cmp_ext (by rw [hf.len]; omega) fun e he => ?_
  have fe := hf.d (show e < 2 * n by omega)
  unfold cst
  by_cases c : e < n
  · rw [if_pos c]
    by_cases q : f.getD e 0 < n
    · have := cs_tl (f := fol f (mir f n) n) (g := f) (m := n) (n := n) (z := e) (by rw [upp c q]; exact q)
      rw [upp c q] at this; exact .stop this
    · have u := up c (by omega)
      refine .go (t := (false, e)) ?_ (.stop ?_)
      · rw [cs_tg (by rw [u]; omega), u, show n + e - n = e by omega]
      · rw [cs_fg (by omega), show n + (f.getD e 0 - n) = f.getD e 0 by omega]
  · rw [if_neg c, show n + (e - n) = e by omega]
    by_cases q : f.getD e 0 < n
    · have u := dn q (by rw [fe.2.2.1]; omega)
      refine .go (cs_fl q) (.stop ?_)
      rw [cs_tl (by rw [u]; exact q), u]
    · refine .stop ?_
      rw [cs_fg (by omega), show n + (f.getD e 0 - n) = f.getD e 0 by omega]
/-! ### a walk counted -/
inductive EndsN {S Y : Type} (step : S → S ⊕ Y) : Nat → S → Y → Prop
  | stop {s : S} {y : Y} : step s = .inr y → EndsN step 0 s y
  | go {t : Nat} {s u : S} {y : Y} : step s = .inl u → EndsN step t u y → EndsN step (t + 1) s y
theorem Ends.count {S Y : Type} {step : S → S ⊕ Y} {s : S} {y : Y} (h : Ends step s y) : ∃ t, EndsN step t s y := by
  induction h with
  | stop h => exact ⟨0, .stop h⟩
  | go h _ ih =>
    obtain ⟨t, ht⟩ := ih
    exact ⟨t + 1, .go h ht⟩
end Pc
namespace Pc
open PySem PySem.Spec PyProof.Rows L2 RZ
/-- x //= c -/
def ipHalf : TIp := fun x y H Q => ∃ i j, x = .int i ∧ y = .int j ∧ (0 < j ∧ j < 1073741824) ∧ Q (.int (i / j)) H
theorem ip_half {X : Cx} : PIp X .FloorDiv ipHalf := by
  intro pins s σ H x y v u Q I r1 r2 h
  obtain ⟨i, j, e1, e2, hj, q⟩ := h
  subst e1 e2
  obtain ⟨t, rfl⟩ := r1
  obtain ⟨t', rfl⟩ := r2
  refine PyProof.Rows.ifloordiv_int (by omega) ?_ (.inl (PyProof.noPylong_small (by omega)))
  rw [Int.fdiv_eq_ediv_of_nonneg i (by omega)]
  exact ⟨.int _, H, I.tok _, ⟨_, rfl⟩, q⟩
theorem bl_dec (a b : Bool) : decide (V.bl a = V.bl b) = (a == b) := by cases a <;> cases b <;> rfl
end Pc
namespace Pc
theorem iteY {b : Bool} {A B : Prop} (h : b = true) (a : A) : if b = true then A else B := by rw [if_pos h]; exact a
theorem iteX {b : Bool} {A B : Prop} (h : b = false) (a : B) : if b = true then A else B := by rw [h, if_neg Bool.false_ne_true]; exact a
end Pc
namespace Pc
/-! ### how many strands -/
theorem sts_ups {n : Nat} {fs : List Nat} (h : IsPair (2 * n) fs) : 2 * (ups fs n).length + (sts fs n).length = n := by
  have hp := jns_perm h
  have hc := hp.countP_eq (fun z => decide (z < n))
  rw [range_low] at hc
  unfold jns at hc
  have x1 : (flat (ups fs n)).countP (fun z => decide (z < n)) = 2 * (ups fs n).length := flat_two fun p hp => by
    have := ups_mem h hp
    exact ⟨decide_eq_true (by omega), decide_eq_true (by omega)⟩
  have x2 : (flat ((los fs n).map (fun p => (n + p.1, n + p.2)))).countP (fun z => decide (z < n)) = 0 := flat_none fun p hp => by
    obtain ⟨r, hr, rfl⟩ := List.mem_map.mp hp
    exact ⟨decide_eq_false (by show ¬ n + r.1 < n; omega), decide_eq_false (by show ¬ n + r.2 < n; omega)⟩
  have x3 : (flat ((sts fs n).map (fun p => (p.1, n + p.2)))).countP (fun z => decide (z < n)) = ((sts fs n).map (fun p => (p.1, n + p.2))).length := flat_one fun p hp => by
    obtain ⟨r, hr, rfl⟩ := List.mem_map.mp hp
    have := sts_mem h hr
    exact ⟨decide_eq_true (by show r.1 < n; omega), decide_eq_false (by show ¬ n + r.2 < n; omega)⟩
  rw [flat_app, flat_app, List.countP_append, List.countP_append, x1, x2, x3, List.length_map] at hc
  omega
theorem sel_len {c d : Nat → Bool} {g k : Nat → Nat × Nat} {n : Nat} (h : ∀ x, x < n → c x = d x) : (selN c g n).length = (selN d k n).length := by
  unfold selN
  rw [List.length_map, List.length_map]
  exact congrArg List.length (List.filter_congr fun x hx => h x (List.mem_range.mp hx))
theorem sel_le {c d : Nat → Bool} {g k : Nat → Nat × Nat} {n : Nat} (h : ∀ x, x < n → c x = true → d x = true) : (selN c g n).length ≤ (selN d k n).length := by
  unfold selN
  rw [List.length_map, List.length_map, ← List.countP_eq_length_filter, ← List.countP_eq_length_filter]
  exact List.countP_mono_left fun x hx => h x (List.mem_range.mp hx)
theorem ups_mir {n : Nat} {f : List Nat} (hf : IsPair (2 * n) f) : (ups (mir f n) n).length = (los f n).length := by
  refine sel_len fun x hx => ?_
  have fx := hf.d (show n + x < 2 * n by omega)
  have e : (mir f n).getD x 0 = os n (f.getD (n + x) 0) := by rw [mir_d f (by omega), show os n x = n + x by unfold os; rw [if_pos hx]; omega]
  unfold upC loC
  rw [e]
  by_cases c : f.getD (n + x) 0 < n
  · rw [show os n (f.getD (n + x) 0) = f.getD (n + x) 0 + n by unfold os; rw [if_pos c], decide_eq_false (show ¬ f.getD (n + x) 0 + n < n by omega), decide_eq_false (show ¬ n + x < f.getD (n + x) 0 by omega), Bool.and_false]
  · rw [show os n (f.getD (n + x) 0) = f.getD (n + x) 0 - n by unfold os; rw [if_neg c], decide_eq_true (show f.getD (n + x) 0 - n < n by omega), Bool.and_true]
    by_cases q : n + x < f.getD (n + x) 0
    · rw [decide_eq_true q, decide_eq_true (by omega)]
    · rw [decide_eq_false q, decide_eq_false (by omega)]
theorem sts_mir {n : Nat} {f : List Nat} (hf : IsPair (2 * n) f) : (sts (mir f n) n).length = (sts f n).length := by
  have a := sts_ups hf
  have b := sts_ups (mir_pair hf)
  rw [ups_mir hf, ← ups_los hf] at b
  omega
theorem sts_fol {n : Nat} {f g : List Nat} : (sts (fol f g n) n).length ≤ (sts f n).length := by
  refine sel_le fun x hx h => ?_
  unfold stC at h ⊢
  by_cases c : f.getD x 0 < n
  · have w : Ends (cstep f g n n) (cst n n x) (f.getD x 0) := by unfold cst; rw [if_pos hx]; exact .stop (cs_tl c)
    have e : (fol f g n).getD x 0 = f.getD x 0 := by show (cmp f g n n n).getD x 0 = _; rw [cmp_d _ _ (by omega), cfar_is w]
    rw [e, decide_eq_false (by omega)] at h; cases h
  · exact decide_eq_true (by omega)
theorem sts_fol' {n : Nat} {f g : List Nat} (hf : IsPair (2 * n) f) (hg : IsPair (2 * n) g) : (sts (fol f g n) n).length ≤ (sts g n).length := by
  rw [← sts_mir (fol_pair hf hg), mir_fol hf hg, ← sts_mir hg]
  exact sts_fol
end Pc
namespace Pc
open PySem PySem.Spec PyProof.Rows L2 RZ
theorem room65 {k : Nat} {A : Around} (r : Room k A) : A.units + 65 < cLine := by have := r.un; omega
/-- x *= c, both small -/
def ipMul : TIp := fun x y H Q => ∃ i j, x = .int i ∧ y = .int j ∧ CMul i j ∧ Q (.int (i * j)) H
theorem ip_mul {X : Cx} : PIp X .Mult ipMul := by
  intro pins s σ H x y v u Q I r1 r2 h
  obtain ⟨i, j, e1, e2, hj, q⟩ := h
  subst e1 e2
  obtain ⟨t, rfl⟩ := r1
  obtain ⟨t', rfl⟩ := r2
  exact PyProof.Rows.imul_int ⟨.int _, H, I.tok _, ⟨_, rfl⟩, q⟩ hj.ok
end Pc
namespace Pc
/-! ### counting -/
theorem cnt_same {p q : Nat → Bool} {n : Nat} (h : ∀ y, y < n → q y = p y) : (List.range n).countP q = (List.range n).countP p :=
  List.countP_congr fun x hx => by rw [h x (List.mem_range.mp hx)]
theorem cnt_off {p q : Nat → Bool} {a : Nat} : ∀ {n : Nat}, (∀ y, y < n → y ≠ a → q y = p y) → a < n → p a = true → q a = false → (List.range n).countP q + 1 = (List.range n).countP p
  | 0, _, h, _, _ => absurd h (Nat.not_lt_zero _)
  | n + 1, h, ha, h1, h2 => by
    rw [List.range_succ, List.countP_append, List.countP_append]
    by_cases e : a = n
    · subst e
      rw [cnt_same (p := p) (q := q) (fun y hy => h y (by omega) (by omega)), List.countP_cons_of_neg (by rw [h2]; decide), List.countP_cons_of_pos h1]
      rfl
    · have ih := cnt_off (p := p) (q := q) (a := a) (n := n) (fun y hy hn => h y (by omega) hn) (by omega) h1 h2
      have e1 : [n].countP q = [n].countP p := by
        have := h n (by omega) (fun z => e z.symm)
        by_cases c : p n = true
        · rw [List.countP_cons_of_pos c, List.countP_cons_of_pos (by rw [this]; exact c)]; rfl
        · rw [List.countP_cons_of_neg c, List.countP_cons_of_neg (by rw [this]; exact c)]; rfl
      rw [e1]
      omega
/-! ### the people at the lower ends of strands -/
def lsC (f : List Nat) (n y : Nat) : Bool := decide (f.getD (n + y) 0 < n)
def lse (f : List Nat) (n : Nat) : List Nat := (List.range n).filter (lsC f n)
theorem lse_len {f : List Nat} {n : Nat} (hf : IsPair (2 * n) f) : (lse f n).length = (sts f n).length := by
  rw [← sts_mir hf]
  unfold lse sts selN
  rw [List.length_map]
  refine congrArg List.length (List.filter_congr fun x hx => ?_)
  have hx := List.mem_range.mp hx
  have fx := hf.d (show n + x < 2 * n by omega)
  have e : (mir f n).getD x 0 = os n (f.getD (n + x) 0) := by rw [mir_d f (by omega), show os n x = n + x by unfold os; rw [if_pos hx]; omega]
  unfold lsC stC
  rw [e]
  by_cases c : f.getD (n + x) 0 < n
  · rw [decide_eq_true c, show os n (f.getD (n + x) 0) = f.getD (n + x) 0 + n by unfold os; rw [if_pos c], decide_eq_true (by omega)]
  · rw [decide_eq_false c, show os n (f.getD (n + x) 0) = f.getD (n + x) 0 - n by unfold os; rw [if_neg c], decide_eq_false (by omega)]
theorem lse_cnt (f : List Nat) (n : Nat) : (lse f n).length = (List.range n).countP (lsC f n) := (List.countP_eq_length_filter ..).symm
/-- a call takes two strands if both people's lower ends are strands, else none -/
theorem lse_jn {f : List Nat} {n a b : Nat} (hf : IsPair (2 * n) f) (hab : a ≠ b) (ha : a < n) (hb : b < n) : (lse (jn f (n + a) (n + b)) n).length + (if (lsC f n a && lsC f n b) = true then 2 else 0) = (lse f n).length := by
  rw [lse_cnt, lse_cnt]
  have fa := hf.d (show n + a < 2 * n by omega)
  have fb := hf.d (show n + b < 2 * n by omega)
  by_cases hc : f.getD (n + a) 0 = n + b
  · rw [jn_same (hf.ofd (by omega) hc), if_neg, Nat.add_zero]
    unfold lsC
    rw [hc, decide_eq_false (show ¬ n + b < n by omega), Bool.false_and]
    decide
  · have G := jn_get hf (show n + a ≠ n + b by omega) fa.2.2.2 fb.2.2.2 hc
    have D : ∀ z, (jn f (n + a) (n + b)).getD z 0 = ((jn f (n + a) (n + b))[z]?).getD 0 := fun z => List.getD_eq_getElem?_getD
    obtain ⟨x1, x2, x3, x4, _⟩ := four hf (show n + a ≠ n + b by omega) fa.2.2.2 fb.2.2.2 hc
    have pa : lsC (jn f (n + a) (n + b)) n a = false := by
      unfold lsC; rw [D, G, if_pos rfl]; exact decide_eq_false (by show ¬ n + b < n; omega)
    have pb : lsC (jn f (n + a) (n + b)) n b = false := by
      unfold lsC; rw [D, G, if_neg (by omega), if_pos rfl]; exact decide_eq_false (by show ¬ n + a < n; omega)
    have same : ∀ y, y ≠ a → y ≠ b → n + y ≠ f.getD (n + a) 0 → n + y ≠ f.getD (n + b) 0 → lsC (jn f (n + a) (n + b)) n y = lsC f n y := fun y h1 h2 h3 h4 => by
      unfold lsC; rw [D, G, if_neg (by omega), if_neg (by omega), if_neg h3, if_neg h4, ← List.getD_eq_getElem?_getD]
    by_cases ca : f.getD (n + a) 0 < n
    · by_cases cb : f.getD (n + b) 0 < n
      · have qa : lsC f n a = true := decide_eq_true ca
        have qb : lsC f n b = true := decide_eq_true cb
        rw [qa, qb, Bool.and_true, if_pos rfl]
        have s1 := cnt_off (p := lsC f n) (q := fun y => if y = a then false else lsC f n y) (a := a) (n := n) (fun y _ h => if_neg h) ha qa (if_pos rfl)
        have s2 := cnt_off (p := fun y => if y = a then false else lsC f n y) (q := lsC (jn f (n + a) (n + b)) n) (a := b) (n := n) (fun y _ h => by
          by_cases e : y = a
          · rw [e, if_pos rfl]; exact pa
          · rw [if_neg e]; exact same y e h (by omega) (by omega)) hb (by rw [if_neg (Ne.symm hab)]; exact qb) pb
        omega
      · have qb : lsC f n b = false := decide_eq_false cb
        have qa : lsC f n a = true := decide_eq_true ca
        rw [qa, qb, if_neg (by decide), Nat.add_zero]
        -- the one at the other end of b's pair gets the strand
        have hv : f.getD (n + b) 0 - n < n := by omega
        have ev : n + (f.getD (n + b) 0 - n) = f.getD (n + b) 0 := by omega
        have qv : lsC f n (f.getD (n + b) 0 - n) = false := by unfold lsC; rw [ev, fb.2.2.1]; exact decide_eq_false (by omega)
        have pv : lsC (jn f (n + a) (n + b)) n (f.getD (n + b) 0 - n) = true := by
          unfold lsC; rw [ev, D, G, if_neg x3, if_neg x2, if_neg (Ne.symm x4), if_pos rfl]; exact decide_eq_true ca
        have s1 := cnt_off (p := lsC f n) (q := fun y => if y = a then false else lsC f n y) (a := a) (n := n) (fun y _ h => if_neg h) ha qa (if_pos rfl)
        have va : f.getD (n + b) 0 - n ≠ a := fun z => by rw [z, qa] at qv; cases qv
        have s2 := cnt_off (q := fun y => if y = a then false else lsC f n y) (p := lsC (jn f (n + a) (n + b)) n) (a := f.getD (n + b) 0 - n) (n := n) (fun y _ h => by
          by_cases e : y = a
          · rw [e, if_pos rfl]; exact pa.symm
          · rw [if_neg e]
            by_cases e2 : y = b
            · rw [e2, pb, qb]
            · exact (same y e e2 (by omega) (by omega)).symm) hv pv (by rw [if_neg va]; exact qv)
        omega
    · have qa : lsC f n a = false := decide_eq_false ca
      by_cases cb : f.getD (n + b) 0 < n
      · have qb : lsC f n b = true := decide_eq_true cb
        rw [qa, qb, if_neg (by decide), Nat.add_zero]
        have hv : f.getD (n + a) 0 - n < n := by omega
        have ev : n + (f.getD (n + a) 0 - n) = f.getD (n + a) 0 := by omega
        have qv : lsC f n (f.getD (n + a) 0 - n) = false := by unfold lsC; rw [ev, fa.2.2.1]; exact decide_eq_false (by omega)
        have pv : lsC (jn f (n + a) (n + b)) n (f.getD (n + a) 0 - n) = true := by
          unfold lsC; rw [ev, D, G, if_neg x1, if_neg hc, if_pos rfl]; exact decide_eq_true cb
        have s1 := cnt_off (p := lsC f n) (q := fun y => if y = b then false else lsC f n y) (a := b) (n := n) (fun y _ h => if_neg h) hb qb (if_pos rfl)
        have vb : f.getD (n + a) 0 - n ≠ b := fun z => by rw [z, qb] at qv; cases qv
        have s2 := cnt_off (q := fun y => if y = b then false else lsC f n y) (p := lsC (jn f (n + a) (n + b)) n) (a := f.getD (n + a) 0 - n) (n := n) (fun y _ h => by
          by_cases e : y = b
          · rw [e, if_pos rfl]; exact pb.symm
          · rw [if_neg e]
            by_cases e2 : y = a
            · rw [e2, pa, qa]
            · exact (same y e2 e (by omega) (by omega)).symm) hv pv (by rw [if_neg vb]; exact qv)
        omega
      · have qb : lsC f n b = false := decide_eq_false cb
        rw [qa, qb, if_neg (by decide), Nat.add_zero]
        refine cnt_same fun y hy => ?_
        by_cases e1 : y = a
        · rw [e1, pa, qa]
        · by_cases e2 : y = b
          · rw [e2, pb, qb]
          · by_cases e3 : n + y = f.getD (n + a) 0
            · have h1 : lsC f n y = false := by unfold lsC; rw [e3, fa.2.2.1]; exact decide_eq_false (by omega)
              have h2 : lsC (jn f (n + a) (n + b)) n y = false := by unfold lsC; rw [e3, D, G, if_neg x1, if_neg hc, if_pos rfl]; exact decide_eq_false cb
              rw [h1, h2]
            · by_cases e4 : n + y = f.getD (n + b) 0
              · have h1 : lsC f n y = false := by unfold lsC; rw [e4, fb.2.2.1]; exact decide_eq_false (by omega)
                have h2 : lsC (jn f (n + a) (n + b)) n y = false := by unfold lsC; rw [e4, D, G, if_neg x3, if_neg x2, if_neg (Ne.symm x4), if_pos rfl]; exact decide_eq_false ca
                rw [h1, h2]
              · exact same y e1 e2 e3 e4
/-! ### how many pairings -/
def dfac : Nat → Nat
  | 0 => 1
  | r + 1 => dfac r * (2 * r + 1)
theorem dfac_pos : ∀ r, 0 < dfac r
  | 0 => Nat.one_pos
  | r + 1 => Nat.mul_pos (dfac_pos r) (by omega)
theorem dfac_dvd (r : Nat) : ∀ k, dfac r ∣ dfac (r + k)
  | 0 => Nat.dvd_refl _
  | k + 1 => Nat.dvd_trans (dfac_dvd r k) ⟨2 * (r + k) + 1, rfl⟩
end Pc
namespace Pc
open PySem PySem.Spec PyProof.Rows L2 RZ
theorem in_nat (i : Nat) (l : List Nat) : inV (.int (i : Int)) (nv l) = decide (i ∈ l) := by
  unfold inV nv
  rw [List.any_map, Bool.eq_iff_iff, List.any_eq_true, decide_eq_true_iff]
  constructor
  · rintro ⟨x, hx, e⟩
    have e' : eqV (.int (x : Int)) (.int (i : Int)) = true := e
    have : (x : Int) = (i : Int) := by simpa [eqV] using e'
    have : x = i := by omega
    exact this ▸ hx
  · intro h
    exact ⟨i, h, by show eqV (.int (i : Int)) (.int (i : Int)) = true; simp [eqV]⟩
theorem flat_nat (l : List Nat) : (nv l).all flatV = true := by
  unfold nv
  rw [List.all_map, List.all_eq_true]
  exact fun x _ => rfl
theorem mem_data {ps : List (Nat × Nat)} {p : Nat × Nat} (h : p ∈ ps) : ((ps.map pd).any fun z => PyData.eqv z (pd p)) = true := by
  rw [List.any_eq_true]
  exact ⟨pd p, List.mem_map.mpr ⟨p, h, rfl⟩, PySem.SeqAt.eqv_refl _ rfl⟩
/-! ### a call and the pairs of a sheet -/
theorem los_jn {f : List Nat} {n a b : Nat} (hf : IsPair (2 * n) f) (hab : a < b) (hb : b < n) : (a, b) ∈ los (jn f (n + a) (n + b)) n := by
  have e : (jn f (n + a) (n + b)).getD (n + a) 0 = n + b := by
    have fa := hf.d (show n + a < 2 * n by omega)
    have fb := hf.d (show n + b < 2 * n by omega)
    by_cases hc : f.getD (n + a) 0 = n + b
    · rw [jn_same (hf.ofd (by omega) hc), hc]
    · exact getD_of (by rw [jn_get hf (by omega) fa.2.2.2 fb.2.2.2 hc, if_pos rfl])
  refine selN_mem.mpr ⟨a, by omega, ?_, ?_⟩
  · unfold loC; rw [e]; exact decide_eq_true (by omega)
  · unfold loG; rw [e, Nat.add_sub_cancel_left]
theorem ups_jn {f : List Nat} {n a b : Nat} (hf : IsPair (2 * n) f) (hab : a < b) (hb : b < n) {p : Nat × Nat} (hp : p ∈ ups f n) : p ∈ ups (jn f (n + a) (n + b)) n := by
  obtain ⟨x, hx, c, e⟩ := selN_mem.mp hp
  unfold upC at c
  rw [Bool.and_eq_true, decide_eq_true_iff, decide_eq_true_iff] at c
  have fa := hf.d (show n + a < 2 * n by omega)
  have fb := hf.d (show n + b < 2 * n by omega)
  have fx := hf.d (show x < 2 * n by omega)
  have e2 : (jn f (n + a) (n + b)).getD x 0 = f.getD x 0 := by
    by_cases hc : f.getD (n + a) 0 = n + b
    · rw [jn_same (hf.ofd (by omega) hc)]
    · refine getD_of ?_
      rw [jn_get hf (by omega) fa.2.2.2 fb.2.2.2 hc, if_neg (by omega), if_neg (by omega), if_neg (fun z => by rw [z, fa.2.2.1] at c; omega), if_neg (fun z => by rw [z, fb.2.2.1] at c; omega)]
      exact fx.2.2.2
  refine selN_mem.mpr ⟨x, hx, ?_, ?_⟩
  · unfold upC; rw [e2, decide_eq_true c.1, decide_eq_true c.2]; rfl
  · rw [← e]; unfold upG; rw [e2]
theorem low_lows {f : List Nat} {n y : Nat} (hf : IsPair (2 * n) f) (hy : y < n) : decide (y ∈ (sts f n).map Prod.snd) = lsC f n y := by
  have fy := hf.d (show n + y < 2 * n by omega)
  unfold lsC
  rw [decide_eq_decide]
  constructor
  · intro h
    obtain ⟨p, hp, e⟩ := List.mem_map.mp h
    obtain ⟨h1, h2, h3⟩ := sts_mem hf hp
    have := (hf.back h1).1
    rw [e] at this
    rw [getD_of this]; exact h2
  · intro h
    refine List.mem_map.mpr ⟨(f.getD (n + y) 0, y), ?_, rfl⟩
    refine selN_mem.mpr ⟨f.getD (n + y) 0, h, ?_, ?_⟩
    · unfold stC; rw [fy.2.2.1]; exact decide_eq_true (by omega)
    · unfold stG; rw [fy.2.2.1, Nat.add_sub_cancel_left]
theorem rd_los {f ps : List Nat} {n : Nat} (hf : IsPair (2 * n) f) {p : Nat × Nat} (hp : p ∈ los f n) : (rd f ps n)[p.1]? = some p.2 := by
  obtain ⟨h1, h2, h3⟩ := los_mem hf hp
  have e := getD_of h1
  have t := Trail.stop (fs := f) (ps := ps) (n := n) (z := n + p.1) (by rw [e]; omega)
  rw [rd_get f ps (by omega), far_is t, e]
  show some (n + p.2 - n) = _
  rw [Nat.add_sub_cancel_left]
theorem jn_idem {n : Nat} {fs : List Nat} (hP : IsPair n fs) {a b : Nat} (hab : a ≠ b) (ha : a < n) (hb : b < n) : jn (jn fs a b) a b = jn fs a b := by
  have fa := hP.d ha
  have fb := hP.d hb
  refine jn_same ?_
  by_cases hc : fs.getD a 0 = b
  · rw [jn_same (hP.ofd ha hc)]; exact hP.ofd ha hc
  · rw [jn_get hP hab fa.2.2.2 fb.2.2.2 hc, if_pos rfl]
end Pc
namespace Pc
/-! ### words that settle -/
def sw : List Nat → List (Nat × Nat)
  | a :: b :: c :: r => (a, b) :: sw (c :: r)
  | _ => []
theorem sw_eq : ∀ l : List Nat, sw l = (List.range ((l.length - 1) / 2)).map fun i => (l.getD (2 * i) 0, l.getD (2 * i + 1) 0)
  | [] => rfl
  | [_] => by simp [sw]
  | [_, _] => by simp [sw]
  | a :: b :: c :: r => by
    show (a, b) :: sw (c :: r) = _
    rw [sw_eq (c :: r)]
    have e : ((a :: b :: c :: r).length - 1) / 2 = ((c :: r).length - 1) / 2 + 1 := by simp only [List.length_cons]; omega
    rw [e, List.range_succ_eq_map, List.map_cons, List.map_map]
    rfl
theorem sw_len (l : List Nat) : (sw l).length = (l.length - 1) / 2 := by rw [sw_eq, List.length_map, List.length_range]
theorem lse_two {f : List Nat} {n a b : Nat} (hf : IsPair (2 * n) f) (hab : a ≠ b) (ha : a < n) (hb : b < n) (qa : lsC f n a = true) (qb : lsC f n b = true) : lse (jn f (n + a) (n + b)) n = (lse f n).filter (fun y => !decide (y = a) && !decide (y = b)) := by
  have fa := hf.d (show n + a < 2 * n by omega)
  have fb := hf.d (show n + b < 2 * n by omega)
  have ca : f.getD (n + a) 0 < n := of_decide_eq_true qa
  have cb : f.getD (n + b) 0 < n := of_decide_eq_true qb
  have hc : f.getD (n + a) 0 ≠ n + b := by omega
  have G := jn_get hf (show n + a ≠ n + b by omega) fa.2.2.2 fb.2.2.2 hc
  have D : ∀ z, (jn f (n + a) (n + b)).getD z 0 = ((jn f (n + a) (n + b))[z]?).getD 0 := fun z => List.getD_eq_getElem?_getD
  unfold lse
  rw [List.filter_filter]
  refine List.filter_congr fun y _ => ?_
  unfold lsC
  rw [D, G]
  by_cases e1 : y = a
  · rw [if_pos (by omega), decide_eq_true e1]
    show decide (n + b < n) = _
    rw [decide_eq_false (by omega)]; rfl
  · by_cases e2 : y = b
    · rw [if_neg (by omega), if_pos (by omega), decide_eq_true e2]
      show decide (n + a < n) = _
      rw [decide_eq_false (by omega), Bool.not_true, Bool.and_false]; rfl
    · rw [if_neg (by omega), if_neg (by omega), if_neg (by omega), if_neg (by omega), ← List.getD_eq_getElem?_getD, decide_eq_false e1, decide_eq_false e2]
      simp
theorem lse_nodup (f : List Nat) (n : Nat) : (lse f n).Nodup := List.nodup_range.filter _
theorem lse_mem {f : List Nat} {n y : Nat} : y ∈ lse f n ↔ y < n ∧ lsC f n y = true := by
  unfold lse; rw [List.mem_filter, List.mem_range]
theorem settle_end {n : Nat} : ∀ (l : List Nat) {f : List Nat}, IsPair (2 * n) f → lse f n = l → (lse (shw n (sw l) f) n).length ≤ 2 ∧ IsPair (2 * n) (shw n (sw l) f)
  | [], f, hf, h => by
    show (lse f n).length ≤ 2 ∧ IsPair (2 * n) f
    rw [h]; exact ⟨by decide, hf⟩
  | [_], f, hf, h => by
    show (lse f n).length ≤ 2 ∧ IsPair (2 * n) f
    rw [h]; exact ⟨by simp, hf⟩
  | [_, _], f, hf, h => by
    show (lse f n).length ≤ 2 ∧ IsPair (2 * n) f
    rw [h]; exact ⟨by simp, hf⟩
  | a :: b :: c :: r, f, hf, h => by
    have hnd := lse_nodup f n
    rw [h] at hnd
    obtain ⟨n1, hnd2⟩ := List.nodup_cons.mp hnd
    obtain ⟨n2, _⟩ := List.nodup_cons.mp hnd2
    have ma := lse_mem.mp (show a ∈ lse f n by rw [h]; exact List.mem_cons_self)
    have mb := lse_mem.mp (show b ∈ lse f n by rw [h]; exact List.mem_cons_of_mem _ List.mem_cons_self)
    have hab : a ≠ b := fun e => n1 (e ▸ List.mem_cons_self)
    have hj : IsPair (2 * n) (jn f (n + a) (n + b)) := jn_pair hf (by omega) (by omega) (by omega)
    have e : lse (jn f (n + a) (n + b)) n = c :: r := by
      rw [lse_two hf hab ma.1 mb.1 ma.2 mb.2, h, List.filter_cons_of_neg (by simp), List.filter_cons_of_neg (by simp)]
      refine List.filter_eq_self.mpr fun y hy => ?_
      have y1 : y ≠ a := fun z => n1 (z ▸ List.mem_cons_of_mem _ hy)
      have y2 : y ≠ b := fun z => n2 (z ▸ hy)
      rw [decide_eq_false y1, decide_eq_false y2]; rfl
    exact settle_end (c :: r) hj e
theorem sw_calls {n : Nat} {f : List Nat} : ∀ (l : List Nat), l.Pairwise (· < ·) → (∀ x ∈ l, x < n) → Calls n (sw l)
  | [], _, _ => fun q hq => by simp [sw] at hq
  | [_], _, _ => fun q hq => by simp [sw] at hq
  | [_, _], _, _ => fun q hq => by simp [sw] at hq
  | a :: b :: c :: r, hp, hl => fun q hq => by
    rcases List.mem_cons.mp (show q ∈ (a, b) :: sw (c :: r) from hq) with z | z
    · rw [z]
      exact ⟨(List.pairwise_cons.mp hp).1 b List.mem_cons_self, hl b (List.mem_cons_of_mem _ List.mem_cons_self)⟩
    · exact sw_calls (f := f) (c :: r) (List.pairwise_cons.mp (List.pairwise_cons.mp hp).2).2 (fun x hx => hl x (List.mem_cons_of_mem _ (List.mem_cons_of_mem _ hx))) q z
theorem lse_asc (f : List Nat) (n : Nat) : (lse f n).Pairwise (· < ·) := List.pairwise_lt_range.filter _
theorem word_calls (f : List Nat) (n : Nat) : Calls n (sw (lse f n)) := sw_calls (f := f) _ (lse_asc f n) fun x hx => (lse_mem.mp hx).1
/-- who is loose has somebody who is loose -/
theorem rd_loose {f ps : List Nat} {n x : Nat} (hf : IsPair (2 * n) f) (hP : IsPair n ps) (hx : x ∈ lse f n) : (rd f ps n).getD x 0 ∈ lse f n ∧ (rd f ps n).getD x 0 ≠ x := by
  obtain ⟨hxn, hc⟩ := lse_mem.mp hx
  have hR := rd_pair hf hP
  have rx := hR.d hxn
  refine ⟨lse_mem.mpr ⟨rx.1, ?_⟩, rx.2.1⟩
  cases q : lsC f n ((rd f ps n).getD x 0) with
  | true => rfl
  | false =>
    have c : n ≤ f.getD (n + (rd f ps n).getD x 0) 0 := by
      have := of_decide_eq_false q
      omega
    have t := Trail.stop (fs := f) (ps := ps) (n := n) (z := n + (rd f ps n).getD x 0) c
    have e1 : (rd f ps n).getD ((rd f ps n).getD x 0) 0 = f.getD (n + (rd f ps n).getD x 0) 0 - n := by
      refine getD_of ?_
      rw [rd_get f ps rx.1, far_is t]; rfl
    rw [rx.2.2.1] at e1
    have fy := hf.d (show n + (rd f ps n).getD x 0 < 2 * n by omega)
    have e2 : f.getD (n + (rd f ps n).getD x 0) 0 = n + x := by omega
    have e3 := fy.2.2.1
    rw [e2] at e3
    have := of_decide_eq_true hc
    omega
theorem two_same {l : List Nat} (hl : l.length ≤ 2) {x y z : Nat} (hx : x ∈ l) (hy : y ∈ l) (hz : z ∈ l) (h1 : y ≠ x) (h2 : z ≠ x) : y = z := by
  match l, hl with
  | [], _ => simp at hx
  | [u], _ =>
    rw [List.mem_singleton] at hx hy
    exact absurd (hy.trans hx.symm) h1
  | [u, v], _ =>
    simp only [List.mem_cons, List.not_mem_nil, or_false] at hx hy hz
    omega
/-- with two strands at most there is only one result -/
theorem rd_settled {f ps qs : List Nat} {n : Nat} (hf : IsPair (2 * n) f) (hP : IsPair n ps) (hQ : IsPair n qs) (hl : (lse f n).length ≤ 2) : rd f ps n = rd f qs n := by
  refine list_d (by rw [rd_len, rd_len]) fun x hx => ?_
  rw [rd_len] at hx
  by_cases c : lsC f n x = true
  · have hm := lse_mem.mpr ⟨hx, c⟩
    exact two_same hl hm (rd_loose hf hP hm).1 (rd_loose hf hQ hm).1 (rd_loose hf hP hm).2 (rd_loose hf hQ hm).2
  · have c' : n ≤ f.getD (n + x) 0 := by
      apply Classical.byContradiction
      intro h
      exact c (decide_eq_true (by omega))
    have t1 := Trail.stop (fs := f) (ps := ps) (n := n) (z := n + x) c'
    have t2 := Trail.stop (fs := f) (ps := qs) (n := n) (z := n + x) c'
    rw [List.getD_eq_getElem?_getD, List.getD_eq_getElem?_getD, rd_get f ps hx, rd_get f qs hx, far_is t1, far_is t2]
/-- the word of a sheet leads everybody to the same -/
theorem word_settles {f ps qs : List Nat} {n : Nat} (hf : IsPair (2 * n) f) (hP : IsPair n ps) (hQ : IsPair n qs) : runs (sw (lse f n)) (rd f ps n) = runs (sw (lse f n)) (rd f qs n) := by
  obtain ⟨h1, h2⟩ := settle_end (lse f n) hf rfl
  rw [← rd_runs hP _ hf (word_calls f n), ← rd_runs hQ _ hf (word_calls f n)]
  exact rd_settled h2 hP hQ h1
/-- calls of couples make these couples -/
theorem runs_keep {n : Nat} {ps : List Nat} (hP : IsPair n ps) : ∀ (cs : List (Nat × Nat)) {R : List Nat}, IsPair n R → (∀ p ∈ cs, ps[p.1]? = some p.2 ∧ p.1 < p.2) → ∀ x y, ps[x]? = some y → (R.getD x 0 = y ∨ (x, y) ∈ cs ∨ (y, x) ∈ cs) → (runs cs R).getD x 0 = y
  | [], R, _, _, x, y, _, h => by
    rcases h with h | h | h
    · exact h
    · simp at h
    · simp at h
  | (a, b) :: cs, R, hR, hc, x, y, hxy, h => by
    have hab := hc (a, b) List.mem_cons_self
    have h1 : ps[a]? = some b := hab.1
    have hlt : a < b := hab.2
    obtain ⟨b1, b2, b3, b4⟩ := hP.back h1
    have Ra := hR.d b3
    have Rb := hR.d b2
    have hj : IsPair n (jn R a b) := jn_pair hR (by omega) b3 b2
    obtain ⟨x1, x2, x3, x4⟩ := hP.back hxy
    refine runs_keep hP cs (R := jn R a b) hj (fun p hp => hc p (List.mem_cons_of_mem _ hp)) x y hxy ?_
    have ja : (jn R a b).getD a 0 = b ∧ (jn R a b).getD b 0 = a := by
      by_cases c : R.getD a 0 = b
      · rw [jn_same (hR.ofd b3 c)]
        exact ⟨c, by have := Ra.2.2.1; rw [c] at this; exact this⟩
      · have G := jn_get hR (show a ≠ b by omega) Ra.2.2.2 Rb.2.2.2 c
        exact ⟨getD_of (by rw [G, if_pos rfl]), getD_of (by rw [G, if_neg (by omega), if_pos rfl])⟩
    rcases h with h | h | h
    · refine .inl ?_
      by_cases c : R.getD a 0 = b
      · rw [jn_same (hR.ofd b3 c)]; exact h
      · have G := jn_get hR (show a ≠ b by omega) Ra.2.2.2 Rb.2.2.2 c
        have xa : x ≠ a := fun e => by subst e; rw [h1] at hxy; rw [← Option.some.inj hxy] at h; exact c h
        have xb : x ≠ b := fun e => by
          subst e
          rw [b1] at hxy
          rw [← Option.some.inj hxy] at h
          have := Rb.2.2.1
          rw [h] at this; exact c this
        have xc : x ≠ R.getD a 0 := fun e => by
          have : R.getD x 0 = a := by rw [e]; exact Ra.2.2.1
          rw [h] at this
          rw [this, h1] at x1
          exact xb (Option.some.inj x1).symm
        have xd : x ≠ R.getD b 0 := fun e => by
          have : R.getD x 0 = b := by rw [e]; exact Rb.2.2.1
          rw [h] at this
          rw [this, b1] at x1
          exact xa (Option.some.inj x1).symm
        refine getD_of ?_
        rw [G, if_neg xa, if_neg xb, if_neg xc, if_neg xd]
        exact hR.ofd x3 h
    · rcases List.mem_cons.mp h with z | z
      · injection z with z1 z2
        subst z1 z2
        exact .inl ja.1
      · exact .inr (.inl z)
    · rcases List.mem_cons.mp h with z | z
      · injection z with z1 z2
        subst z1 z2
        exact .inl ja.2
      · exact .inr (.inr z)
theorem in_drop {α : Type} {l : List α} {p : α} (h : p ∈ l) : p ∈ l.dropLast ∨ ∃ hn : l ≠ [], p = l.getLast hn := by
  have hn : l ≠ [] := fun e => by rw [e] at h; simp at h
  rw [← List.dropLast_concat_getLast hn] at h
  rcases List.mem_append.mp h with z | z
  · exact .inl z
  · exact .inr ⟨hn, List.mem_singleton.mp z⟩
/-- the couples but the last lead everybody there -/
theorem cpl_runs {n : Nat} {ps q0 : List Nat} (hP : IsPair n ps) (hQ : IsPair n q0) : runs (cpl ps).dropLast q0 = ps := by
  have hc : ∀ p ∈ (cpl ps).dropLast, ps[p.1]? = some p.2 ∧ p.1 < p.2 := fun p hp => (mem_cpl hP).mp (List.dropLast_subset _ hp)
  have hcalls : Calls n (cpl ps).dropLast := fun p hp => by
    have := hc p hp
    exact ⟨this.2, (hP.back this.1).2.1⟩
  have hR := runs_pair _ hQ hcalls
  have good : ∀ {x : Nat}, x < n → ∀ {p : Nat × Nat}, p ∈ (cpl ps).dropLast → (p.1 = x ∨ p.2 = x) → (runs (cpl ps).dropLast q0).getD x 0 = ps.getD x 0 := fun {x} hx {p} hp e => by
    have px := hP.d hx
    have pp := hc p hp
    refine runs_keep hP _ hQ hc x _ px.2.2.2 (.inr ?_)
    rcases e with e | e
    · left
      have : ps.getD x 0 = p.2 := by rw [← e]; exact getD_of pp.1
      rw [this, ← e]; exact hp
    · right
      have : ps.getD x 0 = p.1 := by rw [← e]; exact getD_of (hP.back pp.1).1
      rw [this, ← e]; exact hp
  refine list_d (by rw [hR.len, hP.len]) fun x hx => ?_
  rw [hR.len] at hx
  obtain ⟨p, hp, ep⟩ := cpl_cover hP hx
  rcases in_drop hp with z | ⟨hn, z⟩
  · exact good hx z ep
  · have rx := hR.d hx
    have px := hP.d hx
    obtain ⟨p', hp', ep'⟩ := cpl_cover hP rx.1
    rcases in_drop hp' with z' | ⟨hn', z'⟩
    · have g := good rx.1 z' ep'
      rw [rx.2.2.1] at g
      have := (hP.d rx.1).2.2.1
      rw [← g] at this
      exact this.symm
    · have e : p' = p := z'.trans z.symm
      subst e
      have pp := (mem_cpl hP).mp hp
      have g1 := getD_of pp.1
      have g2 := getD_of (hP.back pp.1).1
      rcases ep with e | e
      · rw [← e, g1]
        rcases ep' with e' | e'
        · exact absurd (e'.symm.trans e).symm (fun w => rx.2.1 w.symm)
        · rw [← e] at e'; exact e'.symm
      · rw [← e, g2]
        rcases ep' with e' | e'
        · rw [← e] at e'; exact e'.symm
        · exact absurd (e'.symm.trans e).symm (fun w => rx.2.1 w.symm)
end Pc
namespace Pc
open PySem PySem.Spec PyProof.Rows L2 RZ
theorem cut_k (vs : List V) (i : Nat) : cutV vs none (some (i : Int)) = vs.take i := by
  unfold cutV
  rw [HT.sIx_none, HT.sIx_nat, List.drop_zero, Nat.sub_zero]
  by_cases h : i ≤ vs.length
  · rw [Nat.min_eq_left h]
  · rw [Nat.min_eq_right (by omega), List.take_of_length_le (Nat.le_refl _), List.take_of_length_le (by omega)]
end Pc
namespace Pc
open PySem PySem.Spec PyProof.Rows L2 RZ
/-! ### pairs that have everybody once make a pairing -/
def prt (qs : List (Nat × Nat)) (z : Nat) : Nat := match qs.find? (fun p => decide (p.1 = z) || decide (p.2 = z)) with
  | some p => if p.1 = z then p.2 else p.1
  | none => 0
def mkp (qs : List (Nat × Nat)) : List Nat := (List.range (2 * qs.length)).map (prt qs)
theorem mkp_len (qs : List (Nat × Nat)) : (mkp qs).length = 2 * qs.length := by unfold mkp; rw [List.length_map, List.length_range]
theorem mkp_get {qs : List (Nat × Nat)} {z : Nat} (h : z < 2 * qs.length) : (mkp qs)[z]? = some (prt qs z) := by unfold mkp; rw [List.getElem?_map, List.getElem?_range h]; rfl
theorem prt_of : ∀ {qs : List (Nat × Nat)}, (flat qs).Nodup → ∀ {p : Nat × Nat}, p ∈ qs → prt qs p.1 = p.2 ∧ prt qs p.2 = p.1
  | [], _, _, h => absurd h List.not_mem_nil
  | q :: qs, hn, p, h => by
    have hn' : (q.1 :: q.2 :: flat qs).Nodup := hn
    rw [List.nodup_cons, List.nodup_cons] at hn'
    obtain ⟨n1, n2, n3⟩ := hn'
    have n12 : q.1 ≠ q.2 := fun e => n1 (by rw [e]; exact List.mem_cons_self)
    have m1 : q.1 ∉ flat qs := fun e => n1 (List.mem_cons_of_mem _ e)
    rcases List.mem_cons.mp h with e | h'
    · subst e
      unfold prt
      rw [List.find?_cons_of_pos (by simp), List.find?_cons_of_pos (by simp)]
      exact ⟨if_pos rfl, if_neg n12⟩
    · have a1 : p.1 ∈ flat qs := flat_mem.mpr ⟨p, h', .inl rfl⟩
      have a2 : p.2 ∈ flat qs := flat_mem.mpr ⟨p, h', .inr rfl⟩
      have c : ∀ z, z ∈ flat qs → prt (q :: qs) z = prt qs z := fun z hz => by
        unfold prt
        rw [List.find?_cons_of_neg]
        intro e
        rw [Bool.or_eq_true, decide_eq_true_eq, decide_eq_true_eq] at e
        rcases e with e | e
        · exact m1 (by rw [e]; exact hz)
        · exact n2 (by rw [e]; exact hz)
      rw [c _ a1, c _ a2]
      exact prt_of n3 h'
theorem makes_mkp {qs : List (Nat × Nat)} (h : (flat qs).Perm (List.range (2 * qs.length))) : Makes qs (mkp qs) where
  half := (mkp_len qs).symm
  ok p hp := by
    have hn : (flat qs).Nodup := h.nodup_iff.mpr List.nodup_range
    have l1 : p.1 < 2 * qs.length := List.mem_range.mp (h.mem_iff.mp (flat_mem.mpr ⟨p, hp, .inl rfl⟩))
    have l2 : p.2 < 2 * qs.length := List.mem_range.mp (h.mem_iff.mp (flat_mem.mpr ⟨p, hp, .inr rfl⟩))
    rw [mkp_get l1, mkp_get l2, (prt_of hn hp).1, (prt_of hn hp).2]
    exact ⟨rfl, rfl⟩
  all z hz := by
    rw [mkp_len] at hz
    obtain ⟨p, hp, e⟩ := flat_mem.mp (h.mem_iff.mpr (List.mem_range.mpr hz))
    exact ⟨p, hp, e.imp Eq.symm Eq.symm⟩
theorem flat_ne {qs : List (Nat × Nat)} (h : (flat qs).Nodup) {p : Nat × Nat} (hp : p ∈ qs) : p.1 ≠ p.2 := by
  induction qs with
  | nil => exact absurd hp List.not_mem_nil
  | cons q r ih =>
    have hn' : (q.1 :: q.2 :: flat r).Nodup := h
    rw [List.nodup_cons, List.nodup_cons] at hn'
    rcases List.mem_cons.mp hp with e | e
    · subst e; exact fun e => hn'.1 (by rw [e]; exact List.mem_cons_self)
    · exact ih hn'.2.2 e
theorem Makes.pair {qs : List (Nat × Nat)} {ps : List Nat} (m : Makes qs ps) (h : ∀ p ∈ qs, p.1 ≠ p.2) : IsPair ps.length ps where
  len := rfl
  par x hx := by
    obtain ⟨p, hp, e⟩ := m.all x hx
    obtain ⟨o1, o2⟩ := m.ok p hp
    have ne := h p hp
    rcases e with e | e
    · subst e; exact ⟨p.2, o1, get_lt o2, fun z => ne z.symm, o2⟩
    · subst e; exact ⟨p.1, o2, get_lt o1, ne, o1⟩
theorem mkp_pair {qs : List (Nat × Nat)} (h : (flat qs).Perm (List.range (2 * qs.length))) : IsPair (2 * qs.length) (mkp qs) := by
  have := (makes_mkp h).pair fun p hp => flat_ne (h.nodup_iff.mpr List.nodup_range) hp
  rw [mkp_len] at this
  exact this
/-- what the same pairs make is one -/
theorem Makes.one {qs : List (Nat × Nat)} {ps rs : List Nat} (m : Makes qs ps) (k : Makes qs rs) : ps = rs := by
  have hl : ps.length = rs.length := by rw [← m.half, k.half]
  refine List.ext_getElem? fun z => ?_
  by_cases hz : z < ps.length
  · obtain ⟨p, hp, e⟩ := m.all z hz
    rcases e with e | e
    · rw [← e, (m.ok p hp).1, (k.ok p hp).1]
    · rw [← e, (m.ok p hp).2, (k.ok p hp).2]
  · rw [List.getElem?_eq_none (by omega), List.getElem?_eq_none (by omega)]
/-! ### the pairing with a number -/
def una : Nat → List Nat → Nat → List (Nat × Nat)
  | 0, _, _ => []
  | j + 1, l, k => (l.getD 0 0, l.tail.getD (k / dfac j) 0) :: una j (l.tail.eraseIdx (k / dfac j)) (k % dfac j)
theorem una_len : ∀ (j : Nat) (l : List Nat) (k : Nat), (una j l k).length = j
  | 0, _, _ => rfl
  | j + 1, l, k => by
    show (una j _ _).length + 1 = j + 1
    rw [una_len j]
theorem choice_lt {j k : Nat} (h : k < dfac (j + 1)) : k / dfac j < 2 * j + 1 := by
  rw [Nat.div_lt_iff_lt_mul (dfac_pos j), Nat.mul_comm]
  exact h
theorem flat_una : ∀ (j : Nat) {l : List Nat} {k : Nat}, l.length = 2 * j → k < dfac j → (flat (una j l k)).Perm l
  | 0, l, k, hl, _ => by
    have : l = [] := List.length_eq_zero_iff.mp (by omega)
    subst this
    exact List.Perm.refl _
  | j + 1, [], k, hl, _ => by simp at hl
  | j + 1, x :: t, k, hl, hk => by
    have ht : t.length = 2 * j + 1 := by rw [List.length_cons] at hl; omega
    have hc := choice_lt hk
    have e : t.getD (k / dfac j) 0 = t[k / dfac j]'(by omega) := by rw [List.getD_eq_getElem?_getD, List.getElem?_eq_getElem (by omega)]; rfl
    show (x :: t.getD (k / dfac j) 0 :: flat (una j (t.eraseIdx (k / dfac j)) (k % dfac j))).Perm (x :: t)
    rw [e]
    refine List.Perm.cons x (((flat_una j (by rw [List.length_eraseIdx, if_pos (by omega)]; omega) (Nat.mod_lt _ (dfac_pos j))).cons _).trans (perm_erase (by omega)))
def pat (r k : Nat) : List Nat := mkp (una r (List.range (2 * r)) k)
theorem una_flat {r k : Nat} (hk : k < dfac r) : (flat (una r (List.range (2 * r)) k)).Perm (List.range (2 * (una r (List.range (2 * r)) k).length)) := by
  rw [una_len]
  exact flat_una r (by rw [List.length_range]) hk
theorem pat_pair {r k : Nat} (hk : k < dfac r) : IsPair (2 * r) (pat r k) := by
  have := mkp_pair (una_flat hk)
  rw [una_len] at this
  exact this
theorem pat_makes {r k : Nat} (hk : k < dfac r) : Makes (una r (List.range (2 * r)) k) (pat r k) := makes_mkp (una_flat hk)
end Pc
namespace Pc
open PySem PySem.Spec PyProof.Rows L2 RZ
/-! ### results by number -/
theorem lse_le (f : List Nat) (n : Nat) : (lse f n).length ≤ n := Nat.le_trans (List.length_filter_le _ _) (by rw [List.length_range]; exact Nat.le_refl _)
theorem los_in {f : List Nat} {n x y : Nat} (hf : IsPair (2 * n) f) (hx : x < n) (e : f.getD (n + x) 0 = n + y) (hxy : x < y) : (x, y) ∈ los f n := by
  unfold los
  rw [selN_mem]
  refine ⟨x, hx, ?_, ?_⟩
  · unfold loC; rw [e]; exact decide_eq_true (by omega)
  · unfold loG; rw [e]; congr 1; omega
theorem flat_shift (n : Nat) : ∀ qs : List (Nat × Nat), flat (qs.map fun p => (n + p.1, n + p.2)) = (flat qs).map (n + ·)
  | [] => rfl
  | p :: r => by
    show (n + p.1) :: (n + p.2) :: flat (r.map fun p => (n + p.1, n + p.2)) = _
    rw [flat_shift n r]; rfl
theorem nodup_of_map {α β : Type} (g : α → β) : ∀ {l : List α}, (l.map g).Nodup → l.Nodup
  | [], _ => List.nodup_nil
  | x :: r, h => by
    have h' : (g x :: r.map g).Nodup := h
    rw [List.nodup_cons] at h'
    exact List.nodup_cons.mpr ⟨fun m => h'.1 (List.mem_map.mpr ⟨x, m, rfl⟩), nodup_of_map g h'.2⟩
theorem nodup_map {α β : Type} {g : α → β} (inj : ∀ a b, g a = g b → a = b) : ∀ {l : List α}, l.Nodup → (l.map g).Nodup
  | [], _ => List.nodup_nil
  | x :: r, h => by
    rw [List.nodup_cons] at h
    refine List.nodup_cons.mpr ⟨fun m => ?_, nodup_map inj h.2⟩
    obtain ⟨y, hy, e⟩ := List.mem_map.mp m
    rw [inj _ _ e] at hy
    exact h.1 hy
theorem los_perm {f : List Nat} {n : Nat} (hf : IsPair (2 * n) f) : (flat (los f n) ++ lse f n).Perm (List.range n) := by
  have hlo : ∀ {z : Nat}, z ∈ flat (los f n) → z < n ∧ n ≤ f.getD (n + z) 0 := fun {z} hz => by
    obtain ⟨p, hp, e⟩ := flat_mem.mp hz
    obtain ⟨e1, e2, e3⟩ := los_mem hf hp
    rcases e with e | e
    · subst e; rw [getD_of e1]; omega
    · subst e; rw [getD_of (hf.back e1).1]; omega
  have nd1 : (flat (los f n)).Nodup := by
    refine nodup_of_map (n + ·) ?_
    rw [← flat_shift]
    refine flat_nodup hf (fun p hp => ?_) ?_
    · obtain ⟨q, hq, e⟩ := List.mem_map.mp hp
      obtain ⟨e1, e2, _⟩ := los_mem hf hq
      rw [← e]
      exact ⟨e1, by show n + q.1 < n + q.2; omega⟩
    · rw [List.map_map]
      have : ((los f n).map Prod.fst).Nodup := by
        unfold los
        rw [sel_fst (g := loG f n) (fun x => rfl)]
        exact List.nodup_range.filter _
      have e : (los f n).map (Prod.fst ∘ fun p => (n + p.1, n + p.2)) = ((los f n).map Prod.fst).map (n + ·) := by rw [List.map_map]; rfl
      rw [e]
      exact nodup_map (fun a b (h : n + a = n + b) => by omega) this
  refine (List.perm_ext_iff_of_nodup (List.nodup_append.mpr ⟨nd1, lse_nodup f n, fun a ha b hb e => ?_⟩) List.nodup_range).mpr fun z => ?_
  · subst e
    have h1 := (hlo ha).2
    have h2 := of_decide_eq_true (lse_mem.mp hb).2
    omega
  · rw [List.mem_append, List.mem_range]
    constructor
    · rintro (h | h)
      · exact (hlo h).1
      · exact (lse_mem.mp h).1
    · intro hz
      have d := hf.d (show n + z < 2 * n by omega)
      by_cases c : f.getD (n + z) 0 < n
      · exact .inr (lse_mem.mpr ⟨hz, decide_eq_true c⟩)
      · refine .inl (flat_mem.mpr ?_)
        obtain ⟨y, ey⟩ : ∃ y, f.getD (n + z) 0 = n + y := ⟨f.getD (n + z) 0 - n, by omega⟩
        rw [ey] at d
        by_cases c2 : z < y
        · exact ⟨_, los_in hf hz ey c2, .inl rfl⟩
        · exact ⟨_, los_in hf (show y < n by omega) d.2.2.1 (by omega), .inr rfl⟩
theorem cpl_flat {n : Nat} {ps : List Nat} (h : IsPair n ps) : (flat (cpl ps)).Perm (List.range n) := by
  have nd : ((cpl ps).map Prod.fst).Nodup := by
    unfold cpl cplN
    rw [List.map_map]
    have : (Prod.fst ∘ fun x => (x, ps.getD x 0)) = (id : Nat → Nat) := rfl
    rw [this, List.map_id]
    exact List.nodup_range.filter _
  refine (List.perm_ext_iff_of_nodup (flat_nodup h (fun p hp => (mem_cpl h).mp hp) nd) List.nodup_range).mpr fun z => ?_
  rw [flat_mem, List.mem_range]
  constructor
  · rintro ⟨p, hp, e⟩
    obtain ⟨b1, b2, b3, _⟩ := h.back ((mem_cpl h).mp hp).1
    rcases e with e | e <;> omega
  · intro hz
    obtain ⟨p, hp, e⟩ := cpl_cover h hz
    exact ⟨p, hp, e.imp Eq.symm Eq.symm⟩
/-- the pairs at the places that qs name -/
def rel (l : List Nat) (qs : List (Nat × Nat)) : List (Nat × Nat) := qs.map fun p => (l.getD p.1 0, l.getD p.2 0)
theorem flat_rel (l : List Nat) : ∀ qs : List (Nat × Nat), flat (rel l qs) = (flat qs).map fun i => l.getD i 0
  | [] => rfl
  | p :: r => by
    show l.getD p.1 0 :: l.getD p.2 0 :: flat (rel l r) = _
    rw [flat_rel l r]; rfl
theorem range_getD (l : List Nat) : (List.range l.length).map (fun i => l.getD i 0) = l := by
  refine List.ext_getElem? fun i => ?_
  rw [List.getElem?_map]
  by_cases h : i < l.length
  · rw [List.getElem?_range h, List.getElem?_eq_getElem h, Option.map_some, List.getD_eq_getElem?_getD, List.getElem?_eq_getElem h]; rfl
  · rw [List.getElem?_eq_none (by rw [List.length_range]; omega), List.getElem?_eq_none (by omega)]; rfl
def rpr (f : List Nat) (n k : Nat) : List (Nat × Nat) := los f n ++ rel (lse f n) (cpl (pat ((lse f n).length / 2) k))
def rat (f : List Nat) (n k : Nat) : List Nat := mkp (rpr f n k)
section
variable {f : List Nat} {n k : Nat}
theorem lse_even (hf : IsPair (2 * n) f) (he : n % 2 = 0) : (lse f n).length % 2 = 0 ∧ (lse f n).length ≤ n ∧ 2 * (los f n).length + (lse f n).length = n := by
  have h1 := (los_perm hf).length_eq
  rw [List.length_append, flat_len, List.length_range] at h1
  omega
theorem rpr_flat0 (hf : IsPair (2 * n) f) (he : n % 2 = 0) (hk : k < dfac ((lse f n).length / 2)) : (flat (rpr f n k)).Perm (List.range n) := by
  unfold rpr
  rw [flat_app, flat_rel]
  refine List.Perm.trans ?_ (los_perm hf)
  refine List.Perm.append_left _ ?_
  have h1 := (cpl_flat (pat_pair hk)).map fun i => (lse f n).getD i 0
  rw [show 2 * ((lse f n).length / 2) = (lse f n).length by have := lse_even hf he; omega] at h1
  rw [range_getD] at h1
  exact h1
theorem rpr_len (hf : IsPair (2 * n) f) (he : n % 2 = 0) (hk : k < dfac ((lse f n).length / 2)) : 2 * (rpr f n k).length = n := by
  have := (rpr_flat0 hf he hk).length_eq
  rw [flat_len, List.length_range] at this
  exact this
theorem rpr_flat (hf : IsPair (2 * n) f) (he : n % 2 = 0) (hk : k < dfac ((lse f n).length / 2)) : (flat (rpr f n k)).Perm (List.range (2 * (rpr f n k).length)) := by
  rw [rpr_len hf he hk]; exact rpr_flat0 hf he hk
theorem rat_makes (hf : IsPair (2 * n) f) (he : n % 2 = 0) (hk : k < dfac ((lse f n).length / 2)) : Makes (rpr f n k) (rat f n k) := makes_mkp (rpr_flat hf he hk)
theorem rat_pair (hf : IsPair (2 * n) f) (he : n % 2 = 0) (hk : k < dfac ((lse f n).length / 2)) : IsPair n (rat f n k) := by
  have := mkp_pair (rpr_flat hf he hk)
  rw [rpr_len hf he hk] at this
  exact this
/-- with two strands at most: the only result -/
theorem rat_rd {ps : List Nat} (hf : IsPair (2 * n) f) (he : n % 2 = 0) (hl : (lse f n).length ≤ 2) (hP : IsPair n ps) : rat f n 0 = rd f ps n := by
  have hR := rd_pair hf hP
  have hk : 0 < dfac ((lse f n).length / 2) := dfac_pos _
  refine (rat_makes hf he hk).one ⟨by rw [rpr_len hf he hk, hR.len], fun p hp => ?_, fun z hz => ?_⟩
  · unfold rpr at hp
    rcases List.mem_append.mp hp with h | h
    · have := rd_los (ps := ps) hf h
      exact ⟨this, (hR.back this).1⟩
    · have h2 : (lse f n).length = 2 := by
        have h3 := lse_even hf he
        by_cases h0 : (lse f n).length = 2
        · exact h0
        · have h4 : (lse f n).length = 0 := by omega
          rw [h4] at h
          simp [rel, pat, una, mkp, cpl, cplN] at h
      rw [h2] at h
      have e : cpl (pat (2 / 2) 0) = [(0, 1)] := by decide
      rw [e] at h
      obtain ⟨x, y, exy⟩ : ∃ x y, lse f n = [x, y] := by
        match hh : lse f n, h2 with
        | [x, y], _ => exact ⟨x, y, rfl⟩
      rw [exy] at h
      have hp' : p = (x, y) := by simpa [rel] using h
      subst hp'
      have hx : x ∈ lse f n := by rw [exy]; exact List.mem_cons_self
      have hq := rd_loose hf hP hx
      have e2 : (rd f ps n).getD x 0 = y := by
        have := hq.1
        rw [exy] at this
        rcases List.mem_cons.mp this with z | z
        · exact absurd z hq.2
        · exact List.mem_singleton.mp z
      have xn := (lse_mem.mp hx).1
      have e3 : (rd f ps n)[x]? = some y := by rw [(hR.d xn).2.2.2, e2]
      exact ⟨e3, (hR.back e3).1⟩
  · rw [hR.len] at hz
    obtain ⟨p, hp, e⟩ := flat_mem.mp ((rpr_flat0 hf he hk).mem_iff.mpr (List.mem_range.mpr hz))
    exact ⟨p, hp, e.imp Eq.symm Eq.symm⟩
end
theorem dfac_one {r : Nat} : dfac r = 1 ↔ r ≤ 1 := by
  constructor
  · intro h
    match r, h with
    | 0, _ => omega
    | 1, _ => omega
    | r + 2, h =>
      have : dfac (r + 1) * (2 * (r + 1) + 1) = 1 := h
      have := Nat.eq_one_of_mul_eq_one_left this
      omega
  · intro h
    rcases (show r = 0 ∨ r = 1 by omega) with e | e <;> subst e <;> rfl
end Pc
namespace Pc
open PySem PySem.Spec PyProof.Rows L2 RZ
/-! ### data of small size, by its depth -/
def Sz : Nat → Nat
  | 0 => 61
  | 1 => 6303
  | 2 => 630503
  | _ => 15762628
abbrev Fi (j : Nat) (d : PyData) : Prop := Fine j (Sz j) d
theorem Sz_le : ∀ j, Sz j ≤ Sz (j + 1)
  | 0 => by decide
  | 1 => by decide
  | 2 => by decide
  | _ + 3 => Nat.le_refl _
theorem Fine.up {j : Nat} {d : PyData} (h : Fi j d) : Fi (j + 1) d := h.mono (Nat.le_succ _) (Sz_le j)
theorem Fine.sh {j : Nat} {d : PyData} (h : Fi j d) (hj : j ≤ 60 := by decide) : SeqAt.shaped d = true := Fine.shaped h (by omega)
theorem fi_int {i : Int} (h : i.natAbs < 2 ^ 60) : Fi 0 (.int i) := fine_int h
theorem fi_bl {b : Bool} : Fi 0 (.bool b) := ⟨rfl, rfl, Nat.le_refl _, trivial, by cases b <;> decide⟩
theorem fi_non : Fi 0 .none := ⟨rfl, rfl, Nat.le_refl _, trivial, by decide⟩
theorem fi_tup {l : List Nat} {m : Nat} (hl : IsPair m l) (hm : m ≤ 100) : Fi 1 (td l) := (fine_tup (n := 100) (fun i hi => by have := hl.lt i hi; omega) (by rw [hl.len]; omega) (by decide)).mono (Nat.le_refl _) (by decide)
/-- numbers of small size, not many -/
def Fw (l : List Nat) : Prop := l.length ≤ 100 ∧ ∀ i ∈ l, i < 2 ^ 60
theorem fb {l : List Nat} {m : Nat} (hl : IsPair m l) (hm : m ≤ 100) : Fw l := ⟨by rw [hl.len]; exact hm, fun i hi => by have := hl.lt i hi; omega⟩
theorem fi_tup' {l : List Nat} (h : Fw l) : Fi 1 (td l) := (fine_tup (n := 100) h.2 h.1 (by decide)).mono (Nat.le_refl _) (by decide)
theorem fi_lst {l : List Nat} (h : Fw l) : Fi 1 (.list (nd l)) := (fine_list (k := 0) (m := 61) (n := 100) (fine_nd h.2) (by rw [nd_length]; exact h.1) (by decide)).mono (Nat.le_refl _) (by decide)
theorem fi_prs {qs : List (Nat × Nat)} (h : qs.length ≤ 1000 ∧ ∀ p ∈ qs, p.1 < 2 ^ 60 ∧ p.2 < 2 ^ 60) : Fi 2 (.list (qs.map pd)) := (fine_pds (n := 1000) h.2 h.1 (by decide)).mono (Nat.le_refl _) (by decide)
theorem fa_nil {j : Nat} : ∀ d ∈ ([] : List PyData), Fi j d := fun _ h => absurd h List.not_mem_nil
theorem fa_cons {j : Nat} {d : PyData} {ds : List PyData} (h : Fi j d) (r : ∀ x ∈ ds, Fi j x) : ∀ x ∈ d :: ds, Fi j x := fun x hx => (List.mem_cons.mp hx).elim (fun e => by rw [e]; exact h) (r x)
def Few (j n : Nat) : Prop := n * (Sz j + 2) + 3 ≤ Sz (j + 1) ∧ n ≤ 100000
instance (j n : Nat) : Decidable (Few j n) := by unfold Few; infer_instance
theorem fi_list {j : Nat} {ds : List PyData} (h : ∀ d ∈ ds, Fi j d) (hn : n = ds.length := by rfl) (hf : Few j n := by decide) : Fi (j + 1) (.list ds) := (fine_list (k := j) (m := Sz j) (n := n) h (by rw [hn]; exact Nat.le_refl _) hf.2).mono (Nat.le_refl _) hf.1
theorem fi_tuple {j : Nat} {ds : List PyData} (h : ∀ d ∈ ds, Fi j d) (hn : n = ds.length := by rfl) (hf : Few j n := by decide) : Fi (j + 1) (.tuple ds) := (fine_tuple (k := j) (m := Sz j) (n := n) h (by rw [hn]; exact Nat.le_refl _) hf.2).mono (Nat.le_refl _) hf.1
theorem fi_ne {j : Nat} {d : PyData} (h : Fi j d) : (!PyData.eqv d d) = false := by
  rw [PySem.SeqAt.eqv_refl _ h.lay]; rfl
theorem fi_eq {j : Nat} {d : PyData} (h : Fi j d) : PyData.eqv d d = true := PySem.SeqAt.eqv_refl _ h.lay
/-! ### arguments by name, in another order -/
def pm10 {α : Type} : List α → List α
  | [a, b] => [b, a]
  | l => l
theorem rel_pm10 {zs : List V} {ws : List Value} (_ : zs.length = 2) (r : Vals zs ws) : Vals (pm10 zs) (pm10 ws) := by
  match zs, ws, r with
  | [], _, .nil => exact .nil
  | [_], _, .cons h .nil => exact .cons h .nil
  | [_, _], _, .cons h1 (.cons h2 .nil) => exact .cons h2 (.cons h1 .nil)
  | _ :: _ :: _ :: _, _, .cons h1 (.cons h2 (.cons h3 r)) => exact .cons h1 (.cons h2 (.cons h3 r))
def pm0 {α : Type} (l : List α) : List α := l
theorem rel_pm0 {zs : List V} {ws : List Value} (_ : zs.length = 1) (r : Vals zs ws) : Vals (pm0 zs) (pm0 ws) := r
end Pc
namespace Pc
open PySem PySem.Spec PyProof.Rows L2 RZ
theorem calls_app {n : Nat} {qs rs : List (Nat × Nat)} (h : Calls n qs) (g : Calls n rs) : Calls n (qs ++ rs) := fun q hq => (List.mem_append.mp hq).elim (h q) (g q)
end Pc
namespace Pc
open PySem PySem.Spec PyProof.Rows L2 RZ
/-- the slots, written out -/
theorem st_eq {t : TS} {D : L2.Ends} {σ : L2.St} {H : Hp} (σ' : L2.St) (h : t D σ' H) (e : σ = σ') : t D σ H := by rw [e]; exact h
end Pc
namespace Pc
open PySem PySem.Spec PyProof.Rows L2 RZ
theorem st_set {i : Nat} {v : V} {σ : L2.St} {H : Hp} {Q : L2.St → Hp → Prop} (σ' : L2.St) (h : Q σ' H) (e : σ.set i (some v) = σ') : gName i v σ H Q := by
  unfold gName
  rw [e]; exact h
end Pc
namespace Pc
open PySem PySem.Spec PyProof.Rows L2 RZ
theorem fi_same {x y : V} (e : x = y) : (!decide (x = y)) = false := by rw [decide_eq_true e]; rfl
theorem fi_is {x y : V} (e : x = y) : decide (x = y) = true := decide_eq_true e
end Pc
namespace Pc
open PySem PySem.Spec PyProof.Rows L2 RZ
theorem st_kept {D : L2.Ends} {i : Nat} {a C d : Addr} {σ1 : L2.St} {H : Hp} (σ' : L2.St) (h : D.nx σ' (upd H a (exk a (.ref C) (some d)))) (e : σ1.set i none = σ') :
    ({ nx := fun σ'' H'' => D.nx (σ''.set i none) (upd H'' a (exk a (.ref C) (some d))), rt := fun _ _ => False } : L2.Ends).nx σ1 H := by
  show D.nx (σ1.set i none) _
  rw [e]; exact h
end Pc
namespace Pc
open PySem PySem.Spec PyProof.Rows L2 RZ
theorem st_setH {i : Nat} {v : V} {σ : L2.St} {H : Hp} {Q : L2.St → Hp → Prop} (σ' : L2.St) (H' : Hp) (h : Q σ' H') (e : σ.set i (some v) = σ') (eh : H = H') : gName i v σ H Q := by
  unfold gName
  rw [e, eh]; exact h
end Pc
namespace Pc
open PySem PySem.Spec PyProof.Rows L2 RZ
/-! ### numbers, sorted (a part of lib44: never both) -/
theorem nv_ints (l : List Nat) : nv l = (l.map fun (i : Nat) => (i : Int)).map V.int := by unfold nv; rw [List.map_map]; rfl
theorem sort_nats {K : PySem.W.Frag} {H : Hp} {a : Addr} {l t : List Nat} {Q : VK} (hS : SqL K H a (nv l)) (hl : l.length < 64) (hp : t.Perm l) (hs : t.Pairwise (· < ·)) (h : ∀ p : Addr, H p = none → Q (.ref p) (upd H p (.lst (nv t)))) : rSorted K [.ref a] H Q := by
  refine ⟨a, l.map fun (i : Nat) => (i : Int), rfl, by rw [← nv_ints]; exact hS, by rw [List.length_map]; exact hl, fun ns' p hpm hso np => ?_⟩
  have e : ns' = t.map fun (i : Nat) => (i : Int) := by
    refine List.Perm.eq_of_pairwise (le := fun a b : Int => a ≤ b) (fun a b _ _ h1 h2 => by omega) hso ?_ (hpm.trans (hp.symm.map _))
    rw [List.pairwise_map]
    exact hs.imp fun {a b} h => by omega
  have := h p np
  rw [nv_ints, ← e] at this
  exact this
theorem sort_natsN {K : PySem.W.Frag} {σ : L2.St} {H : Hp} {a : Addr} {l t : List Nat} {Q : VK} (hS : SqL K H a (nv l)) (hl : l.length < 64) (hp : t.Perm l) (hs : t.Pairwise (· < ·)) (h : ∀ p : Addr, H p = none → Q (.ref p) (upd H p (.lst (nv t)))) : tNil σ H (fun xs H2 => rSorted K (.ref a :: xs) H2 Q) := sort_nats hS hl hp hs h
end Pc
namespace Pc
/-! ### the cycles of two pairings -/
theorem nd_len : ∀ (n : Nat) (l : List Nat), l.Nodup → (∀ y ∈ l, y < n) → l.length ≤ n
  | 0, [], _, _ => Nat.le_refl _
  | 0, y :: _, _, h => absurd (h y List.mem_cons_self) (Nat.not_lt_zero _)
  | n + 1, l, hd, h => by
    have h1 := nd_len n (l.erase n) (hd.erase n) (fun y hy => by
      have h2 := (hd.mem_erase_iff).mp hy
      have h3 := h y h2.2
      have h4 := h2.1
      omega)
    rw [List.length_erase] at h1
    split at h1 <;> omega
theorem nd_all : ∀ (n : Nat) (l : List Nat), l.Nodup → (∀ y ∈ l, y < n) → (∀ y, y < n → y ∈ l) → l.Perm (List.range n) := fun n l hd h1 h2 =>
  (List.perm_ext_iff_of_nodup hd List.nodup_range).mpr fun y => ⟨fun hy => List.mem_range.mpr (h1 y hy), fun hy => h2 y (List.mem_range.mp hy)⟩
inductive LapEnd (a b : List Nat) : List Nat → Nat → List Nat → Prop
  | stop {l : List Nat} {z : Nat} : z ∈ l → LapEnd a b l z l
  | go {l r : List Nat} {z : Nat} : z ∉ l → LapEnd a b (l ++ [z, a.getD z 0]) (b.getD (a.getD z 0) 0) r → LapEnd a b l z r
theorem LapEnd.det {a b l r r' : List Nat} {z : Nat} (h : LapEnd a b l z r) : LapEnd a b l z r' → r = r' := by
  induction h with
  | stop h1 => intro h2; cases h2 with
    | stop _ => rfl
    | go h3 _ => exact absurd h1 h3
  | go h1 _ ih => intro h2; cases h2 with
    | stop h3 => exact absurd h3 h1
    | go _ h4 => exact ih h4
structure LpI (a b : List Nat) (n x : Nat) (l : List Nat) (z : Nat) : Prop where
  nd : l.Nodup
  lt : ∀ y ∈ l, y < n
  zl : z < n
  xl : x < n
  ca : ∀ y ∈ l, a.getD y 0 ∈ l
  st : l ≠ [] → x ∈ l ∧ b.getD z 0 ∈ l ∧ b.getD z 0 ≠ x
  s0 : l = [] → z = x
  cb : ∀ y ∈ l, y ≠ x → y ≠ b.getD z 0 → b.getD y 0 ∈ l ∧ b.getD y 0 ≠ x ∧ b.getD y 0 ≠ b.getD z 0
theorem LpI.start {a b : List Nat} {n x : Nat} (hx : x < n) : LpI a b n x [] x :=
  ⟨List.nodup_nil, fun _ h => absurd h List.not_mem_nil, hx, hx, fun _ h => absurd h List.not_mem_nil, fun h => absurd rfl h, fun _ => rfl, fun _ h => absurd h List.not_mem_nil⟩
theorem LpI.step {a b : List Nat} {n x z : Nat} {l : List Nat} (ha : IsPair n a) (hb : IsPair n b) (h : LpI a b n x l z) (hz : z ∉ l) : LpI a b n x (l ++ [z, a.getD z 0]) (b.getD (a.getD z 0) 0) := by
  obtain ⟨a1, a2, a3, _⟩ := ha.d h.zl
  obtain ⟨b1, b2, b3, _⟩ := hb.d a1
  obtain ⟨c1, c2, c3, _⟩ := hb.d h.zl
  have haz : a.getD z 0 ∉ l := fun hm => hz (by have := h.ca _ hm; rwa [a3] at this)
  have hxz : l ≠ [] → z ≠ x := fun hl e => hz (by rw [e]; exact (h.st hl).1)
  have hnil : ∀ y ∈ l, l ≠ [] := fun y hy e => by rw [e] at hy; exact absurd hy List.not_mem_nil
  refine ⟨?_, ?_, b1, h.xl, ?_, ?_, ?_, ?_⟩
  · refine List.nodup_append.mpr ⟨h.nd, ?_, fun y hy w hw => ?_⟩
    · exact List.nodup_cons.mpr ⟨fun hm => a2 (List.mem_singleton.mp hm).symm, List.nodup_cons.mpr ⟨List.not_mem_nil, List.nodup_nil⟩⟩
    · rcases List.mem_cons.mp hw with e | hw
      · exact fun e2 => hz (by rw [← e, ← e2]; exact hy)
      · exact fun e2 => haz (by rw [← List.mem_singleton.mp hw, ← e2]; exact hy)
  · intro y hy
    rcases List.mem_append.mp hy with hy | hy
    · exact h.lt y hy
    · rcases List.mem_cons.mp hy with e | hy
      · rw [e]; exact h.zl
      · rw [List.mem_singleton.mp hy]; exact a1
  · intro y hy
    refine List.mem_append.mpr ?_
    rcases List.mem_append.mp hy with hy | hy
    · exact .inl (h.ca y hy)
    · rcases List.mem_cons.mp hy with e | hy
      · rw [e]; exact .inr (List.mem_cons_of_mem _ List.mem_cons_self)
      · rw [List.mem_singleton.mp hy, a3]; exact .inr List.mem_cons_self
  · intro _
    rw [b3]
    refine ⟨?_, List.mem_append.mpr (.inr (List.mem_cons_of_mem _ List.mem_cons_self)), ?_⟩
    · by_cases e : l = []
      · rw [h.s0 e]; exact List.mem_append.mpr (.inr List.mem_cons_self)
      · exact List.mem_append.mpr (.inl (h.st e).1)
    · by_cases e : l = []
      · rw [← h.s0 e]; exact a2
      · exact fun e2 => haz (by rw [e2]; exact (h.st e).1)
  · intro e; exact absurd e (by simp)
  · intro y hy hyx hyz
    rw [b3] at hyz ⊢
    rcases List.mem_append.mp hy with hy | hy
    · by_cases e : y = b.getD z 0
      · rw [e, c3]
        exact ⟨List.mem_append.mpr (.inr List.mem_cons_self), hxz (hnil _ hy), fun e => a2 e.symm⟩
      · obtain ⟨h1, h2, _⟩ := h.cb y hy hyx e
        exact ⟨List.mem_append.mpr (.inl h1), h2, fun e2 => haz (by rw [← e2]; exact h1)⟩
    · rcases List.mem_cons.mp hy with e | hy
      · by_cases e2 : l = []
        · exact absurd (e.trans (h.s0 e2)) hyx
        · rw [e]
          obtain ⟨h1, h2, h3⟩ := h.st e2
          exact ⟨List.mem_append.mpr (.inl h2), h3, fun e3 => haz (by rw [← e3]; exact h2)⟩
      · exact absurd (List.mem_singleton.mp hy) hyz
theorem LpI.done {a b : List Nat} {n x z : Nat} {l : List Nat} (hb : IsPair n b) (h : LpI a b n x l z) (hz : z ∈ l) : z = x := by
  by_cases e : z = x
  · exact e
  · exact absurd rfl (h.cb z hz e (fun e2 => (hb.d h.zl).2.1 e2.symm)).2.2
theorem LpI.closed {a b : List Nat} {n x z : Nat} {l : List Nat} (hb : IsPair n b) (h : LpI a b n x l z) (hz : z ∈ l) : ∀ y ∈ l, b.getD y 0 ∈ l := by
  intro y hy
  have hn : l ≠ [] := fun e => by rw [e] at hy; exact absurd hy List.not_mem_nil
  have e := h.done hb hz
  obtain ⟨h1, h2, _⟩ := h.st hn
  by_cases e1 : y = x
  · rw [e1, ← e]; exact h2
  · by_cases e2 : y = b.getD z 0
    · rw [e2, (hb.d h.zl).2.2.1]; exact hz
    · exact (h.cb y hy e1 e2).1
theorem LpI.room {a b : List Nat} {n x z : Nat} {l : List Nat} (ha : IsPair n a) (hb : IsPair n b) (h : LpI a b n x l z) (hz : z ∉ l) : l.length + 2 ≤ n := by
  have h1 := h.step ha hb hz
  have h2 := nd_len n _ h1.nd h1.lt
  rw [List.length_append] at h2
  exact h2
theorem LpI.some {a b : List Nat} {n x : Nat} (ha : IsPair n a) (hb : IsPair n b) : ∀ (k : Nat) (l : List Nat) (z : Nat), n - l.length ≤ k → LpI a b n x l z → ∃ r, LapEnd a b l z r
  | 0, l, z, hk, h => by
    by_cases hz : z ∈ l
    · exact ⟨_, .stop hz⟩
    · have := h.room ha hb hz; omega
  | k + 1, l, z, hk, h => by
    by_cases hz : z ∈ l
    · exact ⟨_, .stop hz⟩
    · have := h.room ha hb hz
      obtain ⟨r, hr⟩ := LpI.some ha hb k _ _ (by rw [List.length_append]; show n - (l.length + 2) ≤ k; omega) (h.step ha hb hz)
      exact ⟨r, .go hz hr⟩
/-- a whole lap -/
structure Lap (a b : List Nat) (n x : Nat) (M r : List Nat) : Prop where
  en : LapEnd a b [] x r
  inv : LpI a b n x r x
  hx : x ∈ r
  out : ∀ y ∈ r, y ∉ M
theorem LapEnd.lap {a b : List Nat} {n x : Nat} (ha : IsPair n a) (hb : IsPair n b) {l r : List Nat} {z : Nat} (h : LapEnd a b l z r) : LpI a b n x l z → LpI a b n x r x ∧ x ∈ r := by
  induction h with
  | stop hz => intro hi; have e := hi.done hb hz; rw [e] at hi hz; exact ⟨hi, hz⟩
  | go hz _ ih => intro hi; exact ih (hi.step ha hb hz)
theorem LapEnd.out {a b : List Nat} {n x : Nat} (ha : IsPair n a) (hb : IsPair n b) {M : List Nat} (ca : ∀ y ∈ M, a.getD y 0 ∈ M) (cb : ∀ y ∈ M, b.getD y 0 ∈ M) {l r : List Nat} {z : Nat} (h : LapEnd a b l z r) :
    LpI a b n x l z → z ∉ M → (∀ y ∈ l, y ∉ M) → ∀ y ∈ r, y ∉ M := by
  induction h with
  | stop _ => intro _ _ h; exact h
  | @go l' r' z' hz _ ih =>
    intro hi hzM hl
    obtain ⟨a1, _, a3, _⟩ := ha.d hi.zl
    obtain ⟨_, _, b3, _⟩ := hb.d a1
    have haM : a.getD z' 0 ∉ M := fun e => hzM (by have := ca _ e; rwa [a3] at this)
    refine ih (hi.step ha hb hz) (fun e => haM (by have := cb _ e; rwa [b3] at this)) fun y hy => ?_
    rcases List.mem_append.mp hy with hy | hy
    · exact hl y hy
    · rcases List.mem_cons.mp hy with e | hy
      · rw [e]; exact hzM
      · rw [List.mem_singleton.mp hy]; exact haM
/-- the cycles found up to a person -/
inductive Rn (a b : List Nat) : Nat → List (List Nat) → Prop
  | zero : Rn a b 0 []
  | skip {i : Nat} {ls : List (List Nat)} : Rn a b i ls → i ∈ ls.flatten → Rn a b (i + 1) ls
  | new {i : Nat} {ls : List (List Nat)} {r : List Nat} : Rn a b i ls → i ∉ ls.flatten → LapEnd a b [] i r → Rn a b (i + 1) (ls ++ [r])
theorem Rn.det {a b : List Nat} {i : Nat} {ls : List (List Nat)} (h : Rn a b i ls) : ∀ {ms : List (List Nat)}, Rn a b i ms → ls = ms := by
  induction h with
  | zero => intro ms h2; cases h2; rfl
  | skip h1 hm ih => intro ms h2; cases h2 with
    | skip h3 _ => exact ih h3
    | new h3 hn _ => rw [← ih h3] at hn; exact absurd hm hn
  | new h1 hn he ih => intro ms h2; cases h2 with
    | skip h3 hm => rw [← ih h3] at hm; exact absurd hm hn
    | new h3 _ he' => rw [ih h3, he.det he']
structure RnI (a b : List Nat) (n i : Nat) (ls : List (List Nat)) : Prop where
  nd : ls.flatten.Nodup
  lt : ∀ y ∈ ls.flatten, y < n
  ca : ∀ y ∈ ls.flatten, a.getD y 0 ∈ ls.flatten
  cb : ∀ y ∈ ls.flatten, b.getD y 0 ∈ ls.flatten
  al : ∀ y, y < i → y ∈ ls.flatten
  ne : ∀ l ∈ ls, l ≠ []
theorem flat_snoc (ls : List (List Nat)) (r : List Nat) : (ls ++ [r]).flatten = ls.flatten ++ r := by
  rw [List.flatten_append]; simp
theorem Rn.inv {a b : List Nat} {n : Nat} (ha : IsPair n a) (hb : IsPair n b) {i : Nat} {ls : List (List Nat)} (h : Rn a b i ls) : i ≤ n → RnI a b n i ls := by
  induction h with
  | zero => intro _; exact ⟨List.nodup_nil, fun _ h => absurd h List.not_mem_nil, fun _ h => absurd h List.not_mem_nil, fun _ h => absurd h List.not_mem_nil, fun _ h => absurd h (Nat.not_lt_zero _), fun _ h => absurd h List.not_mem_nil⟩
  | @skip i ls _ hm ih =>
    intro hi
    have h := ih (by omega)
    exact ⟨h.nd, h.lt, h.ca, h.cb, fun y hy => by by_cases e : y = i; · rw [e]; exact hm
                                                  · exact h.al y (by omega), h.ne⟩
  | @new i ls r _ hn he ih =>
    intro hi
    have h := ih (by omega)
    have s0 : LpI a b n i [] i := LpI.start (by omega)
    obtain ⟨h1, h2⟩ := he.lap ha hb s0
    have h3 := he.out ha hb h.ca h.cb s0 hn (fun _ h => absurd h List.not_mem_nil)
    have h4 := h1.closed hb h2
    refine ⟨?_, ?_, ?_, ?_, ?_, ?_⟩
    · rw [flat_snoc]; exact List.nodup_append.mpr ⟨h.nd, h1.nd, fun y hy w hw e => h3 w hw (by rw [← e]; exact hy)⟩
    · rw [flat_snoc]; intro y hy; rcases List.mem_append.mp hy with hy | hy
      · exact h.lt y hy
      · exact h1.lt y hy
    · rw [flat_snoc]; intro y hy; rcases List.mem_append.mp hy with hy | hy
      · exact List.mem_append.mpr (.inl (h.ca y hy))
      · exact List.mem_append.mpr (.inr (h1.ca y hy))
    · rw [flat_snoc]; intro y hy; rcases List.mem_append.mp hy with hy | hy
      · exact List.mem_append.mpr (.inl (h.cb y hy))
      · exact List.mem_append.mpr (.inr (h4 y hy))
    · rw [flat_snoc]; intro y hy
      by_cases e : y = i
      · rw [e]; exact List.mem_append.mpr (.inr h2)
      · exact List.mem_append.mpr (.inl (h.al y (by omega)))
    · intro l hl; rcases List.mem_append.mp hl with hl | hl
      · exact h.ne l hl
      · rw [List.mem_singleton.mp hl]; intro e; rw [e] at h2; exact absurd h2 List.not_mem_nil
theorem flatL_len : ∀ (ls : List (List Nat)), (∀ l ∈ ls, l ≠ []) → ls.length ≤ ls.flatten.length
  | [], _ => Nat.le_refl _
  | l :: ls, h => by
    have h1 := flatL_len ls (fun m hm => h m (List.mem_cons_of_mem _ hm))
    have h2 : 0 < l.length := List.length_pos_iff.mpr (h l List.mem_cons_self)
    rw [List.flatten_cons, List.length_append, List.length_cons]; omega
theorem flatL_one {ls : List (List Nat)} {l : List Nat} (h : l ∈ ls) : l.length ≤ ls.flatten.length := by
  obtain ⟨s, t, rfl⟩ := List.append_of_mem h
  rw [List.flatten_append, List.flatten_cons, List.length_append, List.length_append]; omega
theorem RnI.len {a b : List Nat} {n i : Nat} {ls : List (List Nat)} (h : RnI a b n i ls) : ls.flatten.length ≤ n := nd_len n _ h.nd h.lt
theorem RnI.len' {a b : List Nat} {n i : Nat} {ls : List (List Nat)} (h : RnI a b n i ls) : ls.length ≤ n := Nat.le_trans (flatL_len ls h.ne) h.len
theorem RnI.perm {a b : List Nat} {n : Nat} {ls : List (List Nat)} (h : RnI a b n n ls) : ls.flatten.Perm (List.range n) := nd_all n _ h.nd h.lt h.al
end Pc
namespace Pc
open PySem PySem.Spec PyProof.Rows L2 RZ
theorem tups_upd {w : World} {g : Addr} {S : Int → Bool} {k : Nat} {H : Hp} {o : HO} (hg : H g = some (SetO w g S k)) : ∀ {as : List Addr} {ls : List (List Nat)}, Tups H as ls → Tups (upd H g o) as ls
  | _, _, .nil => .nil
  | _, _, .cons h r => .cons (by rw [upd_ne (fun z => by rw [z, hg] at h; cases h)]; exact h) (tups_upd hg r)
end Pc
namespace Pc
/-! ### the loops of a closed sheet -/
def upE (f : List Nat) (n p : Nat) : Nat := f.getD p 0 % n
def loE (f : List Nat) (n p : Nat) : Nat := f.getD (n + p) 0 % n
structure LoopL (f : List Nat) (n x : Nat) (ps : List Nat) : Prop where
  mem : x ∈ ps
  nd : ps.Nodup
  lt : ∀ p ∈ ps, p < n
  cl : ∀ p ∈ ps, upE f n p ∈ ps ∧ loE f n p ∈ ps
  mn : ∀ M : List Nat, x ∈ M → (∀ p ∈ M, upE f n p ∈ M ∧ loE f n p ∈ M) → ∀ p ∈ ps, p ∈ M
theorem LoopL.perm {f : List Nat} {n x : Nat} {ps qs : List Nat} (h : LoopL f n x ps) (g : LoopL f n x qs) : ps.Perm qs :=
  (List.perm_ext_iff_of_nodup h.nd g.nd).mpr fun p => ⟨h.mn qs g.mem g.cl p, g.mn ps h.mem h.cl p⟩
theorem sorted_of {l : List Nat} (h : l.Nodup) : ∃ t : List Nat, t.Perm l ∧ t.Pairwise (· < ·) := by
  refine ⟨l.mergeSort (fun a b => decide (a ≤ b)), List.mergeSort_perm _ _, ?_⟩
  have h1 : (l.mergeSort (fun a b => decide (a ≤ b))).Pairwise (fun a b => decide (a ≤ b) = true) := List.pairwise_mergeSort (fun a b c h1 h2 => by
    have := of_decide_eq_true h1; have := of_decide_eq_true h2; exact decide_eq_true (by omega)) (fun a b => by
    rw [Bool.or_eq_true, decide_eq_true_iff, decide_eq_true_iff]; omega) l
  have h2 : (l.mergeSort (fun a b => decide (a ≤ b))).Nodup := (List.mergeSort_perm l _).nodup_iff.mpr h
  have h3 : (l.mergeSort (fun a b => decide (a ≤ b))).Pairwise (· ≠ ·) := h2
  exact (h1.and h3).imp fun {a b} h => by have := of_decide_eq_true h.1; have := h.2; omega
theorem sorted_eq {s t : List Nat} (h : s.Perm t) (hs : s.Pairwise (· < ·)) (ht : t.Pairwise (· < ·)) : s = t :=
  List.Perm.eq_of_pairwise (le := fun a b : Nat => a < b) (fun a b _ _ h1 h2 => by omega) hs ht h
inductive Lo (f : List Nat) (n : Nat) : Nat → List (List Nat) → Prop
  | zero : Lo f n 0 []
  | skip {i : Nat} {ls : List (List Nat)} : Lo f n i ls → i ∈ ls.flatten → Lo f n (i + 1) ls
  | new {i : Nat} {ls : List (List Nat)} {ps t : List Nat} : Lo f n i ls → i ∉ ls.flatten → LoopL f n i ps → t.Perm ps → t.Pairwise (· < ·) → Lo f n (i + 1) (ls ++ [t])
theorem Lo.det {f : List Nat} {n i : Nat} {ls : List (List Nat)} (h : Lo f n i ls) : ∀ {ms : List (List Nat)}, Lo f n i ms → ls = ms := by
  induction h with
  | zero => intro ms h2; cases h2; rfl
  | skip h1 hm ih => intro ms h2; cases h2 with
    | skip h3 _ => exact ih h3
    | new h3 hn _ _ _ => rw [← ih h3] at hn; exact absurd hm hn
  | new h1 hn hL hp hs ih => intro ms h2; cases h2 with
    | skip h3 hm => rw [← ih h3] at hm; exact absurd hm hn
    | new h3 _ hL' hp' hs' => rw [ih h3, sorted_eq ((hp.trans (hL.perm hL')).trans hp'.symm) hs hs']
theorem Lo.bound {f : List Nat} {n i : Nat} {ls : List (List Nat)} (h : Lo f n i ls) : ls.length ≤ i ∧ ∀ t ∈ ls, 0 < t.length ∧ t.length ≤ n ∧ ∀ p ∈ t, p < n := by
  induction h with
  | zero => exact ⟨Nat.le_refl _, fun _ h => absurd h List.not_mem_nil⟩
  | skip _ _ ih => exact ⟨by omega, ih.2⟩
  | @new i ls ps t _ _ hL hp _ ih =>
    refine ⟨by rw [List.length_append, List.length_singleton]; omega, fun u hu => ?_⟩
    rcases List.mem_append.mp hu with hu | hu
    · exact ih.2 u hu
    · rw [List.mem_singleton.mp hu]
      refine ⟨List.length_pos_of_mem (hp.mem_iff.mpr hL.mem), ?_, fun p hp' => hL.lt p (hp.mem_iff.mp hp')⟩
      rw [hp.length_eq]; exact nd_len n ps hL.nd hL.lt
/-! ### the walk along the ends -/
def oth (n y : Nat) : Nat := if y < n then y + n else y - n
theorem oth_emp {n y : Nat} (h : y < 2 * n) : (emp n).getD y 0 = oth n y := by
  unfold oth
  by_cases c : y < n
  · rw [if_pos c, getD_of (emp_lo c), Nat.add_comm]
  · rw [if_neg c]
    have := emp_hi (n := n) (e := y - n) (by omega)
    rw [show n + (y - n) = y by omega] at this
    exact getD_of this
theorem oth_lt {n y : Nat} (h : y < 2 * n) : oth n y < 2 * n := by unfold oth; split <;> omega
theorem oth_oth {n y : Nat} (h : y < 2 * n) : oth n (oth n y) = y := by
  unfold oth
  by_cases c : y < n
  · rw [if_pos c, if_neg (by omega)]; omega
  · rw [if_neg c, if_pos (by omega)]; omega
theorem oth_mod {n y : Nat} (h : y < 2 * n) : oth n y % n = y % n := by
  unfold oth
  by_cases c : y < n
  · rw [if_pos c, Nat.add_mod_right]
  · rw [if_neg c, ← Nat.mod_eq_sub_mod (by omega)]
theorem mod_two {n y z : Nat} (hy : y < 2 * n) (hz : z < 2 * n) (h : y % n = z % n) : y = z ∨ y = oth n z := by
  have e : ∀ w, w < 2 * n → w % n = if w < n then w else w - n := fun w hw => by
    by_cases c : w < n
    · rw [if_pos c, Nat.mod_eq_of_lt c]
    · rw [if_neg c, Nat.mod_eq_sub_mod (by omega), Nat.mod_eq_of_lt (by omega)]
  rw [e y hy, e z hz] at h
  unfold oth
  split at h <;> split at h <;> split <;> omega
inductive Ev (f : List Nat) : List Nat → List Nat → Prop
  | nil : Ev f [] []
  | snoc {l es : List Nat} {z : Nat} : Ev f l es → Ev f (l ++ [z, f.getD z 0]) (es ++ [z])
theorem Ev.sub {f l es : List Nat} (h : Ev f l es) : ∀ y ∈ es, y ∈ l ∧ f.getD y 0 ∈ l := by
  induction h with
  | nil => intro y hy; exact absurd hy List.not_mem_nil
  | snoc _ ih =>
    intro y hy
    rcases List.mem_append.mp hy with hy | hy
    · exact ⟨List.mem_append.mpr (.inl (ih y hy).1), List.mem_append.mpr (.inl (ih y hy).2)⟩
    · rw [List.mem_singleton.mp hy]
      exact ⟨List.mem_append.mpr (.inr List.mem_cons_self), List.mem_append.mpr (.inr (List.mem_cons_of_mem _ List.mem_cons_self))⟩
structure EvI (f : List Nat) (n x : Nat) (l es : List Nat) (z : Nat) : Prop where
  lp : LpI f (emp n) (2 * n) x l z
  ev : Ev f l es
  dj : ∀ e ∈ es, ∀ e' ∈ es, e ≠ f.getD e' 0
  pn : (es.map (· % n)).Nodup
  nx : ∀ e ∈ es, oth n (f.getD e 0) ∈ es ∨ oth n (f.getD e 0) = z
  pv : ∀ e ∈ es, e = x ∨ ∃ e' ∈ es, e = oth n (f.getD e' 0)
  zz : es = [] ∨ ∃ e ∈ es, z = oth n (f.getD e 0)
  xe : es = [] → z = x
  xm : es ≠ [] → x ∈ es
  mn : ∀ M : List Nat, x ∈ M → (∀ p ∈ M, upE f n p ∈ M ∧ loE f n p ∈ M) → z % n ∈ M ∧ ∀ e ∈ es, e % n ∈ M
theorem EvI.start {f : List Nat} {n x : Nat} (hx : x < n) : EvI f n x [] [] x :=
  ⟨LpI.start (by omega), .nil, fun _ h => absurd h List.not_mem_nil, List.nodup_nil, fun _ h => absurd h List.not_mem_nil, fun _ h => absurd h List.not_mem_nil, .inl rfl, fun _ => rfl, fun h => absurd rfl h, fun M hM _ => ⟨by rw [Nat.mod_eq_of_lt hx]; exact hM, fun _ h => absurd h List.not_mem_nil⟩⟩
theorem end_of {f : List Nat} {n e : Nat} (he : e < 2 * n) : f.getD e 0 % n = if e < n then upE f n (e % n) else loE f n (e % n) := by
  unfold upE loE
  by_cases c : e < n
  · rw [if_pos c, Nat.mod_eq_of_lt c]
  · rw [if_neg c, Nat.mod_eq_sub_mod (show n ≤ e by omega), Nat.mod_eq_of_lt (show e - n < n by omega), show n + (e - n) = e by omega]
theorem EvI.step {f : List Nat} {n x z : Nat} {l es : List Nat} (hf : IsPair (2 * n) f) (hn : 0 < n) (h : EvI f n x l es z) (hz : z ∉ l) : EvI f n x (l ++ [z, f.getD z 0]) (es ++ [z]) (oth n (f.getD z 0)) := by
  have hz2 := h.lp.zl
  obtain ⟨a1, a2, a3, _⟩ := hf.d hz2
  have haz : f.getD z 0 ∉ l := fun hm => hz (by have := h.lp.ca _ hm; rwa [a3] at this)
  have hes : ∀ e ∈ es, e < 2 * n := fun e he => h.lp.lt e (h.ev.sub e he).1
  have hlp := h.lp.step hf (emp_pair hn) hz
  rw [oth_emp a1] at hlp
  refine ⟨hlp, .snoc h.ev, ?_, ?_, ?_, ?_, ?_, ?_, ?_, ?_⟩
  · intro e he e' he'
    rcases List.mem_append.mp he with he | he <;> rcases List.mem_append.mp he' with he' | he'
    · exact h.dj e he e' he'
    · rw [List.mem_singleton.mp he']; exact fun e0 => haz (by rw [← e0]; exact (h.ev.sub e he).1)
    · rw [List.mem_singleton.mp he]; exact fun e0 => hz (by rw [e0]; exact (h.ev.sub e' he').2)
    · rw [List.mem_singleton.mp he, List.mem_singleton.mp he']; exact fun e0 => a2 e0.symm
  · rw [List.map_append]
    refine List.nodup_append.mpr ⟨h.pn, List.nodup_cons.mpr ⟨List.not_mem_nil, List.nodup_nil⟩, fun p hp q hq e => ?_⟩
    rw [List.mem_singleton.mp hq] at e
    obtain ⟨y, hy, rfl⟩ := List.mem_map.mp hp
    rcases mod_two (hes y hy) hz2 e with e1 | e1
    · exact hz (by rw [← e1]; exact (h.ev.sub y hy).1)
    · rcases h.zz with e2 | ⟨e', he', e2⟩
      · rw [e2] at hy; exact absurd hy List.not_mem_nil
      · rw [e2, oth_oth (hf.d (hes e' he')).1] at e1
        exact h.dj y hy e' he' e1
  · intro e he
    rcases List.mem_append.mp he with he | he
    · rcases h.nx e he with h1 | h1
      · exact .inl (List.mem_append.mpr (.inl h1))
      · exact .inl (List.mem_append.mpr (.inr (by rw [h1]; exact List.mem_singleton.mpr rfl)))
    · rw [List.mem_singleton.mp he]; exact .inr rfl
  · intro e he
    rcases List.mem_append.mp he with he | he
    · rcases h.pv e he with h1 | ⟨e', h1, h2⟩
      · exact .inl h1
      · exact .inr ⟨e', List.mem_append.mpr (.inl h1), h2⟩
    · rw [List.mem_singleton.mp he]
      rcases h.zz with h1 | ⟨e', h1, h2⟩
      · exact .inl (h.xe h1)
      · exact .inr ⟨e', List.mem_append.mpr (.inl h1), h2⟩
  · exact .inr ⟨z, List.mem_append.mpr (.inr (List.mem_singleton.mpr rfl)), rfl⟩
  · intro e; exact absurd e (by simp)
  · intro _
    by_cases e : es = []
    · rw [h.xe e]; exact List.mem_append.mpr (.inr (List.mem_singleton.mpr rfl))
    · exact List.mem_append.mpr (.inl (h.xm e))
  · intro M hM hc
    obtain ⟨h1, h2⟩ := h.mn M hM hc
    refine ⟨?_, fun e he => ?_⟩
    · rw [oth_mod a1, end_of hz2]
      split
      · exact (hc _ h1).1
      · exact (hc _ h1).2
    · rcases List.mem_append.mp he with he | he
      · exact h2 e he
      · rw [List.mem_singleton.mp he]; exact h1
theorem EvI.loop {f : List Nat} {n x : Nat} {l es : List Nat} (hf : IsPair (2 * n) f) (hx : x < n) (h : EvI f n x l es x) (hne : es ≠ []) : LoopL f n x (es.map (· % n)) := by
  have hes : ∀ e ∈ es, e < 2 * n := fun e he => h.lp.lt e (h.ev.sub e he).1
  have nx : ∀ e ∈ es, oth n (f.getD e 0) ∈ es := fun e he => by
    rcases h.nx e he with h1 | h1
    · exact h1
    · rw [h1]; exact h.xm hne
  have pv : ∀ e ∈ es, ∃ e' ∈ es, e = oth n (f.getD e' 0) := fun e he => by
    rcases h.pv e he with h1 | h1
    · rw [h1]; exact h.zz.resolve_left hne
    · exact h1
  refine ⟨List.mem_map.mpr ⟨x, h.xm hne, Nat.mod_eq_of_lt hx⟩, h.pn, fun p hp => ?_, fun p hp => ?_, fun M hM hc p hp => ?_⟩
  · obtain ⟨e, _, rfl⟩ := List.mem_map.mp hp
    exact Nat.mod_lt _ (by omega)
  · obtain ⟨e, he, rfl⟩ := List.mem_map.mp hp
    have h1 : f.getD e 0 % n ∈ es.map (· % n) := List.mem_map.mpr ⟨_, nx e he, oth_mod (hf.d (hes e he)).1⟩
    obtain ⟨e', he', e1⟩ := pv e he
    have hfe' := hf.d (hes e' he')
    have h2 : f.getD (oth n e) 0 % n ∈ es.map (· % n) := by
      rw [e1, oth_oth hfe'.1, hfe'.2.2.1]
      exact List.mem_map.mpr ⟨e', he', rfl⟩
    rw [end_of (hes e he)] at h1
    rw [end_of (oth_lt (hes e he)), oth_mod (hes e he)] at h2
    have hlt := hes e he
    by_cases c : e < n
    · rw [if_pos c] at h1
      rw [if_neg (by unfold oth; rw [if_pos c]; omega)] at h2
      exact ⟨h1, h2⟩
    · rw [if_neg c] at h1
      rw [if_pos (by unfold oth; rw [if_neg c]; omega)] at h2
      exact ⟨h2, h1⟩
  · obtain ⟨e, he, rfl⟩ := List.mem_map.mp hp
    exact (h.mn M hM hc).2 e he
/-! ### the search -/
structure Bf (f : List Nat) (n x : Nat) (lp fr : List Nat) : Prop where
  mem : x ∈ lp
  nd : lp.Nodup
  lt : ∀ p ∈ lp, p < n
  sub : ∀ p ∈ fr, p ∈ lp
  cl : ∀ p ∈ lp, p ∈ fr ∨ (upE f n p ∈ lp ∧ loE f n p ∈ lp)
  mn : ∀ M : List Nat, x ∈ M → (∀ p ∈ M, upE f n p ∈ M ∧ loE f n p ∈ M) → ∀ p ∈ lp, p ∈ M
theorem Bf.start {f : List Nat} {n x : Nat} (hx : x < n) : Bf f n x [x] [x] :=
  ⟨List.mem_singleton.mpr rfl, List.nodup_cons.mpr ⟨List.not_mem_nil, List.nodup_nil⟩, fun p hp => by rw [List.mem_singleton.mp hp]; exact hx, fun _ h => h, fun _ h => .inl h, fun M hM _ p hp => by rw [List.mem_singleton.mp hp]; exact hM⟩
theorem Bf.done {f : List Nat} {n x : Nat} {lp : List Nat} (h : Bf f n x lp []) : LoopL f n x lp :=
  ⟨h.mem, h.nd, h.lt, fun p hp => (h.cl p hp).resolve_left List.not_mem_nil, h.mn⟩
structure Bm (f : List Nat) (n x : Nat) (lp fr : List Nat) (y i : Nat) : Prop where
  mem : x ∈ lp
  nd : lp.Nodup
  lt : ∀ p ∈ lp, p < n
  sub : ∀ p ∈ fr, p ∈ lp
  hin : y ∈ lp
  cl : ∀ p ∈ lp, p ∈ fr ∨ p = y ∨ (upE f n p ∈ lp ∧ loE f n p ∈ lp)
  d0 : 1 ≤ i → upE f n y ∈ lp
  d1 : 2 ≤ i → loE f n y ∈ lp
  mn : ∀ M : List Nat, x ∈ M → (∀ p ∈ M, upE f n p ∈ M ∧ loE f n p ∈ M) → ∀ p ∈ lp, p ∈ M
theorem Bf.pop {f : List Nat} {n x y : Nat} {lp fr : List Nat} (h : Bf f n x lp (fr ++ [y])) : Bm f n x lp fr y 0 :=
  ⟨h.mem, h.nd, h.lt, fun p hp => h.sub p (List.mem_append.mpr (.inl hp)), h.sub y (List.mem_append.mpr (.inr (List.mem_singleton.mpr rfl))), fun p hp => by
    rcases h.cl p hp with h1 | h1
    · rcases List.mem_append.mp h1 with h1 | h1
      · exact .inl h1
      · exact .inr (.inl (List.mem_singleton.mp h1))
    · exact .inr (.inr h1), fun z => absurd z (by omega), fun z => absurd z (by omega), h.mn⟩
def endE (f : List Nat) (n y i : Nat) : Nat := if i = 0 then upE f n y else loE f n y
theorem Bm.old {f : List Nat} {n x y i : Nat} {lp fr : List Nat} (h : Bm f n x lp fr y i) (hi : i < 2) (hm : endE f n y i ∈ lp) : Bm f n x lp fr y (i + 1) := by
  refine ⟨h.mem, h.nd, h.lt, h.sub, h.hin, h.cl, fun _ => ?_, fun hz => ?_, h.mn⟩
  · by_cases c : i = 0
    · unfold endE at hm; rw [if_pos c] at hm; exact hm
    · exact h.d0 (by omega)
  · unfold endE at hm; rw [if_neg (by omega)] at hm; exact hm
theorem Bm.new {f : List Nat} {n x y i : Nat} {lp fr : List Nat} (h : Bm f n x lp fr y i) (hn : 0 < n) (hi : i < 2) (hm : endE f n y i ∉ lp) : Bm f n x (lp ++ [endE f n y i]) (fr ++ [endE f n y i]) y (i + 1) := by
  have hlt : endE f n y i < n := by unfold endE upE loE; split <;> exact Nat.mod_lt _ hn
  have in1 : ∀ p, p ∈ lp → p ∈ lp ++ [endE f n y i] := fun p hp => List.mem_append.mpr (.inl hp)
  have in2 : endE f n y i ∈ lp ++ [endE f n y i] := List.mem_append.mpr (.inr (List.mem_singleton.mpr rfl))
  refine ⟨in1 _ h.mem, ?_, fun p hp => ?_, fun p hp => ?_, in1 _ h.hin, fun p hp => ?_, fun _ => ?_, fun hz => ?_, fun M hM hc p hp => ?_⟩
  · exact List.nodup_append.mpr ⟨h.nd, List.nodup_cons.mpr ⟨List.not_mem_nil, List.nodup_nil⟩, fun p hp q hq e => hm (by rw [← List.mem_singleton.mp hq, ← e]; exact hp)⟩
  · rcases List.mem_append.mp hp with hp | hp
    · exact h.lt p hp
    · rw [List.mem_singleton.mp hp]; exact hlt
  · rcases List.mem_append.mp hp with hp | hp
    · exact in1 _ (h.sub p hp)
    · rw [List.mem_singleton.mp hp]; exact in2
  · rcases List.mem_append.mp hp with hp | hp
    · rcases h.cl p hp with h1 | h1 | h1
      · exact .inl (List.mem_append.mpr (.inl h1))
      · exact .inr (.inl h1)
      · exact .inr (.inr ⟨in1 _ h1.1, in1 _ h1.2⟩)
    · rw [List.mem_singleton.mp hp]; exact .inl (List.mem_append.mpr (.inr (List.mem_singleton.mpr rfl)))
  · by_cases c : i = 0
    · have : endE f n y i = upE f n y := by unfold endE; rw [if_pos c]
      rw [← this]; exact in2
    · exact in1 _ (h.d0 (by omega))
  · have : endE f n y i = loE f n y := by unfold endE; rw [if_neg (by omega)]
    rw [← this]; exact in2
  · rcases List.mem_append.mp hp with hp | hp
    · exact h.mn M hM hc p hp
    · rw [List.mem_singleton.mp hp]
      have h1 := hc y (h.mn M hM hc y h.hin)
      unfold endE; split
      · exact h1.1
      · exact h1.2
theorem Bm.room {f : List Nat} {n x y i : Nat} {lp fr : List Nat} (h : Bm f n x lp fr y i) (hn : 0 < n) (hi : i < 2) (hm : endE f n y i ∉ lp) : lp.length + 1 ≤ n := by
  have h1 := h.new hn hi hm
  have h2 := nd_len n _ h1.nd h1.lt
  rw [List.length_append, List.length_singleton] at h2; exact h2
theorem Bm.back {f : List Nat} {n x y : Nat} {lp fr : List Nat} (h : Bm f n x lp fr y 2) : Bf f n x lp fr :=
  ⟨h.mem, h.nd, h.lt, h.sub, fun p hp => by
    rcases h.cl p hp with h1 | h1 | h1
    · exact .inl h1
    · rw [h1]; exact .inr ⟨h.d0 (by omega), h.d1 (by omega)⟩
    · exact .inr h1, h.mn⟩
/-! ### pure loops -/
def pureB (f : List Nat) (n : Nat) (l : List Nat) : Bool := decide (1 < l.length) && l.all fun p => decide (n ≤ f.getD p 0)
end Pc
namespace Pc
open PySem PySem.Spec PyProof.Rows L2 RZ
section
variable {P : Program} {w : World} {K : PySem.W.Frag} {mg : Str → Option Value} {base : Heap}
/-! ### loops, by the program -/
def spOthr : Sp := fun vs H Q _ => ∃ n e : Nat, vs = [.int n, .int e] ∧ Q (.int (oth n e : Nat)) H
theorem ok_p_othr (T : Env K mg) : FnOk P w K mg base CX0 1 T.f_p_other_side T.d_p_other_side ["size", "end"] spOthr := by
  refine T.F_p_other_side.ok sc_p_other_side (fun vs H Q E h => ?_) (fun cdv A outer s H vs Q E hr h => ?_)
  · obtain ⟨n, e, rfl, _⟩ := h
    rfl
  · obtain ⟨n, e, rfl, q⟩ := h
    refine ⟨_, pss_one (ps_ret (pe_ifExp (pt_cmpR op_lt (pv 1) (pv 0) (nomark _)) (pe_op op_add (pv 1) (pv 0)) (pe_op op_sub (pv 1) (pv 0)))), ?_⟩
    refine ⟨_, rfl, _, rfl, _, _, rfl, rfl, _, rfl, ite2 (fun c => ?_) (fun c => ?_)⟩
    · have h : e < n := by have := of_decide_eq_true c; omega
      refine ⟨_, rfl, _, rfl, _, _, rfl, rfl, ?_⟩
      have : (((e : Nat) : Int) + (n : Int)) = ((oth n e : Nat) : Int) := by unfold oth; rw [if_pos h]; omega
      show Q (.int (((e : Nat) : Int) + (n : Int))) H
      rw [this]; exact q
    · have h : ¬ e < n := fun z => c (decide_eq_true (by omega))
      refine ⟨_, rfl, _, rfl, _, _, rfl, rfl, ?_⟩
      have : (((e : Nat) : Int) - (n : Int)) = ((oth n e : Nat) : Int) := by unfold oth; rw [if_neg h]; omega
      show Q (.int (((e : Nat) : Int) - (n : Int))) H
      rw [this]; exact q
def spLoopOf (K : PySem.W.Frag) : Sp := fun vs H Q _ => ∃ (a : Addr) (f : List Nat) (n x : Nat), vs = [.ref a, .int x] ∧ Sq K H a (nv f) ∧ IsPair (2 * n) f ∧ x < n ∧ n ≤ 60 ∧
  ∀ (H' : Hp) (t : Addr) (ps ts : List Nat), LoopL f n x ps → ts.Perm ps → ts.Pairwise (· < ·) → Same H H' → H t = none → H' t = some (.tup (nv ts)) → Q (.ref t) H'
theorem ok_p_loop_of (T : Env K mg) : FnOk P w K mg base CX0 2 T.f_p_loop_of T.d_p_loop_of ["sheet", "person"] (spLoopOf K) := by
  have G0 : FnOk P w K mg base CX0 1 T.f_p_people_of T.d_p_people_of ["sheet"] (spPeople K) := ok_p_people_of T
  have GO : FnOk P w K mg base CX0 1 T.f_p_other_side T.d_p_other_side ["size", "end"] spOthr := ok_p_othr T
  refine T.F_p_loop_of.ok sc_p_loop_of (fun vs H Q E h => ?_) (fun cdv A outer s H vs Q E hr h => ?_)
  · obtain ⟨a, f, n, x, rfl, _⟩ := h
    rfl
  · obtain ⟨a, f, n, x, rfl, ha, hf, hx, hn, q⟩ := h
    refine ⟨_, pss_cons (ps_set (i := 2) sc_p_loop_of.nd rfl (.inl rfl) (pe_call G0 hr (by rfl) T.g_p_people_of T.F_p_people_of.kp T.b_p_people_of .nil pass0 (pa_cons (pv 0) pa_nil))) <|
      pss_cons (ps_set (i := 3) sc_p_loop_of.nd rfl (.inl rfl) (pe_lst (pa_cons (pv 1) pa_nil))) <|
      pss_cons (ps_set (i := 4) sc_p_loop_of.nd rfl (.inl rfl) (pe_ix ix_seq (pv 0) (pv 1) (fun _ _ => rfl))) <|
      pss_cons (ps_while PassesOwn.never (pt_cmpR op_ne (pv 4) (pe_op op_add (pv 2) (pv 1)) (nomark _))
        (pss_cons (ps_expr (pe_bm PySem.F.plainAttrs_list PySem.F.slot_list_append PySem.F.type_list_append mt_append (pv 3) (pa_cons (pe_op op_mod (pv 4) (pv 2)) pa_nil))) <|
        pss_one (ps_set (i := 4) sc_p_loop_of.nd rfl (.inl rfl) (pe_ix ix_seq (pv 0) (pe_call GO hr (by rfl) T.g_p_other_side T.F_p_other_side.kp T.b_p_other_side .nil pass0 (pa_cons (pv 2) (pa_cons (pv 4) pa_nil))) (fun _ _ => rfl))))) <|
      pss_one (ps_ret (pe_callTy call_tuple_of (by rfl) T.n_tuple (by decide +kernel) (pa_cons (pe_callB cr_sorted (by rfl) T.n_sorted (by decide +kernel) (pa_cons (pv 3) pa_nil)) pa_nil))), ?_⟩
    have h0 : 0 < n := by omega
    obtain ⟨a1, a2, a3, a4⟩ := hf.d (show x < 2 * n by omega)
    refine ⟨.ref a, rfl, a, f, n, rfl, ha, hf.len, ?_⟩
    refine st_set [some (.ref a), some (.int x), some (.int (n : Nat)), none, none] ?_ rfl
    refine ⟨_, rfl, by show 1 ≤ sizeLine; decide, fun p np => ?_⟩
    have e0 : (upd H p (.lst [.int (x : Int)])) p = some (.lst (nv ([x].map (· % n)))) := by rw [upd_same]; show _ = some (HO.lst [V.int ((x % n : Nat) : Int)]); rw [Nat.mod_eq_of_lt hx]
    have s0 : Same H (upd H p (.lst [.int (x : Int)])) := same_new np
    revert e0 s0
    generalize upd H p (.lst [.int (x : Int)]) = H0
    intro e0 s0
    refine st_set [some (.ref a), some (.int x), some (.int (n : Nat)), some (.ref p), none] ?_ rfl
    refine ⟨_, rfl, _, rfl, ix_sq (ha.same s0) (nv_at a4) ?_⟩
    refine st_set [some (.ref a), some (.int x), some (.int (n : Nat)), some (.ref p), some (.int ((f.getD x 0 : Nat) : Int))] ?_ rfl
    have i0 := (EvI.start (f := f) hx).step hf h0 List.not_mem_nil
    refine ⟨fun m σ H' => ∃ (l es : List Nat) (e : Nat), σ = [some (.ref a), some (.int x), some (.int (n : Nat)), some (.ref p), some (.int ((f.getD e 0 : Nat) : Int))] ∧ Same H H' ∧ H' p = some (.lst (nv (es.map (· % n)))) ∧ EvI f n x l es (oth n (f.getD e 0)) ∧ e ∈ es ∧ 2 * n - l.length = m,
      ⟨_, _, [x], x, rfl, s0, e0, i0, List.mem_singleton.mpr rfl, rfl⟩, fun m σ H' hW => ?_⟩
    obtain ⟨l, es, e, rfl, sm, ee, hi, he, hm⟩ := hW
    have hel : e < 2 * n := hi.lp.lt e (hi.ev.sub e he).1
    obtain ⟨f1, _, f3, _⟩ := hf.d hel
    have hesn : es ≠ [] := fun z => by rw [z] at he; exact absurd he List.not_mem_nil
    have hel2 : (es.map (· % n)).length ≤ n := nd_len n _ hi.pn (fun y hy => by obtain ⟨z, _, rfl⟩ := List.mem_map.mp hy; exact Nat.mod_lt _ h0)
    refine ⟨_, rfl, _, rfl, _, rfl, _, _, rfl, rfl, rfl, _, rfl, ite2 (fun c => ?_) (fun c => ?_)⟩
    · have hne : oth n (f.getD e 0) ≠ x := fun z => by
        have c' : (!decide (V.int ((f.getD e 0 : Nat) : Int) = V.int ((n : Int) + (x : Int)))) = true := c
        have e1 : f.getD e 0 = n + x := by
          have := oth_oth f1
          rw [z] at this
          unfold oth at this; rw [if_pos hx] at this; omega
        rw [e1, decide_eq_true (by rw [show ((n + x : Nat) : Int) = (n : Int) + (x : Int) by omega])] at c'
        exact absurd c' (by decide)
      have hz : oth n (f.getD e 0) ∉ l := fun hm => hne (hi.lp.done (emp_pair h0) hm)
      have hroom := hi.lp.room hf (emp_pair h0) hz
      have hi2 := hi.step hf h0 hz
      obtain ⟨g1, _, _, g4⟩ := hf.d (oth_lt f1)
      refine ⟨fun σ' H2 => ∃ (l es : List Nat) (e : Nat), σ' = [some (.ref a), some (.int x), some (.int (n : Nat)), some (.ref p), some (.int ((f.getD e 0 : Nat) : Int))] ∧ Same H H2 ∧ H2 p = some (.lst (nv (es.map (· % n)))) ∧ EvI f n x l es (oth n (f.getD e 0)) ∧ e ∈ es ∧ 2 * n - l.length < m,
        fun σ' H2 h2 => ?_, ?_⟩
      · obtain ⟨l', es', e', g1, g2, g3, g4, g5, g6⟩ := h2
        exact ⟨_, g6, l', es', e', g1, g2, g3, g4, g5, rfl⟩
      · refine ⟨.ref p, rfl, .inl ⟨rfl, _, .inl (.inl ee)⟩, _, rfl, _, rfl, _, _, rfl, rfl, (by show (0 : Int) < (n : Int); omega), p, _, _, rfl, rfl, ee, line_big (by rw [nv_length]; omega), ?_⟩
        have em : ((f.getD e 0 : Nat) : Int) % (n : Int) = ((oth n (f.getD e 0) % n : Nat) : Int) := by rw [oth_mod f1]; rfl
        have e1 : (upd H' p (.lst (nv (es.map (· % n)) ++ [V.int (((f.getD e 0 : Nat) : Int) % (n : Int))]))) p = some (.lst (nv ((es ++ [oth n (f.getD e 0)]).map (· % n)))) := by rw [upd_same, em, nv_snoc', List.map_append]; rfl
        have s1 : Same H (upd H' p (.lst (nv (es.map (· % n)) ++ [V.int (((f.getD e 0 : Nat) : Int) % (n : Int))]))) := fun b o hb => by rw [upd_ne (ne_of_none hb np)]; exact sm _ _ hb
        revert e1 s1
        generalize upd H' p (.lst (nv (es.map (· % n)) ++ [V.int (((f.getD e 0 : Nat) : Int) % (n : Int))])) = H1
        intro e1 s1
        refine ⟨_, rfl, _, rfl, _, rfl, n, f.getD e 0, rfl, ix_sq (ha.same s1) (nv_at g4) ?_⟩
        refine st_set [some (.ref a), some (.int x), some (.int (n : Nat)), some (.ref p), some (.int ((f.getD (oth n (f.getD e 0)) 0 : Nat) : Int))] ?_ rfl
        exact ⟨_, _, oth n (f.getD e 0), rfl, s1, e1, hi2, List.mem_append.mpr (.inr (List.mem_singleton.mpr rfl)), by rw [List.length_append, ← hm]; show 2 * n - (l.length + 2) < 2 * n - l.length; omega⟩
    · have hzx : oth n (f.getD e 0) = x := by
        have e1 : f.getD e 0 = n + x := by
          by_cases e' : f.getD e 0 = n + x
          · exact e'
          · exact absurd (show (!decide (V.int ((f.getD e 0 : Nat) : Int) = V.int ((n : Int) + (x : Int)))) = true by rw [decide_eq_false (fun z' => e' (by have := V.int.inj z'; omega))]; rfl) c
        unfold oth; rw [e1, if_neg (by omega)]; omega
      rw [hzx] at hi
      have hL := hi.loop hf hx hesn
      obtain ⟨ts, t1, t2⟩ := sorted_of hL.nd
      refine ⟨_, rfl, ?_⟩
      refine sort_natsN (t := ts) (.inl (.inl ee)) (by omega) t1 t2 fun l2 nl2 => ?_
      refine ⟨l2, _, rfl, .inl ⟨.inl (.inl upd_same), fun t nt => ?_⟩⟩
      have s2 := sm.trans (same_new (o := .lst (nv ts)) nl2)
      exact q _ t _ ts hL t1 t2 (s2.trans (same_new nt)) (s2.free nt) upd_same
def spLoops (K : PySem.W.Frag) : Sp := fun vs H Q _ => ∃ (a : Addr) (f : List Nat) (n : Nat), vs = [.ref a] ∧ Sq K H a (nv f) ∧ IsPair (2 * n) f ∧ n ≤ 60 ∧
  ∀ (H' : Hp) (t : Addr) (as : List Addr) (ls : List (List Nat)), Lo f n n ls → Same H H' → H t = none → H' t = some (.lst (as.map V.ref)) → Tups H' as ls → Q (.ref t) H'
theorem ok_p_loops (T : Env K mg) : FnOk P w K mg base CX0 3 T.f_p_loops T.d_p_loops ["sheet"] (spLoops K) := by
  have G0 : FnOk P w K mg base CX0 1 T.f_p_people_of T.d_p_people_of ["sheet"] (spPeople K) := ok_p_people_of T
  have GF : FnOk P w K mg base CX0 2 T.f_p_loop_of T.d_p_loop_of ["sheet", "person"] (spLoopOf K) := ok_p_loop_of T
  refine T.F_p_loops.ok sc_p_loops (fun vs H Q E h => ?_) (fun cdv A outer s H vs Q E hr h => ?_)
  · obtain ⟨a, f, n, rfl, _⟩ := h
    rfl
  · obtain ⟨a, f, n, rfl, ha, hF, hn, q⟩ := h
    have h1 := hr.mono (show 1 ≤ 2 by decide)
    refine ⟨_, pss_cons (ps_set (i := 1) sc_p_loops.nd rfl (.inl rfl) (pe_lst pa_nil)) <|
      pss_cons (ps_set (i := 2) sc_p_loops.nd rfl (.inl rfl) (pe_callTy0 cr_set0 (by rfl) T.n_set (by decide +kernel))) <|
      pss_cons (ps_for PassesOwn.never rfl (pi_range1 (by rfl) T.n_range (pa_cons (pe_call G0 h1 (by rfl) T.g_p_people_of T.F_p_people_of.kp T.b_p_people_of .nil pass0 (pa_cons (pv 0) pa_nil)) pa_nil)) (pg_name (i := 3) sc_p_loops.nd rfl (.inl rfl))
        (pss_one (ps_if (pt_cmpR or_snotin (pv 3) (pv 2) (by rfl))
          (pss_cons (ps_set (i := 4) sc_p_loops.nd rfl (.inl rfl) (pe_call GF hr (by rfl) T.g_p_loop_of T.F_p_loop_of.kp T.b_p_loop_of .nil pass0 (pa_cons (pv 0) (pa_cons (pv 3) pa_nil)))) <|
          pss_cons (ps_expr (pe_bm PySem.F.plainAttrs_list PySem.F.slot_list_append PySem.F.type_list_append mt_append (pv 1) (pa_cons (pv 4) pa_nil))) <|
          pss_one (ps_for PassesOwn.never rfl (pi_tup (pv 4)) (pg_name (i := 5) sc_p_loops.nd rfl (.inl rfl)) (pss_one (ps_expr (pe_sadd (pv 2) (pa_cons (pv 5) pa_nil)))))) pss_nil))) <|
      pss_one (ps_ret (pv 1)), ?_⟩
    refine ⟨by show 0 ≤ sizeLine; decide, fun fo nf => ?_⟩
    have s1 : Same H (upd H fo (.lst [])) := same_new nf
    have e1 : (upd H fo (.lst [])) fo = some (.lst []) := upd_same
    revert s1 e1
    generalize upd H fo (.lst []) = H1
    intro s1 e1
    refine st_set [some (.ref a), some (.ref fo), none, none, none, none] ?_ rfl
    refine ⟨rfl, fun g ng => ?_⟩
    have s2 : Same H1 (upd H1 g (SetO w g (fun _ => false) 0)) := same_new ng
    have e2 : (upd H1 g (SetO w g (fun _ => false) 0)) g = some (SetO w g (fun _ => false) 0) := upd_same
    have fg : fo ≠ g := ne_of_none e1 ng
    have ng0 : H g = none := s1.free ng
    refine st_set [some (.ref a), some (.ref fo), some (.ref g), none, none, none] ?_ rfl
    refine ⟨.ref a, rfl, a, f, n, rfl, ha.same (s1.trans s2), hF.len, ?_⟩
    refine ⟨_, rfl, by omega, by omega, ?_⟩
    rw [show ((n : Nat) : Int).toNat = n by omega]
    refine for_range (n := n) (fun i σ H' => Same H H' ∧ ∃ (y4 y5 y6 : Option V) (as : List Addr) (ls : List (List Nat)) (S : Int → Bool) (k : Nat), σ = [some (.ref a), some (.ref fo), some (.ref g), y4, y5, y6] ∧ Lo f n i ls ∧ H' fo = some (.lst (as.map V.ref)) ∧ Tups H' as ls ∧ H' g = some (SetO w g S k) ∧ (∀ y : Nat, S (y : Int) = decide (y ∈ ls.flatten)) ∧ k ≤ n * i)
      ⟨s1.trans s2, none, none, none, [], [], _, _, rfl, .zero, s2 _ _ e1, .nil, e2, fun y => rfl, Nat.le_refl _⟩ (fun i σ Hi hi hPv => ?_) (fun σ Hi hPv => ?_)
    · obtain ⟨sm, y4, y5, y6, as, ls, S, k, rfl, hR, ef, hT, eg, hS, hk⟩ := hPv
      have hbd := hR.bound
      have hni' : n * i + n ≤ 3600 := by
        have h1 : n * (i + 1) ≤ n * n := Nat.mul_le_mul_left _ (by omega)
        have h2 : n * n ≤ 60 * 60 := Nat.mul_le_mul hn hn
        rw [Nat.mul_succ] at h1; omega
      refine st_set [some (.ref a), some (.ref fo), some (.ref g), some (.int ((0 : Int) + (i : Nat))), y5, y6] ?_ rfl
      rw [show (0 : Int) + (i : Nat) = ((i : Nat) : Int) by omega]
      refine ⟨_, rfl, _, rfl, _, g, S, k, rfl, rfl, eg, _, rfl, ite2 (fun c => ?_) (fun c => ?_)⟩
      · have hni : i ∉ ls.flatten := fun hm => by
          have c' : (!S ((i : Nat) : Int)) = true := c
          rw [hS, decide_eq_true hm] at c'
          exact absurd c' (by decide)
        refine ⟨.ref a, rfl, _, rfl, a, f, n, i, rfl, ha.same sm, hF, hi, hn, fun H3 t ps r hL hp hs s3 nt et => ?_⟩
        have hRn := Lo.new hR hni hL hp hs
        have hrl : r.length ≤ n := by rw [hp.length_eq]; exact nd_len n ps hL.nd hL.lt
        refine st_set [some (.ref a), some (.ref fo), some (.ref g), some (.int ((i : Nat) : Int)), some (.ref t), y6] ?_ rfl
        have ef3 := s3 _ _ ef
        refine ⟨.ref fo, rfl, .inl ⟨rfl, _, .inl (.inl ef3)⟩, _, rfl, fo, _, _, rfl, rfl, ef3, line_big (by rw [List.length_map, hT.length]; omega), ?_⟩
        have tf : t ≠ fo := fun z => by rw [z, ef] at nt; cases nt
        have k4 : Keep fo H3 (upd H3 fo (.lst (as.map V.ref ++ [.ref t]))) := keep_upd
        have ef4 : (upd H3 fo (.lst (as.map V.ref ++ [.ref t]))) fo = some (.lst ((as ++ [t]).map V.ref)) := by rw [upd_same, List.map_append]; rfl
        have et4 := k4 _ _ tf et
        have eg4 := k4 _ _ fg.symm (s3 _ _ eg)
        have hT4 := tups_append (tups_keep k4 ef3 (tups_same s3 hT)) (ls := ls) (ms := [r]) (bs := [t]) (.cons et4 .nil)
        have sm4 : Same H (upd H3 fo (.lst (as.map V.ref ++ [.ref t]))) := fun y o hy => by rw [upd_ne (ne_of_none hy nf)]; exact s3 _ _ (sm _ _ hy)
        revert ef4 et4 eg4 hT4 sm4
        clear k4
        generalize upd H3 fo (.lst (as.map V.ref ++ [.ref t])) = H4
        intro ef4 et4 eg4 hT4 sm4
        refine ⟨.ref t, rfl, t, rfl, ⟨_, .inl (.inl et4)⟩, ?_⟩
        refine for_tup (xs := nv r) (fun j σ H' => Same H H' ∧ H' t = some (.tup (nv r)) ∧ H' fo = some (.lst ((as ++ [t]).map V.ref)) ∧ Tups H' (as ++ [t]) (ls ++ [r]) ∧ ∃ (y6 : Option V) (S : Int → Bool) (k : Nat), σ = [some (.ref a), some (.ref fo), some (.ref g), some (.int ((i : Nat) : Int)), some (.ref t), y6] ∧ H' g = some (SetO w g S k) ∧ (∀ y : Nat, S (y : Int) = decide (y ∈ ls.flatten ++ r.take j)) ∧ k ≤ n * i + j)
          ⟨sm4, et4, ef4, hT4, y6, S, k, rfl, eg4, fun y => by rw [List.take_zero, List.append_nil]; exact hS y, by omega⟩ (fun j σ H' _ h => .inl (.inl h.2.1)) (fun j v σ H' hv h => ?_) (fun σ H' h => ?_)
        · obtain ⟨sm5, et5, ef5, hT5, y6, S5, k5, rfl, eg5, hS5, hk5⟩ := h
          obtain ⟨u, hu, rfl⟩ := nv_get' hv
          have hj := get_lt hu
          refine st_set [some (.ref a), some (.ref fo), some (.ref g), some (.int ((i : Nat) : Int)), some (.ref t), some (.int u)] ?_ rfl
          refine ⟨.ref g, rfl, ⟨g, S5, k5, rfl, eg5⟩, _, rfl, g, u, S5, k5, rfl, rfl, eg5, by show k5 + 1 < 4096; omega, ?_⟩
          have tg : t ≠ g := fun z => by rw [z, eg5] at et5; cases et5
          refine ⟨fun y o hy => by rw [upd_ne (ne_of_none hy ng0)]; exact sm5 _ _ hy, by rw [upd_ne tg]; exact et5, by rw [upd_ne fg]; exact ef5, tups_upd eg5 hT5, _, _, _, rfl, upd_same, fun y => ?_, by split <;> omega⟩
          show (S5 (y : Int) || decide ((y : Int) = (u : Int))) = _
          rw [hS5, List.take_add_one, hu, ← Bool.decide_or]
          refine decide_eq_decide.mpr ?_
          show _ ∨ _ ↔ y ∈ ls.flatten ++ (r.take j ++ [u])
          rw [← List.append_assoc, List.mem_append (s := ls.flatten ++ r.take j), List.mem_singleton]
          exact or_congr Iff.rfl ⟨fun z => by omega, fun z => by omega⟩
        · obtain ⟨sm5, et5, ef5, hT5, y6, S5, k5, rfl, eg5, hS5, hk5⟩ := h
          rw [nv_length] at hS5 hk5
          refine ⟨sm5, _, _, _, _, _, S5, k5, rfl, hRn, ef5, hT5, eg5, fun y => by rw [hS5, List.take_length, flat_snoc], by rw [Nat.mul_succ]; omega⟩
      · have hm : i ∈ ls.flatten := by
          by_cases z : i ∈ ls.flatten
          · exact z
          · exact absurd (show (!S ((i : Nat) : Int)) = true by rw [hS, decide_eq_false z]; rfl) c
        exact ⟨sm, _, _, _, as, ls, S, k, rfl, .skip hR hm, ef, hT, eg, hS, by rw [Nat.mul_succ]; omega⟩
    · obtain ⟨sm, y4, y5, y6, as, ls, S, k, rfl, hR, ef, hT, eg, hS, hk⟩ := hPv
      exact ⟨.ref fo, rfl, q Hi fo as ls hR sm nf ef hT⟩
end
end Pc
namespace Pc
open PySem PySem.Spec PyProof.Rows L2 RZ
section
variable {P : Program} {w : World} {K : PySem.W.Frag} {mg : Str → Option Value} {base : Heap}
/-! ### pure loops, by the program -/
def spIsPure (K : PySem.W.Frag) : Sp := fun vs H Q _ => ∃ (a t : Addr) (f ts : List Nat) (n : Nat), vs = [.ref a, .ref t] ∧ Sq K H a (nv f) ∧ IsPair (2 * n) f ∧ n ≤ 60 ∧ SqT K H t (nv ts) ∧ (∀ p ∈ ts, p < n) ∧ ts.length ≤ 100 ∧ ∀ H', Same H H' → Q (.bl (pureB f n ts)) H'
theorem ok_p_is_pure (T : Env K mg) : FnOk P w K mg base CX0 2 T.f_p_is_pure T.d_p_is_pure ["sheet", "loop"] (spIsPure K) := by
  have G0 : FnOk P w K mg base CX0 1 T.f_p_people_of T.d_p_people_of ["sheet"] (spPeople K) := ok_p_people_of T
  refine T.F_p_is_pure.ok sc_p_is_pure (fun vs H Q E h => ?_) (fun cdv A outer s H vs Q E hr h => ?_)
  · obtain ⟨a, t, f, ts, n, rfl, _⟩ := h
    rfl
  · obtain ⟨a, t, f, ts, n, rfl, ha, hf, hn, ht, hlt, hl, q⟩ := h
    refine ⟨_, pss_one (ps_ret (pe_and (pe_cmpR op_gt (pe_callB call_len_seq (by rfl) T.n_len PySem.boot_len (pa_cons (pv 1) pa_nil)) pe_int (nomark _)) (pe_one (pe_callB (cr_all rfl) (by rfl) T.n_all (by decide +kernel) (pa_cons
      (pe_lc (own := [("person", 2)]) (g := gName 2) (tt := tYes) (te := tOp (rI0 fun i j => .bl (decide (j ≤ i))) (tOp (rIx K) (tVar 0) (tVar 2)) (tCall (spPeople K) [] (fun _ _ _ => False) (tCons (tVar 0) tNil))) rfl sc_p_is_pure.nd (pi_tup (pv 1)) (blkOk_by (N := N_p_is_pure) (sc := defScope s_p_is_pure) (by decide +kernel)) (fun _ _ _ _ _ => pg_name (i := 2) sc_p_is_pure.nd rfl (.inl rfl)) (fun _ _ _ _ _ => pts_nil)
        (fun _ _ _ _ _ => pe_cmpR op_ge (pe_ix ix_seq (pv 0) (pv 2) (fun _ _ => rfl)) (pe_call G0 hr (by rfl) T.g_p_people_of T.F_p_people_of.kp T.b_p_people_of .nil pass0 (pa_cons (pv 0) pa_nil)) (nomark _))) pa_nil))))), ?_⟩
    refine ⟨.ref t, rfl, t, _, rfl, .inr ht, _, _, rfl, rfl, _, rfl, ite2 (fun c => ?_) (fun c => ?_)⟩
    · have hc : 1 < ts.length := by have := of_decide_eq_true c; rw [nv_length] at this; omega
      refine ⟨_, rfl, t, rfl, ⟨_, ht⟩, fun D nD => ?_⟩
      refine lc_tup (xs := nv ts) (fun i H' => Same H H' ∧ H' D = some (.lst ((((ts.take i).map fun p => decide (n ≤ f.getD p 0))).map V.bl))) ⟨same_new nD, upd_same⟩ (fun i H' _ h => same_tup h.1 ht) (fun i v H' hv h => ?_) (fun H' h => ?_)
      · obtain ⟨sm, eD⟩ := h
        obtain ⟨p, hp, rfl⟩ := nv_get' hv
        have hpl := hlt p (List.mem_of_getElem? hp)
        obtain ⟨_, _, _, f4⟩ := hf.d (show p < 2 * n by omega)
        refine ⟨rfl, yes_if ⟨_, rfl, _, rfl, ix_sq (ha.same sm) (nv_at f4) ⟨_, rfl, a, f, n, rfl, ha.same sm, hf.len, _, _, rfl, rfl, _, eD, ?_, fun z o hz => ?_, ?_⟩⟩⟩
        · rw [List.length_map, List.length_map, List.length_take]; exact small1000 (by omega)
        · rw [upd_ne (ne_of_none hz nD)]; exact sm _ _ hz
        · rw [upd_same, List.take_add_one, hp, List.map_append, List.map_append]
          show some (HO.lst (_ ++ [V.bl (decide ((n : Int) ≤ ((f.getD p 0 : Nat) : Int)))])) = some (HO.lst (_ ++ [V.bl (decide (n ≤ f.getD p 0))]))
          rw [show decide ((n : Int) ≤ ((f.getD p 0 : Nat) : Int)) = decide (n ≤ f.getD p 0) from decide_eq_decide.mpr ⟨fun z => by omega, fun z => by omega⟩]
      · obtain ⟨sm, eD⟩ := h
        rw [nv_length, List.take_length] at eD
        refine ⟨D, _, rfl, .inl (.inl eD), ?_⟩
        have e : ((ts.map fun p => decide (n ≤ f.getD p 0)).all id) = pureB f n ts := by
          unfold pureB; rw [decide_eq_true hc, Bool.true_and, List.all_map]; rfl
        rw [e]; exact q H' sm
    · have e : pureB f n ts = false := by
        unfold pureB
        rw [decide_eq_false (fun z => c (decide_eq_true (by rw [nv_length]; omega))), Bool.false_and]
      rw [e] at q
      exact q H (fun _ _ z => z)
def spPureL (K : PySem.W.Frag) : Sp := fun vs H Q _ => ∃ (a : Addr) (f : List Nat) (n : Nat), vs = [.ref a] ∧ Sq K H a (nv f) ∧ IsPair (2 * n) f ∧ n ≤ 60 ∧
  ∀ (H' : Hp) (t : Addr) (as : List Addr) (ls : List (List Nat)), Lo f n n ls → Same H H' → H t = none → H' t = some (.lst (as.map V.ref)) → Tups H' as (ls.filter (pureB f n)) → Q (.ref t) H'
theorem tups_mem {H : Hp} : ∀ {as : List Addr} {ls : List (List Nat)} {i : Nat} {a : Addr}, Tups H as ls → as[i]? = some a → ∃ l, ls[i]? = some l ∧ H a = some (.tup (nv l)) := fun h e => tups_get h e
theorem flt_take {ls : List (List Nat)} {p : List Nat → Bool} {i : Nat} {l : List Nat} (h : ls[i]? = some l) : (ls.take (i + 1)).filter p = (ls.take i).filter p ++ (if p l = true then [l] else []) := by
  rw [List.take_add_one, h, List.filter_append]
  show _ ++ List.filter p [l] = _
  by_cases c : p l = true
  · rw [if_pos c, List.filter_cons_of_pos c]; rfl
  · rw [if_neg c, List.filter_cons_of_neg c]; rfl
theorem ok_p_pure_loops (T : Env K mg) : FnOk P w K mg base CX0 4 T.f_p_pure_loops T.d_p_pure_loops ["sheet"] (spPureL K) := by
  have GL : FnOk P w K mg base CX0 3 T.f_p_loops T.d_p_loops ["sheet"] (spLoops K) := ok_p_loops T
  have GI : FnOk P w K mg base CX0 2 T.f_p_is_pure T.d_p_is_pure ["sheet", "loop"] (spIsPure K) := ok_p_is_pure T
  refine T.F_p_pure_loops.ok sc_p_pure_loops (fun vs H Q E h => ?_) (fun cdv A outer s H vs Q E hr h => ?_)
  · obtain ⟨a, f, n, rfl, _⟩ := h
    rfl
  · obtain ⟨a, f, n, rfl, ha, hf, hn, q⟩ := h
    have h2 := hr.mono (show 2 ≤ 3 by decide)
    refine ⟨_, pss_one (ps_ret (pe_lc (own := [("loop", 1)]) (g := gName 1) (te := tVar 1) rfl sc_p_pure_loops.nd (pi_list (pe_call GL hr (by rfl) T.g_p_loops T.F_p_loops.kp T.b_p_loops .nil pass0 (pa_cons (pv 0) pa_nil))) (blkOk_by (N := N_p_pure_loops) (sc := defScope s_p_pure_loops) (by decide +kernel)) (fun _ _ _ _ _ => pg_name (i := 1) sc_p_pure_loops.nd rfl (.inl rfl))
      (fun _ _ _ _ _ => pts_one (pt_val (pe_call GI h2 (by rfl) T.g_p_is_pure T.F_p_is_pure.kp T.b_p_is_pure .nil pass0 (pa_cons (pv 0) (pa_cons (pv 1) pa_nil))))) (fun _ _ _ _ _ => pv 1))), ?_⟩
    refine ⟨.ref a, rfl, a, f, n, rfl, ha, hf, hn, fun H1 t as ls hL s1 nt et hT => ?_⟩
    have hbd := hL.bound
    refine ⟨t, rfl, ⟨_, .inl (.inl et)⟩, fun D nD => ?_⟩
    refine lc_list (xs := as.map V.ref) (fun i H' => Same H1 H' ∧ ∃ cs : List Addr, H' D = some (.lst (cs.map V.ref)) ∧ Tups H' cs ((ls.take i).filter (pureB f n))) ⟨same_new nD, [], upd_same, .nil⟩ (fun i H' _ h => .inl (.inl (h.1 _ _ et))) (fun i v H' hv h => ?_) (fun H' h => ?_)
    · obtain ⟨sm, cs, eD, hC⟩ := h
      rw [List.getElem?_map] at hv
      obtain ⟨u, hu', rfl⟩ := Option.map_eq_some_iff.mp hv
      obtain ⟨l, el, hu⟩ := tups_get hT hu'
      obtain ⟨b1, b2, b3⟩ := hbd.2 l (List.mem_of_getElem? el)
      refine ⟨rfl, _, rfl, _, rfl, a, u, f, l, n, rfl, (ha.same s1).same sm, hf, hn, .inl (.inl (sm _ _ hu)), b3, by omega, fun H2 s2 => ⟨_, rfl, ite2 (fun c => ?_) (fun c => ?_)⟩⟩
      · have eD2 := s2 _ _ eD
        have uD : u ≠ D := fun z => by rw [z] at hu; rw [hu] at nD; cases nD
        have hcl : cs.length ≤ n := by
          rw [hC.length]
          exact Nat.le_trans (List.length_filter_le _ _) (Nat.le_trans (List.length_take_le' _ _) hbd.1)
        refine ⟨_, rfl, _, eD2, line_big (by rw [List.length_map]; omega), fun y o hy => ?_, cs ++ [u], ?_, ?_⟩
        · rw [upd_ne (ne_of_none hy nD)]; exact s2 _ _ (sm _ _ hy)
        · rw [upd_same, List.map_append]; rfl
        · rw [flt_take el, if_pos c]
          refine tups_append (tups_keep (b := D) keep_upd eD2 (tups_same s2 hC)) (.cons ?_ .nil)
          rw [upd_ne uD]; exact s2 _ _ (sm _ _ hu)
      · refine ⟨sm.trans s2, cs, s2 _ _ eD, ?_⟩
        rw [flt_take el, if_neg c, List.append_nil]; exact tups_same s2 hC
    · obtain ⟨sm, cs, eD, hC⟩ := h
      rw [List.length_map, hT.length, List.take_length] at hC
      exact q H' D cs ls hL (s1.trans sm) (s1.free nD) eD hC
end
end Pc
namespace Pc
open PySem PySem.Spec PyProof.Rows L2 RZ
theorem dn_two {X : PyData} (h : Fi 3 X) : (PyData.list [X, X]).depth < 5 ∧ narrow (.list [X, X]) := by
  refine ⟨?_, ⟨by show 2 ≤ 100000; decide, h.nar, h.nar, trivial⟩⟩
  show PyData.depthAll [X, X] + 1 < 5
  have := all_depth (ds := [X, X]) (k := 3) (fun d hd => by
    rcases List.mem_cons.mp hd with e | hd
    · rw [e]; exact h.depth
    · rw [List.mem_singleton.mp hd]; exact h.depth)
  omega
theorem fi_tups {ls : List (List Nat)} (h : ls.length ≤ 100 ∧ ∀ l ∈ ls, l.length ≤ 100 ∧ ∀ i ∈ l, i < 2 ^ 60) : Fi 2 (.list (ls.map td)) := (fine_tds (n := 100) (m := 100) h.2 h.1 (by decide) (by decide)).mono (Nat.le_refl _) (by decide)
theorem lo_bound {f : List Nat} {n : Nat} {ls : List (List Nat)} (hn : n ≤ 60) (h : Lo f n n ls) : ls.length ≤ 100 ∧ ∀ l ∈ ls, l.length ≤ 100 ∧ ∀ i ∈ l, i < 2 ^ 60 := by
  have hb := h.bound
  exact ⟨by omega, fun l hl => by
    obtain ⟨_, b2, b3⟩ := hb.2 l hl
    exact ⟨by omega, fun i hi => by have := b3 i hi; omega⟩⟩
theorem lo_boundF {f : List Nat} {n : Nat} {ls : List (List Nat)} {p : List Nat → Bool} (hn : n ≤ 60) (h : Lo f n n ls) : (ls.filter p).length ≤ 100 ∧ ∀ l ∈ ls.filter p, l.length ≤ 100 ∧ ∀ i ∈ l, i < 2 ^ 60 := by
  have hb := lo_bound hn h
  exact ⟨Nat.le_trans (List.length_filter_le _ _) hb.1, fun l hl => hb.2 l (List.mem_filter.mp hl).1⟩
theorem keep_freeD {b p : Addr} {k : Nat} {H H' : Hp} (hk : Keep b H H') (hB : Box k H' b) (h : H' p = none) : H p = none := by
  cases e : H p with
  | none => rfl
  | some o => rw [hk p o (hB.ne_new h).symm e] at h; cases h
end Pc
namespace Pc
open PySem PySem.Spec PyProof.Rows L2 RZ
/-! ### one of some defs, called -/
def FOk (X : Cx) (CX : CXT) (f : Addr) (sp : Sp) : Prop := ∃ (k : Nat) (fd : FuncData) (ps : List Str), FnOk X.prog X.w X.K X.mg X.base CX k f fd ps sp ∧ Room k X.A ∧ PySem.W.keepIn X.K (.ref f) = true ∧ Binds X.K fd ps []
def tCallF (cs : List (Addr × Sp)) (E : L2.St → XK) (tf : TE) (t : TA) : TE := fun σ H Q => tf σ H fun v H1 => ∃ (f : Addr) (sp : Sp), (f, sp) ∈ cs ∧ v = .ref f ∧ t σ H1 fun vs H2 => sp vs H2 Q (E σ)
theorem fall_nil {X : Cx} {CX : CXT} : ∀ c ∈ ([] : List (Addr × Sp)), FOk X CX c.1 c.2 := fun _ h => absurd h List.not_mem_nil
theorem fall_cons {X : Cx} {CX : CXT} {f : Addr} {sp : Sp} {cs : List (Addr × Sp)} (h : FOk X CX f sp) (r : ∀ c ∈ cs, FOk X CX c.1 c.2) : ∀ c ∈ (f, sp) :: cs, FOk X CX c.1 c.2 := fun c hc => (List.mem_cons.mp hc).elim (fun e => by rw [e]; exact h) (r c)
theorem pe_callF {X : Cx} {CX : CXT} {cs : List (Addr × Sp)} {E : L2.St → XK} {fe e : Expr} {es : List Expr} {tf : TE} {t : TA} {pos : Pos} (hall : ∀ c ∈ cs, FOk X CX c.1 c.2) (hx : ∀ σ, PassesAt CX X σ (E σ)) (hf : PE X fe tf) (ha : PA X (e :: es) t)
    (ht : eval (.Call fe (e :: es) [] pos) X.env = (do callWith pos (← eval fe X.env) [] (backTo pos (starEach (e :: es) X.env)) (backToKw pos (keywordEach [] X.env))) := by rfl)
    (he : starEach (e :: es) X.env = (false, eval e X.env) :: starEach es X.env := by rfl) (hpl : (backTo pos (starEach es X.env)).any (·.1) = false := by rfl) : PE X (.Call fe (e :: es) [] pos) (tCallF cs E tf t) := by
  refine ⟨fun pins s σ H Q I h => ?_⟩
  refine Call_ (thn (hf.run pins s σ H _ I h) fun u s1 ⟨y, H1, I1, ry, f, sp, hm, ey, q⟩ => ?_) ht
  subst ey
  obtain rfl : u = Value.ref f := ry
  obtain ⟨k, fd, ps, F, hr, hk, hb⟩ := hall _ hm
  refine PySem.W.callWith_K (h₀ := X.base) I1.ok.mod.kin hk (thn (ha.run pos pins s1 σ H1 _ I1 q) fun us s2 ⟨vs, H2, I2, r, q2⟩ => ⟨I2.kIn, ?_⟩) he hpl
  exact run_fnS F hr hb (hx σ) I2 r q2
/-- C(e, ..), the arguments never come -/
theorem pe_callN {X : Cx} {f : Addr} {x : Str} {p pos : Pos} {e : Expr} {es : List Expr} {t : TA} (hg : Gl X x) (hm : X.mg x = some (.ref f)) (hk : PySem.W.keepIn X.K (.ref f) = true) (ha : PA X (e :: es) t) (hdb : (x == ("__debug__" : Str)) = false := by decide)
    (he : starEach (e :: es) X.env = (false, eval e X.env) :: starEach es X.env := by rfl) (hpl : (backTo pos (starEach es X.env)).any (·.1) = false := by rfl) :
    PE X (.Call (.Name x p) (e :: es) [] pos) (fun σ H _ => t σ H fun _ _ => False) := by
  refine ⟨fun pins s σ H Q I h => ?_⟩
  refine wpAny_Call_Name_kw (ld_glob I hg hm ?_ hdb)
  exact PySem.W.callWith_K (h₀ := X.base) I.ok.mod.kin hk (thn (ha.run pos pins s σ H _ I h) fun us s1 ⟨vs, H1, I1, r, q⟩ => q.elim) he hpl
end Pc
namespace Pc
/-! ### classes: how many there are, and what one more join does -/
inductive Cn (E : Nat → Nat → Prop) : Nat → Nat → Prop
  | refl (x : Nat) : Cn E x x
  | step {x y z : Nat} : Cn E x y → E y z ∨ E z y → Cn E x z
theorem Cn.trans {E : Nat → Nat → Prop} {x y z : Nat} (h : Cn E x y) (g : Cn E y z) : Cn E x z := by
  induction g with
  | refl => exact h
  | step _ e ih => exact .step ih e
theorem Cn.one {E : Nat → Nat → Prop} {x y : Nat} (h : E x y ∨ E y x) : Cn E x y := .step (.refl x) h
theorem Cn.symm {E : Nat → Nat → Prop} {x y : Nat} (h : Cn E x y) : Cn E y x := by
  induction h with
  | refl => exact .refl _
  | step _ e ih => exact (Cn.one e.symm).trans ih
theorem Cn.mono {E F : Nat → Nat → Prop} (h : ∀ x y, E x y → Cn F x y) {x y : Nat} (g : Cn E x y) : Cn F x y := by
  induction g with
  | refl => exact .refl _
  | step _ e ih => exact ih.trans (e.elim (fun z => h _ _ z) (fun z => (h _ _ z).symm))
/-- the joins with one more -/
def Ad (p q : Nat) (E : Nat → Nat → Prop) : Nat → Nat → Prop := fun x y => E x y ∨ (x = p ∧ y = q)
theorem Cn.up {E : Nat → Nat → Prop} {p q x y : Nat} (h : Cn E x y) : Cn (Ad p q E) x y := h.mono fun _ _ e => .one (.inl (.inl e))
theorem cn_ad {E : Nat → Nat → Prop} {p q x y : Nat} (h : Cn (Ad p q E) x y) : Cn E x y ∨ (Cn E x p ∧ Cn E q y) ∨ (Cn E x q ∧ Cn E p y) := by
  induction h with
  | refl => exact .inl (.refl _)
  | step _ e ih =>
    have go : ∀ {u v : Nat}, (Cn E x u ∨ (Cn E x p ∧ Cn E q u) ∨ (Cn E x q ∧ Cn E p u)) → E u v ∨ E v u → Cn E x v ∨ (Cn E x p ∧ Cn E q v) ∨ (Cn E x q ∧ Cn E p v) := fun {u v} h e => by
      rcases h with h | ⟨h1, h2⟩ | ⟨h1, h2⟩
      · exact .inl (.step h e)
      · exact .inr (.inl ⟨h1, .step h2 e⟩)
      · exact .inr (.inr ⟨h1, .step h2 e⟩)
    rcases e with (e | ⟨rfl, rfl⟩) | (e | ⟨rfl, rfl⟩)
    · exact go ih (.inl e)
    · rcases ih with h | ⟨h1, h2⟩ | ⟨h1, h2⟩
      · exact .inr (.inl ⟨h, .refl _⟩)
      · exact .inr (.inl ⟨h1, .refl _⟩)
      · exact .inl h1
    · exact go ih (.inr e)
    · rcases ih with h | ⟨h1, h2⟩ | ⟨h1, h2⟩
      · exact .inr (.inr ⟨h, .refl _⟩)
      · exact .inl h1
      · exact .inr (.inr ⟨h1, .refl _⟩)
/-- the least of its class -/
def Lst1 (E : Nat → Nat → Prop) (x : Nat) : Prop := ∀ y, y < x → ¬ Cn E y x
open Classical in
noncomputable def nc (n : Nat) (E : Nat → Nat → Prop) : Nat := ((List.range n).filter fun x => decide (Lst1 E x)).length
open Classical in
theorem nc_congr {n : Nat} {E F : Nat → Nat → Prop} (h : ∀ x y, Cn E x y ↔ Cn F x y) : nc n E = nc n F := by
  unfold nc
  congr 2
  funext x
  exact decide_eq_decide.mpr ⟨fun g y hy c => g y hy ((h y x).mpr c), fun g y hy c => g y hy ((h y x).mp c)⟩
theorem flt_len_le {p q : Nat → Bool} : ∀ (l : List Nat), (∀ x ∈ l, q x = true → p x = true) → (l.filter q).length ≤ (l.filter p).length
  | [], _ => Nat.le_refl _
  | x :: l, h => by
    have ih := flt_len_le (p := p) (q := q) l (fun y hy => h y (List.mem_cons_of_mem _ hy))
    by_cases c : q x = true
    · rw [List.filter_cons_of_pos c, List.filter_cons_of_pos (h x List.mem_cons_self c), List.length_cons, List.length_cons]; omega
    · rw [List.filter_cons_of_neg c]
      by_cases d : p x = true
      · rw [List.filter_cons_of_pos d, List.length_cons]; omega
      · rw [List.filter_cons_of_neg d]; exact ih
theorem flt_len_one {p q : Nat → Bool} : ∀ (l : List Nat), l.Nodup → (∀ x ∈ l, ∀ y ∈ l, p x = true → ¬ q x = true → p y = true → ¬ q y = true → x = y) → (l.filter p).length ≤ (l.filter q).length + 1
  | [], _, _ => Nat.zero_le _
  | x :: l, hd, h => by
    have hd' := List.nodup_cons.mp hd
    have ih := flt_len_one (p := p) (q := q) l hd'.2 (fun y hy z hz => h y (List.mem_cons_of_mem _ hy) z (List.mem_cons_of_mem _ hz))
    by_cases c : p x = true
    · by_cases d : q x = true
      · rw [List.filter_cons_of_pos c, List.filter_cons_of_pos d, List.length_cons, List.length_cons]; omega
      · have h2 := flt_len_le (p := q) (q := p) l (fun y hy py => by
          by_cases qy : q y = true
          · exact qy
          · have e := h x List.mem_cons_self y (List.mem_cons_of_mem _ hy) c d py qy
            rw [← e] at hy; exact absurd hy hd'.1)
        rw [List.filter_cons_of_pos c, List.filter_cons_of_neg d, List.length_cons]; omega
    · rw [List.filter_cons_of_neg c]
      by_cases d : q x = true
      · rw [List.filter_cons_of_pos d, List.length_cons]; omega
      · rw [List.filter_cons_of_neg d]; exact ih
theorem flt_len_lt {p q : Nat → Bool} : ∀ (l : List Nat), (∀ x ∈ l, q x = true → p x = true) → (∃ x ∈ l, p x = true ∧ ¬ q x = true) → (l.filter q).length < (l.filter p).length
  | [], _, h => by obtain ⟨x, hx, _⟩ := h; exact absurd hx List.not_mem_nil
  | x :: l, h, g => by
    have h' : ∀ y ∈ l, q y = true → p y = true := fun y hy => h y (List.mem_cons_of_mem _ hy)
    have h1 := flt_len_le (p := p) (q := q) l h'
    by_cases c : q x = true
    · obtain ⟨y, hy, py, qy⟩ := g
      have ih := flt_len_lt (p := p) (q := q) l h' ⟨y, (List.mem_cons.mp hy).resolve_left (fun e => qy (by rw [e]; exact c)), py, qy⟩
      rw [List.filter_cons_of_pos c, List.filter_cons_of_pos (h x List.mem_cons_self c), List.length_cons, List.length_cons]; omega
    · rw [List.filter_cons_of_neg c]
      by_cases d : p x = true
      · rw [List.filter_cons_of_pos d, List.length_cons]; omega
      · obtain ⟨y, hy, py, qy⟩ := g
        rw [List.filter_cons_of_neg d]
        exact flt_len_lt (p := p) (q := q) l h' ⟨y, (List.mem_cons.mp hy).resolve_left (fun e => d (by rw [← e]; exact py)), py, qy⟩
theorem lst_of_ad {E : Nat → Nat → Prop} {p q x : Nat} (h : Lst1 (Ad p q E) x) : Lst1 E x := fun y hy c => h y hy c.up
open Classical in
theorem nc_ad_le {n : Nat} {E : Nat → Nat → Prop} {p q : Nat} : nc n (Ad p q E) ≤ nc n E := flt_len_le _ fun _ _ h => decide_eq_true (lst_of_ad (of_decide_eq_true h))
theorem lst_uniq {E : Nat → Nat → Prop} {x y : Nat} (hx : Lst1 E x) (hy : Lst1 E y) (h : Cn E x y) : x = y := by
  rcases Nat.lt_trichotomy x y with c | c | c
  · exact absurd h (hy x c)
  · exact c
  · exact absurd h.symm (hx y c)
/-- who is the least no more -/
theorem lost {E : Nat → Nat → Prop} {p q x : Nat} (hx : Lst1 E x) (hn : ¬ Lst1 (Ad p q E) x) : (Cn E x q ∧ ∃ y, y < x ∧ Cn E y p) ∨ (Cn E x p ∧ ∃ y, y < x ∧ Cn E y q) := by
  obtain ⟨y, hy, c⟩ : ∃ y, y < x ∧ Cn (Ad p q E) y x := by
    rcases Classical.em (∃ y, y < x ∧ Cn (Ad p q E) y x) with h | h
    · exact h
    · exact absurd (fun y hy c => h ⟨y, hy, c⟩) hn
  rcases cn_ad c with h | ⟨h1, h2⟩ | ⟨h1, h2⟩
  · exact absurd h (hx y hy)
  · exact .inl ⟨h2.symm, y, hy, h1⟩
  · exact .inr ⟨h2.symm, y, hy, h1⟩
open Classical in
theorem nc_le_ad {n : Nat} {E : Nat → Nat → Prop} {p q : Nat} : nc n E ≤ nc n (Ad p q E) + 1 := by
  refine flt_len_one _ List.nodup_range fun x _ y _ hx' nx' hy' ny' => ?_
  have hx := of_decide_eq_true hx'
  have hy := of_decide_eq_true hy'
  have nx : ¬ Lst1 (Ad p q E) x := fun z => nx' (decide_eq_true z)
  have ny : ¬ Lst1 (Ad p q E) y := fun z => ny' (decide_eq_true z)
  rcases lost hx nx with ⟨h1, z, hz, h2⟩ | ⟨h1, z, hz, h2⟩ <;> rcases lost hy ny with ⟨g1, w, hw, g2⟩ | ⟨g1, w, hw, g2⟩
  · exact lst_uniq hx hy (h1.trans g1.symm)
  · -- x is the least of q's class, y of p's
    have a1 : ¬ z < y := fun c => hy z c (h2.trans g1.symm)
    have a2 : ¬ w < x := fun c => hx w c (g2.trans h1.symm)
    omega
  · have a1 : ¬ z < y := fun c => hy z c (h2.trans g1.symm)
    have a2 : ¬ w < x := fun c => hx w c (g2.trans h1.symm)
    omega
  · exact lst_uniq hx hy (h1.trans g1.symm)
theorem nc_ad_eq {n : Nat} {E : Nat → Nat → Prop} {p q : Nat} (h : Cn E p q) : nc n (Ad p q E) = nc n E :=
  nc_congr fun x y => ⟨fun c => by
    rcases cn_ad c with c | ⟨h1, h2⟩ | ⟨h1, h2⟩
    · exact c
    · exact (h1.trans h).trans h2
    · exact (h1.trans h.symm).trans h2, fun c => c.up⟩
open Classical in
theorem least_of {E : Nat → Nat → Prop} : ∀ (p : Nat), ∃ x, x ≤ p ∧ Cn E x p ∧ Lst1 E x
  | p => by
    by_cases h : Lst1 E p
    · exact ⟨p, Nat.le_refl _, .refl _, h⟩
    · obtain ⟨y, hy, c⟩ : ∃ y, y < p ∧ Cn E y p := by
        rcases Classical.em (∃ y, y < p ∧ Cn E y p) with g | g
        · exact g
        · exact absurd (fun y hy c => g ⟨y, hy, c⟩) h
      obtain ⟨x, h1, h2, h3⟩ := least_of (E := E) y
      exact ⟨x, by omega, h2.trans c, h3⟩
open Classical in
theorem nc_ad_lt {n : Nat} {E : Nat → Nat → Prop} {p q : Nat} (hp : p < n) (hq : q < n) (h : ¬ Cn E p q) : nc n (Ad p q E) + 1 = nc n E := by
  have h1 := nc_le_ad (n := n) (E := E) (p := p) (q := q)
  have h2 : nc n (Ad p q E) < nc n E := by
    refine flt_len_lt _ (fun _ _ h => decide_eq_true (lst_of_ad (of_decide_eq_true h))) ?_
    obtain ⟨x, x1, x2, x3⟩ := least_of (E := E) p
    obtain ⟨y, y1, y2, y3⟩ := least_of (E := E) q
    have e : Cn (Ad p q E) p q := .one (.inl (.inr ⟨rfl, rfl⟩))
    rcases Nat.lt_trichotomy x y with c | c | c
    · exact ⟨y, List.mem_range.mpr (by omega), decide_eq_true y3, fun g => of_decide_eq_true g x c ((x2.up.trans e).trans y2.up.symm)⟩
    · rw [c] at x2; exact absurd (x2.symm.trans y2) h
    · exact ⟨x, List.mem_range.mpr (by omega), decide_eq_true x3, fun g => of_decide_eq_true g y c ((y2.up.trans e.symm).trans x2.up.symm)⟩
  omega
/-- an involution without a fixed point: an even number -/
theorem even_inv {f : Nat → Nat} : ∀ (k : Nat) (l : List Nat), l.length = k → l.Nodup → (∀ z ∈ l, f z ∈ l ∧ f z ≠ z ∧ f (f z) = z) → k % 2 = 0
  | 0, _, _, _, _ => rfl
  | 1, l, hl, hd, h => by
    obtain ⟨x, rfl⟩ := List.length_eq_one_iff.mp hl
    have := h x List.mem_cons_self
    exact absurd (List.mem_singleton.mp this.1) this.2.1
  | k + 2, l, hl, hd, h => by
    obtain ⟨x, r, rfl⟩ : ∃ x r, l = x :: r := by
      cases l with
      | nil => cases hl
      | cons x r => exact ⟨x, r, rfl⟩
    obtain ⟨x1, x2, x3⟩ := h x List.mem_cons_self
    have hd' := List.nodup_cons.mp hd
    have xr : f x ∈ r := (List.mem_cons.mp x1).resolve_left x2
    have ih := even_inv (f := f) k (r.erase (f x)) (by rw [List.length_erase_of_mem xr]; rw [List.length_cons] at hl; omega) (hd'.2.erase _) (fun z hz => by
      obtain ⟨z1, z2⟩ := (hd'.2.mem_erase_iff).mp hz
      obtain ⟨y1, y2, y3⟩ := h z (List.mem_cons_of_mem _ z2)
      refine ⟨(hd'.2.mem_erase_iff).mpr ⟨fun e => ?_, (List.mem_cons.mp y1).resolve_left (fun e => ?_)⟩, y2, y3⟩
      · have : z = x := by rw [← y3, e, x3]
        exact hd'.1 (by rw [← this]; exact z2)
      · exact z1 (by rw [← y3, e]))
    omega
end Pc
namespace Pc
/-! ### cycles are classes; a call changes their number by one at most -/
def ed (n : Nat) (a b : List Nat) : Nat → Nat → Prop := fun x y => x < n ∧ (y = a.getD x 0 ∨ y = b.getD x 0)
theorem LapEnd.cn {a b : List Nat} {n i : Nat} (ha : IsPair n a) (hb : IsPair n b) {l r : List Nat} {z : Nat} (h : LapEnd a b l z r) : LpI a b n i l z → Cn (ed n a b) i z → (∀ y ∈ l, Cn (ed n a b) i y) → ∀ y ∈ r, Cn (ed n a b) i y := by
  induction h with
  | stop _ => intro _ _ h; exact h
  | @go l' r' z' hz _ ih =>
    intro hi hc hl
    obtain ⟨a1, _, _, _⟩ := ha.d hi.zl
    have c1 : Cn (ed n a b) i (a.getD z' 0) := .step hc (.inl ⟨hi.zl, .inl rfl⟩)
    refine ih (hi.step ha hb hz) (.step c1 (.inl ⟨a1, .inr rfl⟩)) fun y hy => ?_
    rcases List.mem_append.mp hy with hy | hy
    · exact hl y hy
    · rcases List.mem_cons.mp hy with e | hy
      · rw [e]; exact hc
      · rw [List.mem_singleton.mp hy]; exact c1
theorem cn_in {a b : List Nat} {n i : Nat} {r : List Nat} (ha : IsPair n a) (hb : IsPair n b) (hi : i ∈ r) (ca : ∀ y ∈ r, a.getD y 0 ∈ r) (cb : ∀ y ∈ r, b.getD y 0 ∈ r) {y : Nat} (h : Cn (ed n a b) i y) : y ∈ r := by
  induction h with
  | refl => exact hi
  | step _ e ih =>
    rcases e with ⟨_, e | e⟩ | ⟨hz, e | e⟩
    · rw [e]; exact ca _ ih
    · rw [e]; exact cb _ ih
    · have := ca _ ih; rw [e, (ha.d hz).2.2.1] at this; exact this
    · have := cb _ ih; rw [e, (hb.d hz).2.2.1] at this; exact this
theorem lap_cn {a b : List Nat} {n i : Nat} (ha : IsPair n a) (hb : IsPair n b) (hi : i < n) {r : List Nat} (h : LapEnd a b [] i r) (y : Nat) : y ∈ r ↔ Cn (ed n a b) i y := by
  have s0 : LpI a b n i [] i := LpI.start hi
  obtain ⟨h1, h2⟩ := h.lap ha hb s0
  exact ⟨h.cn ha hb s0 (.refl _) (fun _ h => absurd h List.not_mem_nil) y, cn_in ha hb h2 h1.ca (h1.closed hb h2)⟩
theorem flt_pos {p : Nat → Bool} {i : Nat} (h : p i = true) : ((List.range (i + 1)).filter p).length = ((List.range i).filter p).length + 1 := by
  rw [List.range_succ, List.filter_append, List.filter_cons_of_pos h, List.filter_nil, List.length_append]; rfl
theorem flt_neg {p : Nat → Bool} {i : Nat} (h : p i = false) : ((List.range (i + 1)).filter p).length = ((List.range i).filter p).length := by
  rw [List.range_succ, List.filter_append, List.filter_cons_of_neg (by rw [h]; exact Bool.false_ne_true), List.filter_nil, List.append_nil]
open Classical in
theorem Rn.count {a b : List Nat} {n : Nat} (ha : IsPair n a) (hb : IsPair n b) {i : Nat} {ls : List (List Nat)} (h : Rn a b i ls) : i ≤ n → (∀ y, y ∈ ls.flatten ↔ ∃ j, j < i ∧ Cn (ed n a b) j y) ∧ ls.length = ((List.range i).filter fun x => decide (Lst1 (ed n a b) x)).length := by
  induction h with
  | zero => intro _; exact ⟨fun y => ⟨fun h => absurd h List.not_mem_nil, fun ⟨j, hj, _⟩ => absurd hj (Nat.not_lt_zero _)⟩, rfl⟩
  | @skip i ls _ hm ih =>
    intro hi
    obtain ⟨h1, h2⟩ := ih (by omega)
    obtain ⟨j0, hj0, c0⟩ := (h1 i).mp hm
    refine ⟨fun y => ⟨fun h => by obtain ⟨j, hj, c⟩ := (h1 y).mp h; exact ⟨j, by omega, c⟩, fun ⟨j, hj, c⟩ => ?_⟩, ?_⟩
    · by_cases e : j = i
      · exact (h1 y).mpr ⟨j0, hj0, c0.trans (by rw [← e]; exact c)⟩
      · exact (h1 y).mpr ⟨j, by omega, c⟩
    · rw [h2]; exact (flt_neg (p := fun x => decide (Lst1 (ed n a b) x)) (decide_eq_false (fun z => z j0 hj0 c0))).symm
  | @new i ls r _ hn he ih =>
    intro hi
    obtain ⟨h1, h2⟩ := ih (by omega)
    have hl := lap_cn ha hb (show i < n by omega) he
    have hL : Lst1 (ed n a b) i := fun y hy c => hn ((h1 i).mpr ⟨y, hy, c⟩)
    refine ⟨fun y => ?_, ?_⟩
    · rw [flat_snoc, List.mem_append, h1 y, hl y]
      exact ⟨fun h => by
        rcases h with ⟨j, hj, c⟩ | c
        · exact ⟨j, by omega, c⟩
        · exact ⟨i, by omega, c⟩, fun ⟨j, hj, c⟩ => by
        by_cases e : j = i
        · rw [e] at c; exact .inr c
        · exact .inl ⟨j, by omega, c⟩⟩
    · rw [List.length_append, h2]; exact (flt_pos (p := fun x => decide (Lst1 (ed n a b) x)) (decide_eq_true hL)).symm
theorem Rn.nc {a b : List Nat} {n : Nat} (ha : IsPair n a) (hb : IsPair n b) {ls : List (List Nat)} (h : Rn a b n ls) : ls.length = nc n (ed n a b) := (h.count ha hb (Nat.le_refl _)).2
/-- the joins but for those of four people in the first pairing -/
def e0 (n : Nat) (a b : List Nat) (x u y v : Nat) : Nat → Nat → Prop := fun p q => p < n ∧ (q = b.getD p 0 ∨ (q = a.getD p 0 ∧ p ≠ x ∧ p ≠ u ∧ p ≠ y ∧ p ≠ v))
theorem cn_lt {n : Nat} {a b : List Nat} {x u y v w z : Nat} (ha : IsPair n a) (hb : IsPair n b) (hw : w < n) (h : Cn (e0 n a b x u y v) w z) : z < n := by
  induction h with
  | refl => exact hw
  | step _ e ih =>
    rcases e with ⟨_, e | ⟨e, _⟩⟩ | ⟨h1, _⟩
    · rw [e]; exact (hb.d ih).1
    · rw [e]; exact (ha.d ih).1
    · exact h1
open Classical in
/-- one of the four is never alone -/
theorem not_alone {n : Nat} {a b : List Nat} {x u y v w : Nat} (ha : IsPair n a) (hb : IsPair n b) (hx : x < n) (hy : y < n) (hu : u = a.getD x 0) (hv : v = a.getD y 0) (hw : w = x ∨ w = u ∨ w = y ∨ w = v) :
    ∃ w', (w' = x ∨ w' = u ∨ w' = y ∨ w' = v) ∧ w' ≠ w ∧ Cn (e0 n a b x u y v) w w' := by
  have dx := ha.d hx
  have dy := ha.d hy
  have hwn : w < n := by rcases hw with e | e | e | e <;> rw [e]; exact hx; rw [hu]; exact dx.1; exact hy; rw [hv]; exact dy.1
  rcases Classical.em (∃ w', (w' = x ∨ w' = u ∨ w' = y ∨ w' = v) ∧ w' ≠ w ∧ Cn (e0 n a b x u y v) w w') with h | h
  · exact h
  exfalso
  have hno : ∀ w', (w' = x ∨ w' = u ∨ w' = y ∨ w' = v) → w' ≠ w → ¬ Cn (e0 n a b x u y v) w w' := fun w' h1 h2 h3 => h ⟨w', h1, h2, h3⟩
  obtain ⟨S, hS⟩ : ∃ S, S = (List.range n).filter fun z => decide (Cn (e0 n a b x u y v) w z) := ⟨_, rfl⟩
  have nd : S.Nodup := by rw [hS]; exact List.nodup_range.filter _
  have mem : ∀ z, z ∈ S ↔ Cn (e0 n a b x u y v) w z := fun z => by
    rw [hS, List.mem_filter, List.mem_range, decide_eq_true_iff]
    exact ⟨fun h => h.2, fun h => ⟨cn_lt ha hb hwn h, h⟩⟩
  have ev := even_inv (f := fun z => b.getD z 0) S.length S rfl nd (fun z hz => by
    have hzn := cn_lt ha hb hwn ((mem z).mp hz)
    obtain ⟨b1, b2, b3, _⟩ := hb.d hzn
    exact ⟨(mem _).mpr (.step ((mem z).mp hz) (.inl ⟨hzn, .inl rfl⟩)), b2, b3⟩)
  have wS : w ∈ S := (mem w).mpr (.refl _)
  have od := even_inv (f := fun z => a.getD z 0) (S.erase w).length (S.erase w) rfl (nd.erase _) (fun z hz => by
    obtain ⟨z1, z2⟩ := (nd.mem_erase_iff).mp hz
    have hc := (mem z).mp z2
    have hzn := cn_lt ha hb hwn hc
    obtain ⟨a1, a2, a3, _⟩ := ha.d hzn
    have zx : z ≠ x := fun e => hno z (.inl e) z1 hc
    have zu : z ≠ u := fun e => hno z (.inr (.inl e)) z1 hc
    have zy : z ≠ y := fun e => hno z (.inr (.inr (.inl e))) z1 hc
    have zv : z ≠ v := fun e => hno z (.inr (.inr (.inr e))) z1 hc
    refine ⟨(nd.mem_erase_iff).mpr ⟨fun e => ?_, (mem _).mpr (.step hc (.inl ⟨hzn, .inr ⟨rfl, zx, zu, zy, zv⟩⟩))⟩, a2, a3⟩
    have e' : z = a.getD w 0 := by rw [← a3]; exact congrArg (fun t => a.getD t 0) e
    rcases hw with w1 | w1 | w1 | w1
    · exact zu (by rw [e', w1, hu])
    · exact zx (by rw [e', w1, hu, dx.2.2.1])
    · exact zv (by rw [e', w1, hv])
    · exact zy (by rw [e', w1, hv, dy.2.2.1]))
  rw [List.length_erase_of_mem wS] at od
  have := List.length_pos_of_mem wS
  omega
theorem four_bound {n : Nat} {E : Nat → Nat → Prop} {p q r s : Nat} (h : ∀ w, (w = p ∨ w = q ∨ w = r ∨ w = s) → ∃ w', (w' = p ∨ w' = q ∨ w' = r ∨ w' = s) ∧ w' ≠ w ∧ Cn E w w') : nc n E ≤ nc n (Ad p q (Ad r s E)) + 1 := by
  have key : Cn E r s ∨ Cn (Ad r s E) p q := by
    have rs : Cn (Ad r s E) r s := .one (.inl (.inr ⟨rfl, rfl⟩))
    obtain ⟨w, hw, nw, c⟩ := h r (.inr (.inr (.inl rfl)))
    rcases hw with e | e | e | e
    · rw [e] at c
      obtain ⟨w', hw', nw', c'⟩ := h q (.inr (.inl rfl))
      rcases hw' with e' | e' | e' | e'
      · rw [e'] at c'; exact .inr c'.symm.up
      · exact absurd e' nw'
      · rw [e'] at c'; exact .inr (c'.trans c).symm.up
      · rw [e'] at c'; exact .inr ((c.symm.up.trans rs).trans c'.symm.up)
    · rw [e] at c
      obtain ⟨w', hw', nw', c'⟩ := h p (.inl rfl)
      rcases hw' with e' | e' | e' | e'
      · exact absurd e' nw'
      · rw [e'] at c'; exact .inr c'.up
      · rw [e'] at c'; exact .inr (c'.trans c).up
      · rw [e'] at c'; exact .inr ((c'.up.trans rs.symm).trans c.up)
    · exact absurd e nw
    · rw [e] at c; exact .inl c
  rcases key with k | k
  · have h1 := nc_ad_eq (n := n) k
    have h2 := nc_le_ad (n := n) (E := Ad r s E) (p := p) (q := q)
    omega
  · have h1 := nc_ad_eq (n := n) k
    have h2 := nc_le_ad (n := n) (E := E) (p := r) (q := s)
    omega
theorem nc_ad2_le {n : Nat} {E : Nat → Nat → Prop} {p q r s : Nat} : nc n (Ad p q (Ad r s E)) ≤ nc n E := Nat.le_trans nc_ad_le nc_ad_le
/-- one pairing from another by a call of x and y -/
structure Cald (n : Nat) (a a' : List Nat) (x y : Nat) : Prop where
  hx : x < n
  hy : y < n
  xy : x ≠ y
  uy : a.getD x 0 ≠ y
  tx : a'.getD x 0 = y
  ty : a'.getD y 0 = x
  tu : a'.getD (a.getD x 0) 0 = a.getD y 0
  tv : a'.getD (a.getD y 0) 0 = a.getD x 0
  el : ∀ z, z < n → z ≠ x → z ≠ a.getD x 0 → z ≠ y → z ≠ a.getD y 0 → a'.getD z 0 = a.getD z 0
theorem ed_old {n : Nat} {a b : List Nat} {x y : Nat} (ha : IsPair n a) (hx : x < n) (hy : y < n) (p q : Nat) : Cn (ed n a b) p q ↔ Cn (Ad x (a.getD x 0) (Ad y (a.getD y 0) (e0 n a b x (a.getD x 0) y (a.getD y 0)))) p q := by
  have dx := ha.d hx
  have dy := ha.d hy
  have ex : Cn (Ad x (a.getD x 0) (Ad y (a.getD y 0) (e0 n a b x (a.getD x 0) y (a.getD y 0)))) x (a.getD x 0) := .one (.inl (.inr ⟨rfl, rfl⟩))
  have ey : Cn (Ad x (a.getD x 0) (Ad y (a.getD y 0) (e0 n a b x (a.getD x 0) y (a.getD y 0)))) y (a.getD y 0) := .one (.inl (.inl (.inr ⟨rfl, rfl⟩)))
  constructor
  · exact Cn.mono fun s t ⟨hs, h⟩ => by
      rcases h with h | h
      · by_cases c1 : s = x
        · rw [h, c1]; exact ex
        · by_cases c2 : s = a.getD x 0
          · rw [h, c2, dx.2.2.1]; exact ex.symm
          · by_cases c3 : s = y
            · rw [h, c3]; exact ey
            · by_cases c4 : s = a.getD y 0
              · rw [h, c4, dy.2.2.1]; exact ey.symm
              · exact .one (.inl (.inl (.inl ⟨hs, .inr ⟨h, c1, c2, c3, c4⟩⟩)))
      · exact .one (.inl (.inl (.inl ⟨hs, .inl h⟩)))
  · exact Cn.mono fun s t h => by
      rcases h with (⟨hs, h | ⟨h, _⟩⟩ | ⟨h1, h2⟩) | ⟨h1, h2⟩
      · exact .one (.inl ⟨hs, .inr h⟩)
      · exact .one (.inl ⟨hs, .inl h⟩)
      · rw [h1, h2]; exact .one (.inl ⟨hy, .inl rfl⟩)
      · rw [h1, h2]; exact .one (.inl ⟨hx, .inl rfl⟩)
theorem ed_new {n : Nat} {a a' b : List Nat} {x y : Nat} (ha : IsPair n a) (h : Cald n a a' x y) (p q : Nat) : Cn (ed n a' b) p q ↔ Cn (Ad x y (Ad (a.getD x 0) (a.getD y 0) (e0 n a b x (a.getD x 0) y (a.getD y 0)))) p q := by
  have dx := ha.d h.hx
  have dy := ha.d h.hy
  have ex : Cn (Ad x y (Ad (a.getD x 0) (a.getD y 0) (e0 n a b x (a.getD x 0) y (a.getD y 0)))) x y := .one (.inl (.inr ⟨rfl, rfl⟩))
  have ey : Cn (Ad x y (Ad (a.getD x 0) (a.getD y 0) (e0 n a b x (a.getD x 0) y (a.getD y 0)))) (a.getD x 0) (a.getD y 0) := .one (.inl (.inl (.inr ⟨rfl, rfl⟩)))
  constructor
  · exact Cn.mono fun s t ⟨hs, g⟩ => by
      rcases g with g | g
      · by_cases c1 : s = x
        · rw [g, c1, h.tx]; exact ex
        · by_cases c2 : s = a.getD x 0
          · rw [g, c2, h.tu]; exact ey
          · by_cases c3 : s = y
            · rw [g, c3, h.ty]; exact ex.symm
            · by_cases c4 : s = a.getD y 0
              · rw [g, c4, h.tv]; exact ey.symm
              · exact .one (.inl (.inl (.inl ⟨hs, .inr ⟨by rw [g, h.el s hs c1 c2 c3 c4], c1, c2, c3, c4⟩⟩)))
      · exact .one (.inl (.inl (.inl ⟨hs, .inl g⟩)))
  · exact Cn.mono fun s t g => by
      rcases g with (⟨hs, g | ⟨g, c1, c2, c3, c4⟩⟩ | ⟨h1, h2⟩) | ⟨h1, h2⟩
      · exact .one (.inl ⟨hs, .inr g⟩)
      · exact .one (.inl ⟨hs, .inl (by rw [g, h.el s hs c1 c2 c3 c4])⟩)
      · rw [h1, h2]; exact .one (.inl ⟨dx.1, .inl h.tu.symm⟩)
      · rw [h1, h2]; exact .one (.inl ⟨h.hx, .inl h.tx.symm⟩)
/-- a call changes the number of classes by one at most -/
theorem call_nc {n : Nat} {a a' b : List Nat} {x y : Nat} (ha : IsPair n a) (hb : IsPair n b) (h : Cald n a a' x y) : nc n (ed n a b) ≤ nc n (ed n a' b) + 1 ∧ nc n (ed n a' b) ≤ nc n (ed n a b) + 1 := by
  rw [nc_congr (ed_old ha h.hx h.hy), nc_congr (ed_new ha h)]
  have four := fun w hw => not_alone (w := w) ha hb h.hx h.hy rfl rfl hw
  have h1 := four_bound (n := n) (E := e0 n a b x (a.getD x 0) y (a.getD y 0)) (p := x) (q := a.getD x 0) (r := y) (s := a.getD y 0) four
  have h2 := four_bound (n := n) (E := e0 n a b x (a.getD x 0) y (a.getD y 0)) (p := x) (q := y) (r := a.getD x 0) (s := a.getD y 0) (fun w hw => by
    obtain ⟨w', g1, g2, g3⟩ := four w (by rcases hw with e | e | e | e; exact .inl e; exact .inr (.inr (.inl e)); exact .inr (.inl e); exact .inr (.inr (.inr e)))
    exact ⟨w', by rcases g1 with e | e | e | e; exact .inl e; exact .inr (.inr (.inl e)); exact .inr (.inl e); exact .inr (.inr (.inr e)), g2, g3⟩)
  have h3 := nc_ad2_le (n := n) (E := e0 n a b x (a.getD x 0) y (a.getD y 0)) (p := x) (q := a.getD x 0) (r := y) (s := a.getD y 0)
  have h4 := nc_ad2_le (n := n) (E := e0 n a b x (a.getD x 0) y (a.getD y 0)) (p := x) (q := y) (r := a.getD x 0) (s := a.getD y 0)
  omega
end Pc
namespace Pc
/-! ### loops are classes of ends; one call more costs one more at most -/
theorem nd_sub : ∀ (l m : List Nat), l.Nodup → (∀ y ∈ l, y ∈ m) → l.length ≤ m.length
  | [], _, _, _ => Nat.zero_le _
  | x :: l, m, hd, h => by
    have hd' := List.nodup_cons.mp hd
    have h1 := nd_sub l (m.erase x) hd'.2 (fun y hy => (List.mem_erase_of_ne (fun e => hd'.1 (by rw [← e]; exact hy))).mpr (h y (List.mem_cons_of_mem _ hy)))
    have h2 := h x List.mem_cons_self
    rw [List.length_erase_of_mem h2] at h1
    have := List.length_pos_of_mem h2
    rw [List.length_cons]; omega
open Classical in
noncomputable def cnt (n : Nat) (p : Nat → Prop) : Nat := ((List.range n).filter fun x => decide (p x)).length
open Classical in
theorem cnt_pos {p : Nat → Prop} {i : Nat} (h : p i) : cnt (i + 1) p = cnt i p + 1 := flt_pos (p := fun x => decide (p x)) (decide_eq_true h)
open Classical in
theorem cnt_neg {p : Nat → Prop} {i : Nat} (h : ¬ p i) : cnt (i + 1) p = cnt i p := flt_neg (p := fun x => decide (p x)) (decide_eq_false h)
open Classical in
theorem cnt_le {p q : Nat → Prop} {n : Nat} (h : ∀ x, x < n → q x → p x) : cnt n q ≤ cnt n p :=
  flt_len_le (p := fun x => decide (p x)) (q := fun x => decide (q x)) _ fun x hx c => decide_eq_true (h x (List.mem_range.mp hx) (of_decide_eq_true c))
open Classical in
theorem cnt_one {p q : Nat → Prop} {n : Nat} (h : ∀ x y, x < n → y < n → p x → ¬ q x → p y → ¬ q y → x = y) : cnt n p ≤ cnt n q + 1 :=
  flt_len_one (p := fun x => decide (p x)) (q := fun x => decide (q x)) _ List.nodup_range fun x hx y hy a b c d =>
    h x y (List.mem_range.mp hx) (List.mem_range.mp hy) (of_decide_eq_true a) (fun z => b (decide_eq_true z)) (of_decide_eq_true c) (fun z => d (decide_eq_true z))
open Classical in
theorem cnt_lt {p q : Nat → Prop} {n : Nat} (h : ∀ x, x < n → q x → p x) (g : ∃ x, x < n ∧ p x ∧ ¬ q x) : cnt n q < cnt n p :=
  flt_len_lt (p := fun x => decide (p x)) (q := fun x => decide (q x)) _ (fun x hx c => decide_eq_true (h x (List.mem_range.mp hx) (of_decide_eq_true c))) (by
    obtain ⟨x, h1, h2, h3⟩ := g
    exact ⟨x, List.mem_range.mpr h1, decide_eq_true h2, fun c => h3 (of_decide_eq_true c)⟩)
theorem cnt_none {p : Nat → Prop} : ∀ {n : Nat}, (∀ x, x < n → ¬ p x) → cnt n p = 0
  | 0, _ => rfl
  | n + 1, h => by rw [cnt_neg (h n (by omega))]; exact cnt_none fun x hx => h x (by omega)
theorem cnt_ne {p : Nat → Prop} {n : Nat} (h : ∃ x, x < n ∧ p x) : cnt n p ≠ 0 := by
  obtain ⟨x, h1, h2⟩ := h
  have := cnt_lt (n := n) (p := p) (q := fun _ => False) (fun _ _ z => z.elim) ⟨x, h1, h2, id⟩
  omega
theorem cnt_all {p : Nat → Prop} : ∀ {n : Nat}, (∀ x, x < n → p x) → cnt n p = n
  | 0, _ => rfl
  | n + 1, h => by rw [cnt_pos (h n (by omega)), cnt_all fun x hx => h x (by omega)]
theorem cnt_more {p : Nat → Prop} {n : Nat} : ∀ (m : Nat), (∀ x, n ≤ x → x < n + m → ¬ p x) → cnt (n + m) p = cnt n p
  | 0, _ => rfl
  | m + 1, h => by
    have h1 : cnt (n + m + 1) p = cnt (n + m) p := cnt_neg (h (n + m) (by omega) (by omega))
    rw [show n + (m + 1) = n + m + 1 by omega, h1]; exact cnt_more m fun x a b => h x a (by omega)
/-- the joins and ties of the ends -/
abbrev eL (n : Nat) (f : List Nat) : Nat → Nat → Prop := ed (2 * n) f (emp n)
theorem eL_lt {n : Nat} {f : List Nat} {x y : Nat} (hf : IsPair (2 * n) f) (hx : x < 2 * n) (h : Cn (eL n f) x y) : y < 2 * n := by
  induction h with
  | refl => exact hx
  | step _ e ih =>
    rcases e with ⟨_, e | e⟩ | ⟨h1, _⟩
    · rw [e]; exact (hf.d ih).1
    · rw [e, oth_emp ih]; exact oth_lt ih
    · exact h1
theorem eL_tie {n : Nat} {f : List Nat} {x : Nat} (hx : x < 2 * n) : Cn (eL n f) x (oth n x) := .one (.inl ⟨hx, .inr (oth_emp hx).symm⟩)
theorem eL_f {n : Nat} {f : List Nat} {x : Nat} (hx : x < 2 * n) : Cn (eL n f) x (f.getD x 0) := .one (.inl ⟨hx, .inl rfl⟩)
theorem eL_mod {n : Nat} {f : List Nat} {x : Nat} (hx : x < 2 * n) : Cn (eL n f) x (x % n) := by
  by_cases c : x < n
  · rw [Nat.mod_eq_of_lt c]; exact .refl _
  · have : x % n = oth n x := by unfold oth; rw [if_neg c, Nat.mod_eq_sub_mod (by omega), Nat.mod_eq_of_lt (by omega)]
    rw [this]; exact eL_tie hx
open Classical in
theorem loop_cn {n x : Nat} {f ps : List Nat} (hf : IsPair (2 * n) f) (hx : x < n) (hL : LoopL f n x ps) (p : Nat) : p ∈ ps ↔ p < n ∧ Cn (eL n f) x p := by
  constructor
  · intro hp
    have h := hL.mn ((List.range n).filter fun p => decide (Cn (eL n f) x p)) (List.mem_filter.mpr ⟨List.mem_range.mpr hx, decide_eq_true (.refl _)⟩) (fun q hq => by
      obtain ⟨h1, h2⟩ := List.mem_filter.mp hq
      have hqn := List.mem_range.mp h1
      have hc : Cn (eL n f) x q := of_decide_eq_true h2
      refine ⟨List.mem_filter.mpr ⟨List.mem_range.mpr (Nat.mod_lt _ (by omega)), decide_eq_true ?_⟩, List.mem_filter.mpr ⟨List.mem_range.mpr (Nat.mod_lt _ (by omega)), decide_eq_true ?_⟩⟩
      · exact (hc.trans (eL_f (by omega))).trans (eL_mod (hf.d (by omega)).1)
      · have h3 : Cn (eL n f) q (n + q) := by
          have := eL_tie (f := f) (show q < 2 * n by omega)
          unfold oth at this; rw [if_pos hqn, Nat.add_comm] at this; exact this
        exact ((hc.trans h3).trans (eL_f (by omega))).trans (eL_mod (hf.d (by omega)).1)) p hp
    obtain ⟨h1, h2⟩ := List.mem_filter.mp h
    exact ⟨List.mem_range.mp h1, of_decide_eq_true h2⟩
  · intro ⟨hp, hc⟩
    have go : ∀ z, Cn (eL n f) x z → z < 2 * n ∧ z % n ∈ ps := fun z hz => by
      induction hz with
      | refl => exact ⟨by omega, by rw [Nat.mod_eq_of_lt hx]; exact hL.mem⟩
      | @step y z _ e ih =>
        obtain ⟨i1, i2⟩ := ih
        have st : ∀ {u v : Nat}, u < 2 * n → u % n ∈ ps → v = f.getD u 0 → v % n ∈ ps := fun {u v} hu hm ev => by
          rw [ev, end_of hu]
          split
          · exact (hL.cl _ hm).1
          · exact (hL.cl _ hm).2
        rcases e with ⟨_, e | e⟩ | ⟨h1, e | e⟩
        · exact ⟨by rw [e]; exact (hf.d i1).1, st i1 i2 e⟩
        · rw [e, oth_emp i1]; exact ⟨oth_lt i1, by rw [oth_mod i1]; exact i2⟩
        · exact ⟨h1, st i1 i2 (by rw [e, (hf.d h1).2.2.1])⟩
        · rw [oth_emp h1] at e
          exact ⟨h1, by rw [e, oth_mod h1] at i2; exact i2⟩
    have := (go p hc).2
    rwa [Nat.mod_eq_of_lt hp] at this
/-- the class of x is pure -/
def Pu (n : Nat) (f : List Nat) (x : Nat) : Prop := (∃ p, p < n ∧ p ≠ x ∧ Cn (eL n f) x p) ∧ ∀ p, p < n → Cn (eL n f) x p → n ≤ f.getD p 0
noncomputable def LL (n : Nat) (f : List Nat) : Nat := cnt n (Lst1 (eL n f))
noncomputable def PP (n : Nat) (f : List Nat) : Nat := cnt n fun x => Lst1 (eL n f) x ∧ Pu n f x
theorem pureB_iff {n x : Nat} {f ps t : List Nat} (hf : IsPair (2 * n) f) (hx : x < n) (hL : LoopL f n x ps) (ht : t.Perm ps) : pureB f n t = true ↔ Pu n f x := by
  have hm : ∀ p, p ∈ t ↔ p < n ∧ Cn (eL n f) x p := fun p => ht.mem_iff.trans (loop_cn hf hx hL p)
  have hnd : t.Nodup := ht.nodup_iff.mpr hL.nd
  have hxt : x ∈ t := ht.mem_iff.mpr hL.mem
  unfold pureB
  rw [Bool.and_eq_true, decide_eq_true_iff, List.all_eq_true]
  refine and_congr ⟨fun h => ?_, fun h => ?_⟩ ⟨fun h p hp hc => of_decide_eq_true (h p ((hm p).mpr ⟨hp, hc⟩)), fun h p hp => decide_eq_true (h p ((hm p).mp hp).1 ((hm p).mp hp).2)⟩
  · have h1 : (t.erase x).length = t.length - 1 := List.length_erase_of_mem hxt
    have h2 : 0 < (t.erase x).length := by omega
    obtain ⟨p, hp⟩ := List.exists_mem_of_length_pos h2
    obtain ⟨p1, p2⟩ := (hnd.mem_erase_iff).mp hp
    exact ⟨p, ((hm p).mp p2).1, p1, ((hm p).mp p2).2⟩
  · obtain ⟨p, h1, h2, h3⟩ := h
    have h4 : p ∈ t.erase x := (hnd.mem_erase_iff).mpr ⟨h2, (hm p).mpr ⟨h1, h3⟩⟩
    have h5 := List.length_pos_of_mem h4
    rw [List.length_erase_of_mem hxt] at h5; omega
theorem Lo.count {n : Nat} {f : List Nat} (hf : IsPair (2 * n) f) {i : Nat} {ls : List (List Nat)} (h : Lo f n i ls) : i ≤ n → (∀ y, y ∈ ls.flatten ↔ y < n ∧ ∃ j, j < i ∧ Cn (eL n f) j y) ∧ ls.length = cnt i (Lst1 (eL n f)) ∧ (ls.filter (pureB f n)).length = cnt i (fun x => Lst1 (eL n f) x ∧ Pu n f x) := by
  induction h with
  | zero => intro _; exact ⟨fun y => ⟨fun h => absurd h List.not_mem_nil, fun ⟨_, j, hj, _⟩ => absurd hj (Nat.not_lt_zero _)⟩, rfl, rfl⟩
  | @skip i ls _ hm ih =>
    intro hi
    obtain ⟨h1, h2, h3⟩ := ih (by omega)
    obtain ⟨_, j0, hj0, c0⟩ := (h1 i).mp hm
    refine ⟨fun y => ⟨fun h => by obtain ⟨hy, j, hj, c⟩ := (h1 y).mp h; exact ⟨hy, j, by omega, c⟩, fun ⟨hy, j, hj, c⟩ => ?_⟩, ?_, ?_⟩
    · by_cases e : j = i
      · exact (h1 y).mpr ⟨hy, j0, hj0, c0.trans (by rw [← e]; exact c)⟩
      · exact (h1 y).mpr ⟨hy, j, by omega, c⟩
    · rw [cnt_neg (fun z => z j0 hj0 c0)]; exact h2
    · rw [cnt_neg (fun z => z.1 j0 hj0 c0)]; exact h3
  | @new i ls ps t _ hn hL hp _ ih =>
    intro hi
    obtain ⟨h1, h2, h3⟩ := ih (by omega)
    have hin : i < n := by omega
    have hl := loop_cn hf hin hL
    have hLs : Lst1 (eL n f) i := fun y hy c => hn ((h1 i).mpr ⟨hin, y, hy, c⟩)
    refine ⟨fun y => ?_, ?_, ?_⟩
    · rw [flat_snoc, List.mem_append, h1 y, hp.mem_iff, hl y]
      exact ⟨fun h => by
        rcases h with ⟨hy, j, hj, c⟩ | ⟨hy, c⟩
        · exact ⟨hy, j, by omega, c⟩
        · exact ⟨hy, i, by omega, c⟩, fun ⟨hy, j, hj, c⟩ => by
        by_cases e : j = i
        · rw [e] at c; exact .inr ⟨hy, c⟩
        · exact .inl ⟨hy, j, by omega, c⟩⟩
    · rw [List.length_append, h2, cnt_pos hLs]; rfl
    · rw [List.filter_append, List.length_append, h3]
      by_cases c : pureB f n t = true
      · rw [List.filter_cons_of_pos c, List.filter_nil, cnt_pos ⟨hLs, (pureB_iff hf hin hL hp).mp c⟩]; rfl
      · rw [List.filter_cons_of_neg c, List.filter_nil, cnt_neg (fun z => c ((pureB_iff hf hin hL hp).mpr z.2))]; rfl
theorem nc_LL {n : Nat} {f : List Nat} : nc (2 * n) (eL n f) = LL n f := by
  show cnt (2 * n) (Lst1 (eL n f)) = cnt n (Lst1 (eL n f))
  rw [show 2 * n = n + n by omega]
  exact cnt_more n fun x h1 h2 h => h (x - n) (by omega) (by
    have := eL_tie (n := n) (f := f) (x := x) (by omega)
    unfold oth at this; rw [if_neg (by omega)] at this; exact this.symm)
theorem LL_le {n : Nat} {f : List Nat} : LL n f ≤ n := by
  have := cnt_le (n := n) (p := fun _ => True) (q := Lst1 (eL n f)) (fun _ _ _ => trivial)
  rw [cnt_all (fun _ _ => trivial)] at this; exact this
theorem away2 {E : Nat → Nat → Prop} {p q r s z t : Nat} (hp : ¬ Cn E z p) (hq : ¬ Cn E z q) (hr : ¬ Cn E z r) (hs : ¬ Cn E z s) (h : Cn (Ad p q (Ad r s E)) z t) : Cn E z t := by
  have one : ∀ {w}, Cn (Ad r s E) z w → Cn E z w := fun {w} h => by
    rcases cn_ad h with h | ⟨h, _⟩ | ⟨h, _⟩
    · exact h
    · exact absurd h hr
    · exact absurd h hs
  rcases cn_ad h with h | ⟨h, _⟩ | ⟨h, _⟩
  · exact one h
  · exact absurd (one h) hp
  · exact absurd (one h) hq
open Classical in
/-- a class with a lower pair is not pure -/
theorem low_not_pure {n : Nat} {f : List Nat} {p z : Nat} (hf : IsPair (2 * n) f) (hp : p < n) (hz : n ≤ z) (hz2 : z < 2 * n) (hfz : n ≤ f.getD z 0) (hc : Cn (eL n f) p z) : ¬ Pu n f p := by
  intro ⟨_, hP⟩
  obtain ⟨S, hS⟩ : ∃ S, S = (List.range n).filter fun q => decide (Cn (eL n f) p q) := ⟨_, rfl⟩
  have nd : S.Nodup := by rw [hS]; exact List.nodup_range.filter _
  have mem : ∀ q, q ∈ S ↔ q < n ∧ Cn (eL n f) p q := fun q => by rw [hS, List.mem_filter, List.mem_range, decide_eq_true_iff]
  have dn : ∀ {w}, n ≤ w → w < 2 * n → Cn (eL n f) w (w - n) := fun {w} h1 h2 => by
    have := eL_tie (n := n) (f := f) h2
    unfold oth at this; rw [if_neg (by omega)] at this; exact this
  have inj : ∀ q ∈ S, ∀ q' ∈ S, f.getD q 0 - n = f.getD q' 0 - n → q = q' := fun q hq q' hq' e => by
    obtain ⟨a1, a2⟩ := (mem q).mp hq
    obtain ⟨b1, b2⟩ := (mem q').mp hq'
    have x1 := hP q a1 a2
    have x2 := hP q' b1 b2
    have e2 : f.getD q 0 = f.getD q' 0 := by omega
    have := (hf.d (show q < 2 * n by omega)).2.2.1
    rw [e2, (hf.d (show q' < 2 * n by omega)).2.2.1] at this; exact this.symm
  have hz' : z - n ∈ S.map (fun q => f.getD q 0 - n) := by
    rcases Classical.em (z - n ∈ S.map (fun q => f.getD q 0 - n)) with h | h
    · exact h
    · exfalso
      have ndm : ∀ (l : List Nat), l.Nodup → (∀ q ∈ l, ∀ q' ∈ l, f.getD q 0 - n = f.getD q' 0 - n → q = q') → (l.map (fun q => f.getD q 0 - n)).Nodup := fun l => by
        induction l with
        | nil => intro _ _; exact List.nodup_nil
        | cons x l ih =>
          intro hd hi
          have hd' := List.nodup_cons.mp hd
          refine List.nodup_cons.mpr ⟨fun hm => ?_, ih hd'.2 (fun q hq q' hq' => hi q (List.mem_cons_of_mem _ hq) q' (List.mem_cons_of_mem _ hq'))⟩
          obtain ⟨q, hq, e⟩ := List.mem_map.mp hm
          have := hi q (List.mem_cons_of_mem _ hq) x List.mem_cons_self e
          exact hd'.1 (by rw [← this]; exact hq)
      have h1 := nd_sub ((z - n) :: S.map (fun q => f.getD q 0 - n)) S (List.nodup_cons.mpr ⟨h, ndm S nd inj⟩) (fun y hy => by
        rcases List.mem_cons.mp hy with e | hy
        · rw [e]; exact (mem _).mpr ⟨by omega, hc.trans (dn hz hz2)⟩
        · obtain ⟨q, hq, rfl⟩ := List.mem_map.mp hy
          obtain ⟨a1, a2⟩ := (mem q).mp hq
          have x1 := hP q a1 a2
          have x2 := (hf.d (show q < 2 * n by omega)).1
          exact (mem _).mpr ⟨by omega, (a2.trans (eL_f (by omega))).trans (dn x1 x2)⟩)
      rw [List.length_cons, List.length_map] at h1; omega
  obtain ⟨q, hq, e⟩ := List.mem_map.mp hz'
  obtain ⟨a1, a2⟩ := (mem q).mp hq
  have x1 := hP q a1 a2
  have e2 : f.getD q 0 = z := by omega
  have := (hf.d (show q < 2 * n by omega)).2.2.1
  rw [e2] at this; omega
theorem call_fewest {n : Nat} {f f' : List Nat} {x y : Nat} (hf : IsPair (2 * n) f) (hf' : IsPair (2 * n) f') (hn : 0 < n) (hx : n ≤ x) (hy : n ≤ y) (h : Cald (2 * n) f f' x y) : 2 * PP n f' + LL n f ≤ 2 * PP n f + LL n f' + 1 := by
  have hb := emp_pair hn
  have old := ed_old (b := emp n) hf h.hx h.hy
  have new := ed_new (b := emp n) hf h
  have cn := call_nc hf hb h
  rw [nc_LL, nc_LL] at cn
  obtain ⟨E0, hE0⟩ : ∃ E0, E0 = e0 (2 * n) f (emp n) x (f.getD x 0) y (f.getD y 0) := ⟨_, rfl⟩
  have alone := fun w hw => not_alone (w := w) hf hb h.hx h.hy rfl rfl hw
  rw [← hE0] at old new alone
  have toN : ∀ {p q}, Cn E0 p q → Cn (eL n f') p q := fun {p q} c => (new p q).mpr c.up.up
  have xy : Cn (eL n f') x y := (new x y).mpr (.one (.inl (.inr ⟨rfl, rfl⟩)))
  have uv : Cn (eL n f') (f.getD x 0) (f.getD y 0) := (new _ _).mpr (.one (.inl (.inl (.inr ⟨rfl, rfl⟩))))
  -- who is away from the four
  have away : ∀ p, ¬ Cn (eL n f') p x → ¬ Cn (eL n f') p (f.getD x 0) → (∀ q, Cn (eL n f) p q ↔ Cn (eL n f') p q) ∧ ∀ q, Cn (eL n f') p q → q ≠ x ∧ q ≠ f.getD x 0 ∧ q ≠ y ∧ q ≠ f.getD y 0 := fun p n1 n2 => by
    have n3 : ¬ Cn (eL n f') p y := fun c => n1 (c.trans xy.symm)
    have n4 : ¬ Cn (eL n f') p (f.getD y 0) := fun c => n2 (c.trans uv.symm)
    refine ⟨fun q => ⟨fun c => toN (away2 (fun c => n1 (toN c)) (fun c => n2 (toN c)) (fun c => n3 (toN c)) (fun c => n4 (toN c)) ((old p q).mp c)), fun c => (old p q).mpr ((away2 (fun c => n1 (toN c)) (fun c => n3 (toN c)) (fun c => n2 (toN c)) (fun c => n4 (toN c)) ((new p q).mp c)).up.up)⟩, fun q c => ⟨fun e => n1 (by rw [← e]; exact c), fun e => n2 (by rw [← e]; exact c), fun e => n3 (by rw [← e]; exact c), fun e => n4 (by rw [← e]; exact c)⟩⟩
  have notx : ∀ p, p < n → Pu n f' p → ¬ Cn (eL n f') p x := fun p hp hP c => low_not_pure hf' hp hx h.hx (by rw [h.tx]; exact hy) c hP
  have keep : ∀ p, p < n → Lst1 (eL n f') p → Pu n f' p → ¬ Cn (eL n f') p (f.getD x 0) → Lst1 (eL n f) p ∧ Pu n f p := fun p hp hl hP nu => by
    obtain ⟨a1, a2⟩ := away p (notx p hp hP) nu
    refine ⟨fun z hz c => hl z hz ((a1 z).mp c.symm).symm, ?_, fun q hq c => ?_⟩
    · obtain ⟨q, q1, q2, q3⟩ := hP.1
      exact ⟨q, q1, q2, (a1 q).mpr q3⟩
    · have c' := (a1 q).mp c
      obtain ⟨b1, b2, b3, b4⟩ := a2 q c'
      have := hP.2 q hq c'
      rw [h.el q (by omega) b1 b2 b3 b4] at this; exact this
  have le1 : PP n f' ≤ PP n f + 1 := cnt_one fun p q hp hq a b c d => by
    have up : Cn (eL n f') p (f.getD x 0) := Classical.byContradiction fun z => b (keep p hp a.1 a.2 z)
    have uq : Cn (eL n f') q (f.getD x 0) := Classical.byContradiction fun z => d (keep q hq c.1 c.2 z)
    exact lst_uniq a.1 c.1 (up.trans uq.symm)
  rcases Classical.em (∃ p, p < n ∧ (Lst1 (eL n f') p ∧ Pu n f' p) ∧ ¬ (Lst1 (eL n f) p ∧ Pu n f p)) with ⟨p, hp, ⟨p1, p2⟩, p3⟩ | hno
  · have up : Cn (eL n f') p (f.getD x 0) := Classical.byContradiction fun z => p3 (keep p hp p1 p2 z)
    have ux : ¬ Cn (eL n f') x (f.getD x 0) := fun c => notx p hp p2 (up.trans c.symm)
    have c1 : Cn E0 x y := by
      obtain ⟨w', hw, nw, c⟩ := alone x (.inl rfl)
      rcases hw with e | e | e | e
      · exact absurd e nw
      · rw [e] at c; exact absurd (toN c) ux
      · rw [e] at c; exact c
      · rw [e] at c; exact absurd ((toN c).trans uv.symm) ux
    have c2 : Cn E0 (f.getD x 0) (f.getD y 0) := by
      obtain ⟨w', hw, nw, c⟩ := alone (f.getD x 0) (.inr (.inl rfl))
      rcases hw with e | e | e | e
      · rw [e] at c; exact absurd (toN c).symm ux
      · exact absurd e nw
      · rw [e] at c; exact absurd (xy.trans (toN c).symm) ux
      · rw [e] at c; exact c
    have c3 : ¬ Cn E0 y (f.getD y 0) := fun c => ux ((xy.trans (toN c)).trans uv.symm)
    have k1 : nc (2 * n) (eL n f') = nc (2 * n) E0 := by
      rw [nc_congr new, nc_ad_eq c1.up, nc_ad_eq c2]
    have k2 : nc (2 * n) (eL n f) + 1 = nc (2 * n) E0 := by
      have c4 : Cn (Ad y (f.getD y 0) E0) x (f.getD x 0) := (c1.up.trans (.one (.inl (.inr ⟨rfl, rfl⟩)))).trans c2.up.symm
      rw [nc_congr old, nc_ad_eq c4]
      exact nc_ad_lt h.hy (hf.d h.hy).1 c3
    rw [nc_LL] at k1 k2
    omega
  · have le2 : PP n f' ≤ PP n f := cnt_le fun p hp hP => Classical.byContradiction fun z => hno ⟨p, hp, hP, z⟩
    omega
theorem emp_cn {n x z : Nat} (hx : x < 2 * n) (h : Cn (eL n (emp n)) x z) : z < 2 * n ∧ z % n = x % n := by
  induction h with
  | refl => exact ⟨hx, rfl⟩
  | step _ e ih =>
    rcases e with ⟨h1, e | e⟩ | ⟨h1, e | e⟩
    · rw [e, oth_emp h1]; exact ⟨oth_lt h1, by rw [oth_mod h1]; exact ih.2⟩
    · rw [e, oth_emp h1]; exact ⟨oth_lt h1, by rw [oth_mod h1]; exact ih.2⟩
    · rw [oth_emp h1] at e; exact ⟨h1, by rw [← ih.2, e, oth_mod h1]⟩
    · rw [oth_emp h1] at e; exact ⟨h1, by rw [← ih.2, e, oth_mod h1]⟩
theorem LL_emp {n : Nat} : LL n (emp n) = n := cnt_all fun x hx y hy c => by
  have := (emp_cn (by omega) c).2
  rw [Nat.mod_eq_of_lt hx, Nat.mod_eq_of_lt (show y < n by omega)] at this; omega
theorem PP_emp {n : Nat} : PP n (emp n) = 0 := cnt_none fun x hx ⟨_, ⟨p, p1, p2, p3⟩, _⟩ => by
  have := (emp_cn (by omega) p3).2
  rw [Nat.mod_eq_of_lt hx, Nat.mod_eq_of_lt p1] at this; exact p2 this
end Pc
namespace Pc
open PySem PySem.Spec PyProof.Rows L2 RZ
theorem jn_getD {n : Nat} {f : List Nat} (hf : IsPair n f) {a b : Nat} (hab : a ≠ b) (ha : a < n) (hb : b < n) (hc : f.getD a 0 ≠ b) {z : Nat} (hz : z < n) :
    (jn f a b).getD z 0 = if z = a then b else if z = b then a else if z = f.getD a 0 then f.getD b 0 else if z = f.getD b 0 then f.getD a 0 else f.getD z 0 := by
  have e := jn_get hf hab (hf.d ha).2.2.2 (hf.d hb).2.2.2 hc z
  rw [List.getD_eq_getElem?_getD, e]
  split
  · rfl
  · split
    · rfl
    · split
      · rfl
      · split
        · rfl
        · rw [List.getD_eq_getElem?_getD]
theorem jn_cald {n : Nat} {f : List Nat} (hf : IsPair n f) {a b : Nat} (hab : a ≠ b) (ha : a < n) (hb : b < n) (hc : f.getD a 0 ≠ b) : Cald n f (jn f a b) a b := by
  obtain ⟨a1, a2, a3, a4⟩ := hf.d ha
  obtain ⟨b1, b2, b3, b4⟩ := hf.d hb
  obtain ⟨x1, x2, x3, x4, _, _, _, _⟩ := four hf hab a4 b4 hc
  have g := fun {z : Nat} (hz : z < n) => jn_getD hf hab ha hb hc hz
  refine ⟨ha, hb, hab, hc, ?_, ?_, ?_, ?_, fun z hz z1 z2 z3 z4 => ?_⟩
  · rw [g ha, if_pos rfl]
  · rw [g hb, if_neg hab.symm, if_pos rfl]
  · rw [g a1, if_neg x1, if_neg hc, if_pos rfl]
  · rw [g b1, if_neg x3, if_neg x2, if_neg (Ne.symm x4), if_pos rfl]
  · rw [g hz, if_neg z1, if_neg z3, if_neg z2, if_neg z4]
theorem word_fewest {n : Nat} {qs : List (Nat × Nat)} (hn : 0 < n) (h : Calls n qs) : ∀ i, i ≤ qs.length → n + 2 * PP n (shw n (qs.take i) (emp n)) ≤ i + LL n (shw n (qs.take i) (emp n))
  | 0, _ => by
    rw [List.take_zero]
    show n + 2 * PP n (emp n) ≤ 0 + LL n (emp n)
    rw [PP_emp, LL_emp]; omega
  | i + 1, hi => by
    have ih := word_fewest hn h i (by omega)
    obtain ⟨q, hq⟩ : ∃ q, qs[i]? = some q := ⟨_, List.getElem?_eq_getElem (by omega)⟩
    have hc := h q (List.mem_of_getElem? hq)
    have hP := shw_pair (n := n) (emp_pair hn) (fun r hr => h r (List.mem_of_mem_take (i := i) hr))
    rw [shw_take hq]
    revert ih hP
    generalize shw n (qs.take i) (emp n) = f
    intro ih hP
    by_cases e : f.getD (n + q.1) 0 = n + q.2
    · have : jn f (n + q.1) (n + q.2) = f := by unfold jn; rw [if_pos e]
      rw [this]; omega
    · have hab : n + q.1 ≠ n + q.2 := by omega
      have := call_fewest hP (jn_pair hP hab (by omega) (by omega)) hn (by omega) (by omega) (jn_cald hP hab (by omega) (by omega) e)
      omega
theorem word_fewest' {n : Nat} {qs : List (Nat × Nat)} (hn : 0 < n) (h : Calls n qs) : n + 2 * PP n (shw n qs (emp n)) ≤ qs.length + LL n (shw n qs (emp n)) := by
  have := word_fewest hn h qs.length (Nat.le_refl _)
  rwa [List.take_length] at this
/-- a word has a lower pair, or it is empty -/
theorem word_low {n : Nat} {qs : List (Nat × Nat)} (hn : 0 < n) (h : Calls n qs) : qs = [] ∨ ∃ a b, a < b ∧ b < n ∧ (shw n qs (emp n)).getD (n + a) 0 = n + b := by
  by_cases e : qs = []
  · exact .inl e
  · refine .inr ?_
    obtain ⟨q, hq⟩ : ∃ q, qs[qs.length - 1]? = some q := ⟨_, List.getElem?_eq_getElem (by have := List.length_pos_iff.mpr e; omega)⟩
    have hc := h q (List.mem_of_getElem? hq)
    have hl := List.length_pos_iff.mpr e
    have hP := shw_pair (n := n) (emp_pair hn) (fun r hr => h r (List.mem_of_mem_take (i := qs.length - 1) hr))
    have e1 := shw_take (n := n) (fs := emp n) hq
    rw [show qs.length - 1 + 1 = qs.length by omega, List.take_length] at e1
    refine ⟨q.1, q.2, hc.1, hc.2, ?_⟩
    rw [e1]
    by_cases c : (shw n (qs.take (qs.length - 1)) (emp n)).getD (n + q.1) 0 = n + q.2
    · unfold jn; rw [if_pos c]; exact c
    · exact (jn_cald hP (by omega) (by omega) (by omega) c).tx
end Pc
namespace Pc
open PySem PySem.Spec PyProof.Rows L2 RZ
section
variable {P : Program} {w : World} {K : PySem.W.Frag} {mg : Str → Option Value} {base : Heap}
/-! ### the looks at calls: valid ones raise nothing -/
def spCheckPerson : Sp := fun vs H Q _ => ∃ (n u : Nat), vs = [.int n, .int u] ∧ u < n ∧ Q .non H
theorem ok_p_check_person (T : Env K mg) : FnOk P w K mg base CX0 1 T.f_p_check_person T.d_p_check_person ["size", "person"] spCheckPerson := by
  refine T.F_p_check_person.ok sc_p_check_person (fun vs H Q E h => ?_) (fun cdv A outer s H vs Q E hr h => ?_)
  · obtain ⟨n, u, rfl, _⟩ := h
    rfl
  · obtain ⟨n, u, rfl, hu, q⟩ := h
    refine ⟨_, pss_one (ps_if (pt_not (pt_chain op_le op_lt pe_int (pv 1) (pv 0))) pss_never pss_nil), ?_⟩
    refine ⟨_, rfl, 0, u, rfl, rfl, _, rfl, ?_⟩
    rw [decide_eq_true (show (0 : Int) ≤ (u : Int) by omega)]
    refine iteT ⟨.int n, rfl, u, n, rfl, rfl, _, rfl, ?_⟩
    rw [decide_eq_true (show (u : Int) < (n : Int) by omega)]
    exact iteN q
def spCheckCall (K : PySem.W.Frag) : Sp := fun vs H Q _ => ∃ (n a b : Nat) (c : Addr), vs = [.int n, .ref c] ∧ Sq K H c [.int a, .int b] ∧ a < n ∧ b < n ∧ Q .non H
theorem ok_p_check_call (T : Env K mg) : FnOk P w K mg base CX0 2 T.f_p_check_call T.d_p_check_call ["size", "call"] (spCheckCall K) := by
  have G1 : FnOk P w K mg base CX0 1 T.f_p_check_person T.d_p_check_person ["size", "person"] spCheckPerson := ok_p_check_person T
  refine T.F_p_check_call.ok sc_p_check_call (fun vs H Q E h => ?_) (fun cdv A outer s H vs Q E hr h => ?_)
  · obtain ⟨n, a, b, c, rfl, _⟩ := h
    rfl
  · obtain ⟨n, a, b, c, rfl, hS, ha, hb, q⟩ := h
    refine ⟨_, pss_one (ps_for PassesOwn.never rfl (pi_seq (pv 1)) (pg_name (i := 2) sc_p_check_call.nd rfl (.inl rfl)) (pss_one (ps_expr (pe_call G1 hr (by rfl) T.g_p_check_person T.F_p_check_person.kp T.b_p_check_person .nil pass0 (pa_cons (pv 0) (pa_cons (pv 2) pa_nil)))))), ?_⟩
    refine ⟨.ref c, rfl, c, rfl, for_seq hS (fun i σ H' => H' = H ∧ ∃ y : Option V, σ = [some (.int n), some (.ref c), y]) ⟨rfl, none, rfl⟩ (fun i σ H' h => by rw [h.1]; exact Same.refl _) (fun i x σ H' hx h => ?_) (fun σ H' h => by rw [h.1]; exact q)⟩
    obtain ⟨rfl, y, rfl⟩ := h
    have hx' : ∃ u : Nat, x = .int u ∧ u < n := by
      have hi : i < 2 := get_lt hx
      rcases (show i = 0 ∨ i = 1 by omega) with z | z
      · subst z; exact ⟨a, (Option.some.inj hx).symm, ha⟩
      · subst z; exact ⟨b, (Option.some.inj hx).symm, hb⟩
    obtain ⟨u, rfl, hu⟩ := hx'
    exact ⟨_, rfl, _, rfl, n, u, rfl, hu, rfl, _, rfl⟩
def spCheckWord (K : PySem.W.Frag) : Sp := fun vs H Q _ => ∃ (n : Nat) (wd : Addr) (us : List V) (qs : List (Nat × Nat)), vs = [.int n, .ref wd] ∧ Sq K H wd us ∧ Items K H us qs ∧ Calls n qs ∧ Q .non H
theorem ok_p_check_word (T : Env K mg) : FnOk P w K mg base CX0 3 T.f_p_check_word T.d_p_check_word ["size", "word"] (spCheckWord K) := by
  have G1 : FnOk P w K mg base CX0 2 T.f_p_check_call T.d_p_check_call ["size", "call"] (spCheckCall K) := ok_p_check_call T
  refine T.F_p_check_word.ok sc_p_check_word (fun vs H Q E h => ?_) (fun cdv A outer s H vs Q E hr h => ?_)
  · obtain ⟨n, wd, us, qs, rfl, _⟩ := h
    rfl
  · obtain ⟨n, wd, us, qs, rfl, hS, hI, hc, q⟩ := h
    refine ⟨_, pss_one (ps_for PassesOwn.never rfl (pi_seq (pv 1)) (pg_name (i := 2) sc_p_check_word.nd rfl (.inl rfl)) (pss_one (ps_expr (pe_call G1 hr (by rfl) T.g_p_check_call T.F_p_check_call.kp T.b_p_check_call .nil pass0 (pa_cons (pv 0) (pa_cons (pv 2) pa_nil)))))), ?_⟩
    refine ⟨.ref wd, rfl, wd, rfl, for_seq hS (fun i σ H' => H' = H ∧ ∃ y : Option V, σ = [some (.int n), some (.ref wd), y]) ⟨rfl, none, rfl⟩ (fun i σ H' h => by rw [h.1]; exact Same.refl _) (fun i x σ H' hx h => ?_) (fun σ H' h => by rw [h.1]; exact q)⟩
    obtain ⟨rfl, y, rfl⟩ := h
    obtain ⟨c, p, rfl, hp, hq⟩ := hI.2 i x hx
    have := hc p (List.mem_of_getElem? hp)
    exact ⟨.int n, rfl, .ref c, rfl, n, p.1, p.2, c, rfl, hq, by omega, by omega, rfl, _, rfl⟩
/-! ### join_two -/
def spJoin : Sp := fun vs H Q _ => ∃ (j : Addr) (fs : List Nat) (n a b : Nat), vs = [.ref j, .int a, .int b] ∧ H j = some (.lst (nv fs)) ∧ IsPair n fs ∧ a < n ∧ b < n ∧
  ∀ H' : Hp, H' j = some (.lst (nv (jn fs a b))) → Keep j H H' → Q (.bl (!decide (fs.getD a 0 = b))) H'
theorem ok_p_join_two (T : Env K mg) : FnOk P w K mg base CX0 1 T.f_p_join_two T.d_p_join_two ["joined", "a", "b"] spJoin := by
  refine T.F_p_join_two.ok sc_p_join_two (fun vs H Q E h => ?_) (fun cdv A outer s H vs Q E hr h => ?_)
  · obtain ⟨j, fs, n, a, b, rfl, _⟩ := h
    rfl
  · obtain ⟨j, fs, n, a, b, rfl, hj, hP, ha, hb, q⟩ := h
    refine ⟨_, pss_cons (ps_set (i := 3) sc_p_join_two.nd rfl (.inl rfl) (pe_ix ix_list (pv 0) (pv 1) (fun _ _ => rfl))) <|
      pss_cons (ps_set (i := 4) sc_p_join_two.nd rfl (.inl rfl) (pe_ix ix_list (pv 0) (pv 2) (fun _ _ => rfl))) <|
      pss_cons (ps_if (pt_cmpR op_eq (pv 3) (pv 2) (nomark _)) (pss_one (ps_ret pe_bl)) pss_nil) <|
      pss_cons (ps_asg (pv 2) (pg_sub (pv 0) (pv 1) set_list)) <| pss_cons (ps_asg (pv 1) (pg_sub (pv 0) (pv 2) set_list)) <|
      pss_cons (ps_asg (pv 4) (pg_sub (pv 0) (pv 3) set_list)) <| pss_cons (ps_asg (pv 3) (pg_sub (pv 0) (pv 4) set_list)) <| pss_one (ps_ret pe_bl), ?_⟩
    obtain ⟨c, ea, hc, _⟩ := hP.par a ha
    obtain ⟨d, eb, hd, _⟩ := hP.par b hb
    have hS : SqL K H j (nv fs) := .inl (.inl hj)
    have hl := hP.len
    refine ⟨.ref j, rfl, .int a, rfl, j, _, _, _, rfl, rfl, hS, nv_at ea, ?_⟩
    refine ⟨.ref j, rfl, .int b, rfl, j, _, _, _, rfl, rfl, hS, nv_at eb, ?_⟩
    refine ⟨_, rfl, _, rfl, rfl, _, rfl, ite2 (fun e => ?_) (fun e => ?_)⟩
    · have e1 : c = b := by have := V.int.inj (of_decide_eq_true e); omega
      subst e1
      have := q H (by rw [jn_same ea]; exact hj) (Keep.refl _ _)
      rw [getD_of ea, decide_eq_true rfl] at this
      exact this
    · have e1 : c ≠ b := fun z => e (by rw [z]; exact decide_eq_true rfl)
      have ln : ∀ {l : List V}, l.length = fs.length → ∀ {i : Nat}, i < n → ixN l.length (i : Int) = some i := fun {l} hl2 {i} hi => ixN_nat (by rw [hl2, hl]; exact hi)
      refine ⟨_, rfl, .ref j, rfl, _, rfl, j, _, _, a, rfl, rfl, hj, ln (nv_length _) ha, ?_⟩
      refine ⟨_, rfl, .ref j, rfl, _, rfl, j, _, _, b, rfl, rfl, upd_same, ln (by rw [List.length_set, nv_length]) hb, ?_⟩
      refine ⟨_, rfl, .ref j, rfl, _, rfl, j, _, _, c, rfl, rfl, upd_same, ln (by rw [List.length_set, List.length_set, nv_length]) hc, ?_⟩
      refine ⟨_, rfl, .ref j, rfl, _, rfl, j, _, _, d, rfl, rfl, upd_same, ln (by rw [List.length_set, List.length_set, List.length_set, nv_length]) hd, ?_⟩
      have := q (upd (upd (upd (upd H j (.lst ((nv fs).set a (.int b)))) j (.lst (((nv fs).set a (.int b)).set b (.int a)))) j (.lst ((((nv fs).set a (.int b)).set b (.int a)).set c (.int d)))) j (.lst (((((nv fs).set a (.int b)).set b (.int a)).set c (.int d)).set d (.int c))))
        (by
          rw [upd_same, nv_set, nv_set, nv_set, nv_set]
          unfold jn
          rw [getD_of ea, getD_of eb, if_neg e1])
        (fun x o nx hx => by rw [upd_ne nx, upd_ne nx, upd_ne nx, upd_ne nx]; exact hx)
      rw [getD_of ea, decide_eq_false e1] at this
      exact this
end
end Pc
namespace Pc
open PySem PySem.Spec PyProof.Rows L2 RZ
theorem emp_two (n : Nat) : emp n = ((List.range n).map fun i => n + i) ++ List.range n := by
  refine List.ext_getElem? fun z => ?_
  by_cases h : z < n
  · rw [emp_lo h, List.getElem?_append_left (by rw [List.length_map, List.length_range]; exact h), List.getElem?_map, List.getElem?_range h]
    rfl
  · rw [List.getElem?_append_right (by rw [List.length_map, List.length_range]; omega), List.length_map, List.length_range]
    by_cases h2 : z < 2 * n
    · have := emp_hi (n := n) (e := z - n) (by omega)
      rw [show n + (z - n) = z by omega] at this
      rw [this, List.getElem?_range (by omega)]
    · rw [List.getElem?_eq_none (by rw [emp_len]; omega), List.getElem?_eq_none (by rw [List.length_range]; omega)]
end Pc
namespace Pc
open PySem PySem.Spec PyProof.Rows L2 RZ
section
variable {P : Program} {w : World} {K : PySem.W.Frag} {mg : Str → Option Value} {base : Heap}
/-! ### the empty sheet -/
def spEmpty : Sp := fun vs H Q _ => ∃ n : Nat, vs = [.int n] ∧ n ≤ 1000 ∧ ∀ (H' : Hp) (t : Addr), Same H H' → H t = none → H' t = some (.tup (nv (emp n))) → Q (.ref t) H'
theorem ok_p_empty_sheet (T : Env K mg) : FnOk P w K mg base CX0 1 T.f_p_empty_sheet T.d_p_empty_sheet ["size"] spEmpty := by
  refine T.F_p_empty_sheet.ok sc_p_empty_sheet (fun vs H Q E h => ?_) (fun cdv A outer s H vs Q E hr h => ?_)
  · obtain ⟨n, rfl, _⟩ := h
    rfl
  · obtain ⟨n, rfl, hn, q⟩ := h
    refine ⟨_, pss_one (ps_ret (pe_callTy call_tuple_of (by rfl) T.n_tuple (by decide +kernel) (pa_cons (pe_op op_cat (pe_listRg rfl (by rfl) T.n_list (prg_2 (by rfl) T.n_range (pv 0) (pe_op op_mul pe_int (pv 0)))) (pe_listRg rfl (by rfl) T.n_list (prg_1 (by rfl) T.n_range (pv 0)))) pa_nil))), ?_⟩
    refine ⟨_, rfl, _, rfl, 2, n, rfl, rfl, .inl ⟨by decide, by decide⟩, _, _, rfl, rfl, RgOk.of_le (by omega) (by omega) (by omega) (by omega), fun a na => ?_⟩
    have s1 : Same H _ := same_new (o := .lst (rgV (n : Int) (2 * (n : Int)))) na
    refine ⟨_, rfl, _, rfl, RgOk.of_le (by decide) (by omega) (by decide) (by omega), fun c nc => ?_⟩
    have s2 : Same (upd H a (.lst (rgV (n : Int) (2 * (n : Int))))) _ := same_new (o := .lst (rgV 0 (n : Int))) nc
    refine ⟨a, c, _, _, rfl, rfl, s2 _ _ upd_same, upd_same, ?_, fun d nd => ?_⟩
    · rw [rgV_length, rgV_length]
      exact Nat.le_of_lt (line_big (by omega))
    refine ⟨d, _, rfl, .inl ⟨.inl (.inl upd_same), fun t nt => ?_⟩⟩
    have s3 := (s1.trans s2).trans (same_new (o := .lst (rgV (n : Int) (2 * (n : Int)) ++ rgV 0 (n : Int))) nd)
    refine q _ t (s3.trans (same_new nt)) (s3.free nt) ?_
    rw [upd_same, range_shift, rg_nv, emp_two]
    unfold nv
    rw [List.map_append]
end
end Pc
namespace Pc
open PySem PySem.Spec PyProof.Rows L2 RZ
section
variable {P : Program} {w : World} {K : PySem.W.Frag} {mg : Str → Option Value} {base : Heap}
/-! ### sheets with words added -/
def spWithWord (K : PySem.W.Frag) : Sp := fun vs H Q _ => ∃ (a wd : Addr) (fs : List Nat) (us : List V) (qs : List (Nat × Nat)) (n : Nat), vs = [.ref a, .ref wd] ∧ Sq K H a (nv fs) ∧ IsPair (2 * n) fs ∧ Sq K H wd us ∧ Items K H us qs ∧ Calls n qs ∧ n ≤ 1000 ∧
  ∀ (H' : Hp) (t : Addr), Same H H' → H t = none → H' t = some (.tup (nv (shw n qs fs))) → Q (.ref t) H'
theorem ok_p_with_word (T : Env K mg) : FnOk P w K mg base CX0 4 T.f_p_with_word T.d_p_with_word ["sheet", "word"] (spWithWord K) := by
  have G0 : FnOk P w K mg base CX0 1 T.f_p_people_of T.d_p_people_of ["sheet"] (spPeople K) := ok_p_people_of T
  have G1 : FnOk P w K mg base CX0 3 T.f_p_check_word T.d_p_check_word ["size", "word"] (spCheckWord K) := ok_p_check_word T
  have G2 : FnOk P w K mg base CX0 1 T.f_p_join_two T.d_p_join_two ["joined", "a", "b"] spJoin := ok_p_join_two T
  refine T.F_p_with_word.ok sc_p_with_word (fun vs H Q E h => ?_) (fun cdv A outer s H vs Q E hr h => ?_)
  · obtain ⟨a, wd, fs, us, qs, n, rfl, _⟩ := h
    rfl
  · obtain ⟨a, wd, fs, us, qs, n, rfl, ha, hP, hw, hI, hc, hn, q⟩ := h
    have h1 := hr.mono (show 1 ≤ 3 by decide)
    refine ⟨_, pss_cons (ps_set (i := 2) sc_p_with_word.nd rfl (.inl rfl) (pe_call G0 h1 (by rfl) T.g_p_people_of T.F_p_people_of.kp T.b_p_people_of .nil pass0 (pa_cons (pv 0) pa_nil))) <|
      pss_cons (ps_expr (pe_call G1 hr (by rfl) T.g_p_check_word T.F_p_check_word.kp T.b_p_check_word .nil pass0 (pa_cons (pv 2) (pa_cons (pv 1) pa_nil)))) <|
      pss_cons (ps_set (i := 3) sc_p_with_word.nd rfl (.inl rfl) (pe_callTy call_list_of (by rfl) T.n_list (by decide +kernel) (pa_cons (pv 0) pa_nil))) <|
      pss_cons (ps_for PassesOwn.never rfl (pi_seq (pv 1)) (pg_seq (by rfl) (pgs_cons (pg_name (i := 4) sc_p_with_word.nd rfl (.inl rfl)) (pgs_cons (pg_name (i := 5) sc_p_with_word.nd rfl (.inl rfl)) pgs_nil)))
        (pss_one (ps_expr (pe_call G2 h1 (by rfl) T.g_p_join_two T.F_p_join_two.kp T.b_p_join_two .nil pass0 (pa_cons (pv 3) (pa_cons (pe_op op_add (pv 2) (pv 4)) (pa_cons (pe_op op_add (pv 2) (pv 5)) pa_nil))))))) <|
      pss_one (ps_ret (pe_callTy call_tuple_of (by rfl) T.n_tuple (by decide +kernel) (pa_cons (pv 3) pa_nil))), ?_⟩
    refine ⟨.ref a, rfl, a, fs, n, rfl, ha, hP.len, ?_⟩
    refine ⟨_, rfl, .ref wd, rfl, n, wd, us, qs, rfl, hw, hI, hc, ?_⟩
    refine ⟨.ref a, rfl, a, _, rfl, ha, fun l nl => ?_⟩
    have s0 : Same H (upd H l (.lst (nv fs))) := same_new nl
    refine ⟨.ref wd, rfl, wd, rfl, for_seq hw (fun i σ H' => Same H H' ∧ ∃ (y4 y5 : Option V), σ = [some (.ref a), some (.ref wd), some (.int n), some (.ref l), y4, y5] ∧ H' l = some (.lst (nv (shw n (qs.take i) fs)))) ⟨s0, none, none, rfl, upd_same⟩ (fun i σ H' h => h.1) (fun i x σ H' hx h => ?_) (fun σ H' h => ?_)⟩
    · obtain ⟨sm, y4, y5, rfl, el⟩ := h
      obtain ⟨c, r, rfl, hr', hq⟩ := hI.2 i x hx
      have hcr := hc r (List.mem_of_getElem? hr')
      refine ⟨c, _, rfl, hq.same sm, rfl, _, _, rfl, _, _, rfl, rfl, .ref l, rfl, _, rfl, _, rfl, _, _, rfl, rfl, _, rfl, _, rfl, _, _, rfl, rfl, l, _, 2 * n, n + r.1, n + r.2, ?_, el, shw_pair hP (hc.take i), by omega, by omega, fun H2 e2 k2 => ?_⟩
      · show [V.ref l, V.int ((n : Int) + (r.1 : Int)), V.int ((n : Int) + (r.2 : Int))] = _
        rw [show (n : Int) + (r.1 : Int) = ((n + r.1 : Nat) : Int) by omega, show (n : Int) + (r.2 : Int) = ((n + r.2 : Nat) : Int) by omega]
      · refine ⟨fun b o hb => k2 b o (ne_of_none hb nl) (sm _ _ hb), _, _, rfl, ?_⟩
        rw [shw_take hr']
        exact e2
    · obtain ⟨sm, y4, y5, rfl, el⟩ := h
      rw [hI.1, List.take_length] at el
      exact ⟨.ref l, rfl, l, _, rfl, .inl ⟨.inl (.inl el), fun t nt => q _ t (sm.trans (same_new nt)) (sm.free nt) upd_same⟩⟩
end
end Pc
namespace Pc
open PySem PySem.Spec PyProof.Rows L2 RZ
section
variable {P : Program} {w : World} {K : PySem.W.Frag} {mg : Str → Option Value} {base : Heap}
/-! ### a call added -/
def spWithCall (K : PySem.W.Frag) : Sp := fun vs H Q _ => ∃ (a c : Addr) (fs : List Nat) (x y n : Nat), vs = [.ref a, .ref c] ∧ Sq K H a (nv fs) ∧ IsPair (2 * n) fs ∧ Sq K H c [.int x, .int y] ∧ x < y ∧ y < n ∧ n ≤ 1000 ∧
  ∀ (H' : Hp) (t : Addr), Same H H' → H t = none → H' t = some (.tup (nv (jn fs (n + x) (n + y)))) → Q (.ref t) H'
theorem ok_p_with_call (T : Env K mg) : FnOk P w K mg base CX0 5 T.f_p_with_call T.d_p_with_call ["sheet", "call"] (spWithCall K) := by
  have G1 : FnOk P w K mg base CX0 4 T.f_p_with_word T.d_p_with_word ["sheet", "word"] (spWithWord K) := ok_p_with_word T
  refine T.F_p_with_call.ok sc_p_with_call (fun vs H Q E h => ?_) (fun cdv A outer s H vs Q E hr h => ?_)
  · obtain ⟨a, c, fs, x, y, n, rfl, _⟩ := h
    rfl
  · obtain ⟨a, c, fs, x, y, n, rfl, ha, hP, hc, hxy, hy, hn, q⟩ := h
    refine ⟨_, pss_one (ps_ret (pe_call G1 hr (by rfl) T.g_p_with_word T.F_p_with_word.kp T.b_p_with_word .nil pass0 (pa_cons (pv 0) (pa_cons (pe_lst (pa_cons (pv 1) pa_nil)) pa_nil)))), ?_⟩
    refine ⟨.ref a, rfl, .ref c, rfl, by show 1 ≤ sizeLine; decide, fun l nl => ?_⟩
    have s0 : Same H (upd H l (.lst [.ref c])) := same_new nl
    refine ⟨a, l, fs, [.ref c], [(x, y)], n, rfl, ha.same s0, hP, .inl (.inl (.inl upd_same)), ⟨rfl, fun i v hv => ?_⟩, fun r hr' => ?_, hn, fun H' t s' nt et => q H' t (s0.trans s') (s0.free nt) et⟩
    · have hi : i < 1 := get_lt hv
      have : i = 0 := by omega
      subst this
      exact ⟨c, (x, y), (Option.some.inj hv).symm, rfl, hc.same s0⟩
    · rw [List.mem_singleton.mp hr']; exact ⟨hxy, hy⟩
end
end Pc
namespace Pc
open PySem PySem.Spec PyProof.Rows L2 RZ
section
variable {P : Program} {w : World} {K : PySem.W.Frag} {mg : Str → Option Value} {base : Heap}
/-! ### pairs of a sheet -/
def spPairs (K : PySem.W.Frag) (g : List Nat → Nat → List (Nat × Nat)) : Sp := fun vs H Q _ => ∃ (a : Addr) (fs : List Nat) (n : Nat), vs = [.ref a] ∧ Sq K H a (nv fs) ∧ IsPair (2 * n) fs ∧ n ≤ 500 ∧
  ∀ (H' : Hp) (p : Addr) (as : List Addr), Same H H' → H p = none → H' p = some (.lst (as.map V.ref)) → Prs H' as (g fs n) → Q (.ref p) H'
theorem at0 {fs : List Nat} {i z : Nat} (e : fs[i]? = some z) : atI (nv fs) ((0 : Int) + (i : Nat)) = some (.int z) := by rw [Int.zero_add]; exact nv_at e
theorem at1 {fs : List Nat} {n i z : Nat} (e : fs[n + i]? = some z) : atI (nv fs) ((n : Int) + ((0 : Int) + (i : Nat))) = some (.int z) := by
  rw [Int.zero_add, show (n : Int) + (i : Int) = ((n + i : Nat) : Int) by omega]; exact nv_at e
end
end Pc
namespace Pc
open PySem PySem.Spec PyProof.Rows L2 RZ
section
variable {P : Program} {w : World} {K : PySem.W.Frag} {mg : Str → Option Value} {base : Heap}
/-! ### lower pairs -/
theorem ok_p_lower_pairs (T : Env K mg) : FnOk P w K mg base CX0 2 T.f_p_lower_pairs T.d_p_lower_pairs ["sheet"] (spPairs K los) := by
  have G0 : FnOk P w K mg base CX0 1 T.f_p_people_of T.d_p_people_of ["sheet"] (spPeople K) := ok_p_people_of T
  refine T.F_p_lower_pairs.ok sc_p_lower_pairs (fun vs H Q E h => ?_) (fun cdv A outer s H vs Q E hr h => ?_)
  · obtain ⟨a, fs, n, rfl, _⟩ := h
    rfl
  · obtain ⟨a, fs, n, rfl, hS, hP, hn, q⟩ := h
    refine ⟨_, pss_cons (ps_set (i := 1) sc_p_lower_pairs.nd rfl (.inr rfl) (pe_call G0 hr (by rfl) T.g_p_people_of T.F_p_people_of.kp T.b_p_people_of .nil pass0 (pa_cons (pv 0) pa_nil))) <|
      pss_one (ps_ret (pe_lc (own := [("x", 2)]) (g := gName 2) (tt := tTest (tOp (rI0 fun i j => .bl (decide (j < i))) (tOp (rIx K) (tVar 0) (tOp (rI0 fun i j => .int (i + j)) (tVar 1) (tVar 2))) (tOp (rI0 fun i j => .int (i + j)) (tVar 1) (tVar 2))))
          (te := tTup (tCons (tVar 2) (tCons (tOp (rI0 fun i j => .int (i - j)) (tOp (rIx K) (tVar 0) (tOp (rI0 fun i j => .int (i + j)) (tVar 1) (tVar 2))) (tVar 1)) tNil))) rfl sc_p_lower_pairs.nd
        (pi_range1 (by rfl) T.n_range (pa_cons (pv 1) pa_nil)) (blkOk_by (N := N_p_lower_pairs) (sc := defScope s_p_lower_pairs) (by decide +kernel)) (fun _ _ _ _ _ => pg_name (i := 2) sc_p_lower_pairs.nd rfl (.inl rfl))
        (fun _ _ _ _ _ => pts_one (pt_cmpR op_gt (pe_ix ix_seq (pv 0) (pe_op op_add (pv 1) (pv 2)) (fun _ _ => rfl)) (pe_op op_add (pv 1) (pv 2)) (nomark _)))
        (fun _ _ _ _ _ => pe_tup (pa_cons (pv 2) (pa_cons (pe_op op_sub (pe_ix ix_seq (pv 0) (pe_op op_add (pv 1) (pv 2)) (fun _ _ => rfl)) (pv 1)) pa_nil))))), ?_⟩
    have hl := hP.len
    refine ⟨.ref a, rfl, a, fs, n, rfl, hS, hl, _, rfl, _, rfl, by omega, by omega, fun D nD => ?_⟩
    rw [show ((n : Int)).toNat = n by omega]
    refine lc_range (n := n) (fun i H' => Same H H' ∧ ∃ as : List Addr, H' D = some (.lst (as.map V.ref)) ∧ Prs H' as (selN (loC fs n) (loG fs n) i)) ⟨same_new nD, [], upd_same, .nil⟩ (fun i H1 hi hPv => ?_) (fun H1 hPv => ?_)
    · obtain ⟨sm, as, eD, hA⟩ := hPv
      obtain ⟨z, ez, _⟩ := hP.par (n + i) (by omega)
      have hS1 := hS.same sm
      refine ⟨rfl, _, rfl, _, rfl, _, rfl, _, _, rfl, rfl, ix_sq hS1 (at1 ez) ⟨_, rfl, _, rfl, _, _, rfl, rfl, _, _, rfl, rfl, _, rfl, ite2 (fun c => ?_) (fun c => ?_)⟩⟩
      · have hz : n + i < z := by have := of_decide_eq_true c; omega
        refine ⟨_, rfl, _, rfl, _, rfl, _, rfl, _, _, rfl, rfl, ix_sq hS1 (at1 ez) ⟨_, rfl, _, _, rfl, rfl, by show 2 ≤ sizeLine; decide, fun u nu => sel_step nD sm eD hA ?_ nu ?_ (by omega)⟩⟩
        · unfold loC; rw [getD_of ez, decide_eq_true hz]
        · unfold loG; rw [getD_of ez]
          show [V.int ((0 : Int) + (i : Nat)), V.int ((z : Int) - (n : Int))] = [V.int (i : Int), V.int ((z - n : Nat) : Int)]
          rw [Int.zero_add, show (z : Int) - (n : Int) = ((z - n : Nat) : Int) by omega]
      · refine ⟨sm, as, eD, ?_⟩
        rw [selN_no]
        · exact hA
        · unfold loC; rw [getD_of ez, decide_eq_false (fun h => c (decide_eq_true (by omega)))]
    · obtain ⟨sm, as, eD, hA⟩ := hPv
      exact q H1 D as sm nD eD hA
end
end Pc
namespace Pc
open PySem PySem.Spec PyProof.Rows L2 RZ
section
variable {P : Program} {w : World} {K : PySem.W.Frag} {mg : Str → Option Value} {base : Heap}
theorem ok_i_NoWord (T : Env K mg) : FnOk P w K mg base CX0 1 T.f_i_NoWord T.d_i_NoWord ["self"] (spInit0 T.C_NoWord) := by
  refine T.F_i_NoWord.ok sc_i_NoWord (fun vs H Q E h => ?_) (fun cdv A outer s H vs Q E hr h => ?_)
  · obtain ⟨a, rfl, _⟩ := h
    rfl
  · obtain ⟨a, rfl, ha, q⟩ := h
    refine ⟨_, pss_one (ps_expr (pe_binit (o := .Constant .none 0 ⟨0, 0, 0, 0⟩) bsV.fb (by rfl) T.n_ValueError (by decide +kernel) (by decide) (by decide) (by kernel_rfl) (by decide +kernel) (by decide +kernel) T.vV_ValueError (pa_cons (pv 0) (pa_cons pe_str pa_nil)))), ?_⟩
    exact ⟨.ref a, rfl, a, _, [.str _], rfl, (by show 1 ≤ 1000; decide), T.own_NoWord, ha, q⟩
end
end Pc
namespace Pc
open PySem PySem.Spec PyProof.Rows L2 RZ
section
variable {P : Program} {w : World} {K : PySem.W.Frag} {mg : Str → Option Value} {base : Heap}
/-! ### which sheets have a word; the fewest calls -/
def hasW (f : List Nat) (n : Nat) : Bool := !(los f n).isEmpty || decide (f = emp n)
theorem eqv_prs0 (qs : List (Nat × Nat)) : PyData.eqv (.list (qs.map pd)) (.list []) = qs.isEmpty := by
  cases qs with
  | nil => simp [PyData.eqv, PyData.eqvAll]
  | cons q r => simp [PyData.eqv, PyData.eqvAll]
theorem eqv_nd : ∀ f g : List Nat, PyData.eqvAll (nd f) (nd g) = decide (f = g)
  | [], [] => by simp [nd, PyData.eqvAll]
  | [], _ :: _ => by simp [nd, PyData.eqvAll]
  | _ :: _, [] => by simp [nd, PyData.eqvAll]
  | x :: f, y :: g => by
    show PyData.eqvAll (.int (x : Int) :: nd f) (.int (y : Int) :: nd g) = _
    rw [PyData.eqvAll, eqv_nd f g, PyData.eqv]
    by_cases c : x = y
    · subst c; by_cases d : f = g
      · subst d; simp
      · simp [d]
    · have : ¬ ((x : Int) = (y : Int)) := fun z => c (by omega)
      simp [c, this]
theorem eqv_td (f g : List Nat) : PyData.eqv (td f) (td g) = decide (f = g) := by
  show PyData.eqv (.tuple (nd f)) (.tuple (nd g)) = _
  rw [PyData.eqv]; exact eqv_nd f g
theorem los_bound {f : List Nat} {n : Nat} (hf : IsPair (2 * n) f) (hn : n ≤ 60) : (los f n).length ≤ 1000 ∧ ∀ p ∈ los f n, p.1 < 2 ^ 60 ∧ p.2 < 2 ^ 60 := by
  refine ⟨?_, fun p hp => by obtain ⟨_, h1, h2⟩ := los_mem hf hp; omega⟩
  unfold los selN
  rw [List.length_map]
  have := List.length_filter_le (loC f n) (List.range n)
  rw [List.length_range] at this; omega
def spHasWord (K : PySem.W.Frag) : Sp := fun vs H Q _ => ∃ (a : Addr) (f : List Nat) (n : Nat), vs = [.ref a] ∧ Sq K H a (nv f) ∧ IsPair (2 * n) f ∧ 0 < n ∧ n ≤ 50 ∧ ∀ H', Same H H' → Q (.bl (hasW f n)) H'
theorem ok_p_has_word (T : Env K mg) : FnOk P w K mg base CX0 3 T.f_p_has_word T.d_p_has_word ["sheet"] (spHasWord K) := by
  have G0 : FnOk P w K mg base CX0 1 T.f_p_people_of T.d_p_people_of ["sheet"] (spPeople K) := ok_p_people_of T
  have GE : FnOk P w K mg base CX0 1 T.f_p_empty_sheet T.d_p_empty_sheet ["size"] spEmpty := ok_p_empty_sheet T
  have GL : FnOk P w K mg base CX0 2 T.f_p_lower_pairs T.d_p_lower_pairs ["sheet"] (spPairs K los) := ok_p_lower_pairs T
  refine T.F_p_has_word.ok sc_p_has_word (fun vs H Q E h => ?_) (fun cdv A outer s H vs Q E hr h => ?_)
  · obtain ⟨a, f, n, rfl, _⟩ := h
    rfl
  · obtain ⟨a, f, n, rfl, ha, hf, h0, hn, q⟩ := h
    have h1 := hr.mono (show 1 ≤ 2 by decide)
    refine ⟨_, pss_one (ps_ret (pe_or (pe_cmpR (op_neD hr.units) (pe_call GL hr (by rfl) T.g_p_lower_pairs T.F_p_lower_pairs.kp T.b_p_lower_pairs .nil pass0 (pa_cons (pv 0) pa_nil)) (pe_lst pa_nil) (nomark _))
      (pe_one (pe_cmpR (op_eqD hr.units) (pe_callTy call_tuple_of (by rfl) T.n_tuple (by decide +kernel) (pa_cons (pv 0) pa_nil)) (pe_call GE h1 (by rfl) T.g_p_empty_sheet T.F_p_empty_sheet.kp T.b_p_empty_sheet .nil pass0 (pa_cons (pe_call G0 h1 (by rfl) T.g_p_people_of T.F_p_people_of.kp T.b_p_people_of .nil pass0 (pa_cons (pv 0) pa_nil)) pa_nil)) (nomark _))))), ?_⟩
    refine ⟨.ref a, rfl, a, f, n, rfl, ha, hf, by omega, fun H1 p as s1 np ep hA => ⟨by show 0 ≤ sizeLine; decide, fun e ne => ?_⟩⟩
    have s2 : Same H1 (upd H1 e (.lst [])) := same_new ne
    have ee : (upd H1 e (.lst [])) e = some (.lst []) := upd_same
    have ep2 := s2 _ _ ep
    have hA2 := prs_same s2 hA
    revert s2 ee ep2 hA2
    generalize upd H1 e (.lst []) = H2
    intro s2 ee ep2 hA2
    have fk : Fi 2 (.list ((los f n).map pd)) := fi_prs (los_bound hf (by omega))
    refine ⟨_, _, .lst (.inl (.inl ep2)) (prs_dp hA2), .lst (.inl (.inl ee)) .nil, fk.sh, rfl, _, rfl, ?_⟩
    rw [eqv_prs0]
    refine ite2 (fun c => ?_) (fun c => ?_)
    · have : hasW f n = (!(los f n).isEmpty) := by unfold hasW; rw [c]; rfl
      show Q (.bl true) H2
      rw [← this.trans c]; exact q _ (s1.trans s2)
    · have hc : (!(los f n).isEmpty) = false := Bool.eq_false_iff.mpr c
      have ehas : hasW f n = decide (f = emp n) := by unfold hasW; rw [hc, Bool.false_or]
      have fin : ∀ {H3 : Hp} {t : Addr}, Same H H3 → SqT K H3 t (nv f) → ∀ (H4 : Hp) (u : Addr), Same H3 H4 → H4 u = some (.tup (nv (emp n))) → ∃ d e, Dp K H4 (.ref t) d ∧ Dp K H4 (.ref u) e ∧ SeqAt.shaped d = true ∧ SeqAt.shaped e = true ∧ Q (.bl (PyData.eqv d e)) H4 := fun {H3 t} s3 ht H4 u s4 eu => by
        refine ⟨_, _, .tup (same_tup s4 ht) (dp_nats _), .tup (.inl (.inl eu)) (dp_nats _), (fi_tup hf (by omega)).sh, (fi_tup (emp_pair h0) (by omega)).sh, ?_⟩
        have e1 : PyData.eqv (.tuple (nd f)) (.tuple (nd (emp n))) = hasW f n := by rw [ehas]; exact eqv_td _ _
        rw [e1]; exact q _ (s3.trans s4)
      have ha2 := ha.same (s1.trans s2)
      refine ⟨_, rfl, a, nv f, rfl, ?_⟩
      rcases ha2 with hL | hT
      · refine .inl ⟨hL, fun t nt => ?_⟩
        have s3 := (s1.trans s2).trans (same_new (o := .tup (nv f)) nt)
        refine ⟨.ref a, rfl, a, f, n, rfl, ha.same s3, hf.len, n, rfl, by omega, fun H4 u s4 nu eu => ?_⟩
        exact fin s3 (.inl (.inl upd_same)) H4 u s4 eu
      · refine .inr ⟨hT, ?_⟩
        refine ⟨.ref a, rfl, a, f, n, rfl, ha.same (s1.trans s2), hf.len, n, rfl, by omega, fun H4 u s4 nu eu => ?_⟩
        exact fin (s1.trans s2) hT H4 u s4 eu
def spFewest (K : PySem.W.Frag) : Sp := fun vs H Q _ => ∃ (a : Addr) (f : List Nat) (n : Nat), vs = [.ref a] ∧ Sq K H a (nv f) ∧ IsPair (2 * n) f ∧ 0 < n ∧ n ≤ 50 ∧ hasW f n = true ∧
  ∀ (H' : Hp) (ls : List (List Nat)), Lo f n n ls → Same H H' → Q (.int ((n : Int) - (ls.length : Nat) + 2 * ((ls.filter (pureB f n)).length : Nat))) H'
theorem ok_p_fewest_calls (T : Env K mg) : FnOk P w K mg base CX0 5 T.f_p_fewest_calls T.d_p_fewest_calls ["sheet"] (spFewest K) := by
  have G0 : FnOk P w K mg base CX0 1 T.f_p_people_of T.d_p_people_of ["sheet"] (spPeople K) := ok_p_people_of T
  have GH : FnOk P w K mg base CX0 3 T.f_p_has_word T.d_p_has_word ["sheet"] (spHasWord K) := ok_p_has_word T
  have GL : FnOk P w K mg base CX0 3 T.f_p_loops T.d_p_loops ["sheet"] (spLoops K) := ok_p_loops T
  have GU : FnOk P w K mg base CX0 4 T.f_p_pure_loops T.d_p_pure_loops ["sheet"] (spPureL K) := ok_p_pure_loops T
  refine T.F_p_fewest_calls.ok sc_p_fewest_calls (fun vs H Q E h => ?_) (fun cdv A outer s H vs Q E hr h => ?_)
  · obtain ⟨a, f, n, rfl, _⟩ := h
    rfl
  · obtain ⟨a, f, n, rfl, ha, hf, h0, hn, hw, q⟩ := h
    have h1 := hr.mono (show 1 ≤ 4 by decide)
    have h3 := hr.mono (show 3 ≤ 4 by decide)
    refine ⟨_, pss_cons (ps_if (pt_not (pt_val (pe_call GH h3 (by rfl) T.g_p_has_word T.F_p_has_word.kp T.b_p_has_word .nil pass0 (pa_cons (pv 0) pa_nil)))) pss_never pss_nil) <|
      pss_one (ps_ret (pe_op op_add (pe_op op_sub (pe_call G0 h1 (by rfl) T.g_p_people_of T.F_p_people_of.kp T.b_p_people_of .nil pass0 (pa_cons (pv 0) pa_nil)) (pe_callB call_len_seq (by rfl) T.n_len PySem.boot_len (pa_cons (pe_call GL h3 (by rfl) T.g_p_loops T.F_p_loops.kp T.b_p_loops .nil pass0 (pa_cons (pv 0) pa_nil)) pa_nil)))
        (pe_op op_mul pe_int (pe_callB call_len_seq (by rfl) T.n_len PySem.boot_len (pa_cons (pe_call GU hr (by rfl) T.g_p_pure_loops T.F_p_pure_loops.kp T.b_p_pure_loops .nil pass0 (pa_cons (pv 0) pa_nil)) pa_nil))))), ?_⟩
    refine ⟨.ref a, rfl, a, f, n, rfl, ha, hf, h0, hn, fun H1 s1 => ⟨true, by rw [hw], iteN ?_⟩⟩
    have ha1 := ha.same s1
    refine ⟨.ref a, rfl, a, f, n, rfl, ha1, hf.len, .ref a, rfl, a, f, n, rfl, ha1, hf, by omega, fun H2 t as ls hL s2 nt et hT => ?_⟩
    refine ⟨t, _, rfl, .inl (.inl (.inl et)), _, _, rfl, rfl, .ref a, rfl, a, f, n, rfl, ha1.same s2, hf, by omega, fun H3 u bs ms hM s3 nu eu hU => ?_⟩
    have hb := hL.bound
    rw [hM.det hL] at hU
    have hbl : (ls.filter (pureB f n)).length ≤ n := Nat.le_trans (List.length_filter_le _ _) hb.1
    refine ⟨u, _, rfl, .inl (.inl (.inl eu)), _, _, rfl, rfl, ?_, _, _, rfl, rfl, ?_⟩
    · rw [List.length_map, hU.length]; exact .inl ⟨by omega, by omega⟩
    · show Q (.int (((n : Int) - ((as.map V.ref).length : Nat)) + 2 * ((bs.map V.ref).length : Nat))) H3
      rw [List.length_map, List.length_map, hT.length, hU.length]
      exact q H3 ls hL ((s1.trans s2).trans s3)
end
end Pc
namespace Pc
/-! ### calls taken back -/
/-- two classes are tied -/
theorem tie_two {n : Nat} {g g' : List Nat} {x z : Nat} (hg : IsPair (2 * n) g) (hn : 0 < n) (h : Cald (2 * n) g g' x z) (hx : n ≤ x) (hgx : n ≤ g.getD x 0) (hg' : IsPair (2 * n) g') (hz : z < n) (hP : Pu n g z) :
    PP n g' < PP n g ∧ LL n g = LL n g' + 1 := by
  have hb := emp_pair hn
  have nxz : ¬ Cn (eL n g) z x := fun c => low_not_pure hg hz hx h.hx hgx c hP
  have old := ed_old (b := emp n) hg h.hx h.hy
  have new := ed_new (b := emp n) hg h
  obtain ⟨E0, hE0⟩ : ∃ E0, E0 = e0 (2 * n) g (emp n) x (g.getD x 0) z (g.getD z 0) := ⟨_, rfl⟩
  have alone := fun w hw => not_alone (w := w) hg hb h.hx h.hy rfl rfl hw
  rw [← hE0] at old new alone
  have toO : ∀ {p q}, Cn E0 p q → Cn (eL n g) p q := fun {p q} c => (old p q).mpr c.up.up
  have toN : ∀ {p q}, Cn E0 p q → Cn (eL n g') p q := fun {p q} c => (new p q).mpr c.up.up
  have xu : Cn (eL n g) x (g.getD x 0) := eL_f h.hx
  have zv : Cn (eL n g) z (g.getD z 0) := eL_f h.hy
  have xz' : Cn (eL n g') x z := (new x z).mpr (.one (.inl (.inr ⟨rfl, rfl⟩)))
  have uv' : Cn (eL n g') (g.getD x 0) (g.getD z 0) := (new _ _).mpr (.one (.inl (.inl (.inr ⟨rfl, rfl⟩))))
  have c1 : Cn E0 x (g.getD x 0) := by
    obtain ⟨w', hw, nw, c⟩ := alone x (.inl rfl)
    rcases hw with e | e | e | e
    · exact absurd e nw
    · rw [e] at c; exact c
    · rw [e] at c; exact absurd (toO c).symm nxz
    · rw [e] at c; exact absurd (zv.trans (toO c).symm) nxz
  have c2 : Cn E0 z (g.getD z 0) := by
    obtain ⟨w', hw, nw, c⟩ := alone z (.inr (.inr (.inl rfl)))
    rcases hw with e | e | e | e
    · rw [e] at c; exact absurd (toO c) nxz
    · rw [e] at c; exact absurd ((toO c).trans xu.symm) nxz
    · exact absurd e nw
    · rw [e] at c; exact c
  have c3 : ¬ Cn E0 (g.getD x 0) (g.getD z 0) := fun c => nxz ((zv.trans (toO c).symm).trans xu.symm)
  have k1 : nc (2 * n) (eL n g) = nc (2 * n) E0 := by rw [nc_congr old, nc_ad_eq c1.up, nc_ad_eq c2]
  have k2 : nc (2 * n) (eL n g') + 1 = nc (2 * n) E0 := by
    have c4 : Cn (Ad (g.getD x 0) (g.getD z 0) E0) x z := (c1.up.trans (.one (.inl (.inr ⟨rfl, rfl⟩)))).trans c2.up.symm
    rw [nc_congr new, nc_ad_eq c4]
    exact nc_ad_lt (hg.d h.hx).1 (hg.d h.hy).1 c3
  rw [nc_LL] at k1 k2
  have low' : ∀ p, p < n → Cn (eL n g') p x → ¬ Pu n g' p := fun p hp c => by
    have xu' : Cn (eL n g') x (g.getD x 0) := toN c1
    by_cases cz : n ≤ g.getD z 0
    · exact low_not_pure hg' hp hgx (hg.d h.hx).1 (by rw [h.tu]; exact cz) (c.trans xu')
    · exact absurd (hP.2 z hz (.refl _)) cz
  have away : ∀ p, ¬ Cn (eL n g') p x → (∀ q, Cn (eL n g) p q ↔ Cn (eL n g') p q) ∧ ∀ q, Cn (eL n g') p q → q ≠ x ∧ q ≠ g.getD x 0 ∧ q ≠ z ∧ q ≠ g.getD z 0 := fun p n1 => by
    have n2 : ¬ Cn (eL n g') p (g.getD x 0) := fun c => n1 (c.trans (toN c1).symm)
    have n3 : ¬ Cn (eL n g') p z := fun c => n1 (c.trans xz'.symm)
    have n4 : ¬ Cn (eL n g') p (g.getD z 0) := fun c => n2 (c.trans uv'.symm)
    refine ⟨fun q => ⟨fun c => toN (away2 (fun c => n1 (toN c)) (fun c => n2 (toN c)) (fun c => n3 (toN c)) (fun c => n4 (toN c)) ((old p q).mp c)), fun c => (old p q).mpr ((away2 (fun c => n1 (toN c)) (fun c => n3 (toN c)) (fun c => n2 (toN c)) (fun c => n4 (toN c)) ((new p q).mp c)).up.up)⟩, fun q c => ⟨fun e => n1 (by rw [← e]; exact c), fun e => n2 (by rw [← e]; exact c), fun e => n3 (by rw [← e]; exact c), fun e => n4 (by rw [← e]; exact c)⟩⟩
  have keep : ∀ p, p < n → Lst1 (eL n g') p → Pu n g' p → Lst1 (eL n g) p ∧ Pu n g p := fun p hp hl hP' => by
    have n1 : ¬ Cn (eL n g') p x := fun c => low' p hp c hP'
    obtain ⟨a1, a2⟩ := away p n1
    refine ⟨fun y hy c => hl y hy ((a1 y).mp c.symm).symm, ?_, fun q hq c => ?_⟩
    · obtain ⟨q, q1, q2, q3⟩ := hP'.1
      exact ⟨q, q1, q2, (a1 q).mpr q3⟩
    · have c' := (a1 q).mp c
      obtain ⟨b1, b2, b3, b4⟩ := a2 q c'
      have := hP'.2 q hq c'
      rw [h.el q (by omega) b1 b2 b3 b4] at this; exact this
  have lt : PP n g' < PP n g := by
    obtain ⟨m, m1, m2, m3⟩ := least_of (E := eL n g) z
    have hmn : m < n := by omega
    refine cnt_lt (fun p hp hh => keep p hp hh.1 hh.2) ⟨m, hmn, ⟨m3, ?_⟩, fun hh => ?_⟩
    · refine ⟨?_, fun q hq c => hP.2 q hq (m2.symm.trans c)⟩
      obtain ⟨q, q1, q2, q3⟩ := hP.1
      by_cases e : m = z
      · rw [e]; exact ⟨q, q1, q2, q3⟩
      · exact ⟨z, hz, fun e2 => e e2.symm, m2⟩
    · have : Cn (eL n g') m x := by
        rcases Classical.em (Cn (eL n g') m x) with c | c
        · exact c
        · exact absurd ((away m c).1 z |>.mp m2) (fun c5 => c (c5.trans xz'.symm))
      exact low' m hmn this hh.2
  exact ⟨lt, by omega⟩
/-- one person is left alone -/
theorem tie_one {n : Nat} {g g' : List Nat} {x z o : Nat} (hg : IsPair (2 * n) g) (hn : 0 < n) (h : Cald (2 * n) g g' x z) (hg' : IsPair (2 * n) g') (hz : z < n) (hx : x = n + z) (ho : o < n) (hgx : g.getD x 0 = n + o)
    (hc : n ≤ g.getD z 0 ∨ g.getD o 0 < n) (hP : PP n g = 0) : PP n g' = 0 ∧ LL n g' = LL n g + 1 := by
  have hb := emp_pair hn
  have old := ed_old (b := emp n) hg h.hx h.hy
  have new := ed_new (b := emp n) hg h
  have hxz : oth n z = x := by unfold oth; rw [if_pos hz, hx, Nat.add_comm]
  have hzx : oth n x = z := by rw [← hxz]; exact oth_oth h.hy
  obtain ⟨E0, hE0⟩ : ∃ E0, E0 = e0 (2 * n) g (emp n) x (g.getD x 0) z (g.getD z 0) := ⟨_, rfl⟩
  have alone := fun w hw => not_alone (w := w) hg hb h.hx h.hy rfl rfl hw
  rw [← hE0] at old new alone
  have toN : ∀ {p q}, Cn E0 p q → Cn (eL n g') p q := fun {p q} c => (new p q).mpr c.up.up
  have xz0 : Cn E0 x z := .one (.inl (by rw [hE0]; exact ⟨h.hx, .inl (by rw [oth_emp h.hx, hzx])⟩))
  have xz' : Cn (eL n g') x z := toN xz0
  have uv' : Cn (eL n g') (g.getD x 0) (g.getD z 0) := (new _ _).mpr (.one (.inl (.inl (.inr ⟨rfl, rfl⟩))))
  -- the class of x without the four is x and z
  have only : ∀ w, Cn E0 x w → w = x ∨ w = z := fun w c => by
    induction c with
    | refl => exact .inl rfl
    | step _ e ih =>
      rw [hE0] at e
      rcases ih with ih | ih <;> rw [ih] at e
      · rcases e with ⟨_, e | ⟨_, e, _⟩⟩ | ⟨h1, e | ⟨e, e1, e2, e3, e4⟩⟩
        · rw [oth_emp h.hx, hzx] at e; exact .inr e
        · exact absurd rfl e
        · rw [oth_emp h1] at e; right; rw [← hzx, e, oth_oth h1]
        · have := (hg.d h1).2.2.1; rw [← e] at this; exact absurd this.symm e2
      · rcases e with ⟨_, e | ⟨_, _, _, e, _⟩⟩ | ⟨h1, e | ⟨e, e1, e2, e3, e4⟩⟩
        · rw [oth_emp h.hy, hxz] at e; exact .inl e
        · exact absurd rfl e
        · rw [oth_emp h1] at e; left; rw [← hxz, e, oth_oth h1]
        · have := (hg.d h1).2.2.1; rw [← e] at this; exact absurd this.symm e4
  have hux : g.getD x 0 ≠ x := (hg.d h.hx).2.1
  have huz : g.getD x 0 ≠ z := h.uy
  have hvz : g.getD z 0 ≠ z := (hg.d h.hy).2.1
  have hvx : g.getD z 0 ≠ x := fun e => huz (by rw [← e, (hg.d h.hy).2.2.1])
  have nxu : ¬ Cn E0 x (g.getD x 0) := fun c => (only _ c).elim hux huz
  have nxv : ¬ Cn E0 x (g.getD z 0) := fun c => (only _ c).elim hvx hvz
  have c2 : Cn E0 (g.getD x 0) (g.getD z 0) := by
    obtain ⟨w', hw, nw, c⟩ := alone (g.getD x 0) (.inr (.inl rfl))
    rcases hw with e | e | e | e
    · rw [e] at c; exact absurd c.symm nxu
    · exact absurd e nw
    · rw [e] at c; exact absurd (xz0.trans c.symm) nxu
    · rw [e] at c; exact c
  have c3 : ¬ Cn E0 z (g.getD z 0) := fun c => nxv (xz0.trans c)
  have k1 : nc (2 * n) (eL n g') = nc (2 * n) E0 := by rw [nc_congr new, nc_ad_eq xz0.up, nc_ad_eq c2]
  have k2 : nc (2 * n) (eL n g) + 1 = nc (2 * n) E0 := by
    have c4 : Cn (Ad z (g.getD z 0) E0) x (g.getD x 0) := (xz0.up.trans (.one (.inl (.inr ⟨rfl, rfl⟩)))).trans c2.up.symm
    rw [nc_congr old, nc_ad_eq c4]
    exact nc_ad_lt h.hy (hg.d h.hy).1 c3
  rw [nc_LL] at k1 k2
  have cls : ∀ w, Cn (eL n g') x w → w = x ∨ w = z := fun w c => by
    have c' := (new x w).mp c
    have one : ∀ w, Cn (Ad (g.getD x 0) (g.getD z 0) E0) x w → Cn E0 x w := fun w c => by
      rcases cn_ad c with c | ⟨c, _⟩ | ⟨c, _⟩
      · exact c
      · exact absurd c nxu
      · exact absurd c nxv
    rcases cn_ad c' with c' | ⟨_, c'⟩ | ⟨_, c'⟩
    · exact only _ (one _ c')
    · exact only _ (xz0.trans (one _ (xz0.up.trans c') |> fun d => xz0.symm.trans d))
    · exact only _ (one _ c')
  refine ⟨cnt_none fun p hp ⟨hl, hPu⟩ => ?_, by omega⟩
  rcases Classical.em (Cn (eL n g') p x) with cx | cx
  · obtain ⟨q, q1, q2, q3⟩ := hPu.1
    have r1 := cls p cx.symm
    have r2 := cls q (cx.symm.trans q3)
    have : p = z := by omega
    have : q = z := by omega
    omega
  · rcases Classical.em (Cn (eL n g') p (g.getD x 0)) with cu | cu
    · by_cases hv : n ≤ g.getD z 0
      · exact low_not_pure hg' hp (by rw [hgx]; omega) (hg.d h.hx).1 (by rw [h.tu]; exact hv) cu hPu
      · have hgo := hc.resolve_left hv
        have co : Cn (eL n g') p o := by
          have := eL_tie (n := n) (f := g') (x := g.getD x 0) (hg.d h.hx).1
          have e : oth n (g.getD x 0) = o := by unfold oth; rw [hgx, if_neg (by omega)]; omega
          rw [e] at this; exact cu.trans this
        have n1 : o ≠ x := by omega
        have n2 : o ≠ g.getD x 0 := by omega
        have n3 : o ≠ z := fun e => hux (by rw [hgx, hx, e])
        by_cases e4 : o = g.getD z 0
        · -- the other one is alone, too
          have hall : ∀ w, Cn (eL n g') (g.getD x 0) w → w = g.getD x 0 ∨ w = o := fun w c => by
            have hou : oth n o = g.getD x 0 := by unfold oth; rw [if_pos ho, hgx, Nat.add_comm]
            have huo : oth n (g.getD x 0) = o := by rw [← hou]; exact oth_oth (by omega)
            have t1 : g'.getD (g.getD x 0) 0 = o := by rw [h.tu, e4]
            have t2 : g'.getD o 0 = g.getD x 0 := by rw [e4]; exact h.tv
            have hul : g.getD x 0 < 2 * n := (hg.d h.hx).1
            induction c with
            | refl => exact .inl rfl
            | step _ e ih =>
              rcases ih with ih | ih <;> rw [ih] at e
              · rcases e with ⟨_, e | e⟩ | ⟨h1, e | e⟩
                · rw [t1] at e; exact .inr e
                · rw [oth_emp hul, huo] at e; exact .inr e
                · right; rw [← t1, e, (hg'.d h1).2.2.1]
                · rw [oth_emp h1] at e; right; rw [← huo, e, oth_oth h1]
              · rcases e with ⟨_, e | e⟩ | ⟨h1, e | e⟩
                · rw [t2] at e; exact .inl e
                · rw [oth_emp (by omega), hou] at e; exact .inl e
                · left; rw [← t2, e, (hg'.d h1).2.2.1]
                · rw [oth_emp h1] at e; left; rw [← hou, e, oth_oth h1]
          obtain ⟨q, q1, q2, q3⟩ := hPu.1
          have r1 := hall p cu.symm
          have r2 := hall q (cu.symm.trans q3)
          have : p = o := by omega
          have : q = o := by omega
          omega
        · have := hPu.2 o ho co
          rw [h.el o (by omega) n1 n2 n3 e4] at this; omega
    · have n3 : ¬ Cn (eL n g') p z := fun c => cx (c.trans xz'.symm)
      have n4 : ¬ Cn (eL n g') p (g.getD z 0) := fun c => cu (c.trans uv'.symm)
      have a1 : ∀ q, Cn (eL n g) p q ↔ Cn (eL n g') p q := fun q => ⟨fun c => toN (away2 (fun c => cx (toN c)) (fun c => cu (toN c)) (fun c => n3 (toN c)) (fun c => n4 (toN c)) ((old p q).mp c)), fun c => (old p q).mpr ((away2 (fun c => cx (toN c)) (fun c => n3 (toN c)) (fun c => cu (toN c)) (fun c => n4 (toN c)) ((new p q).mp c)).up.up)⟩
      have hne : PP n g ≠ 0 := cnt_ne ⟨p, hp, ⟨fun y hy c => hl y hy ((a1 y).mp c.symm).symm, ⟨by obtain ⟨q, q1, q2, q3⟩ := hPu.1; exact ⟨q, q1, q2, (a1 q).mpr q3⟩, fun q hq c => by
        have c' := (a1 q).mp c
        have := hPu.2 q hq c'
        rw [h.el q (by omega) (fun e => cx (by rw [← e]; exact c')) (fun e => cu (by rw [← e]; exact c')) (fun e => n3 (by rw [← e]; exact c')) (fun e => n4 (by rw [← e]; exact c'))] at this; exact this⟩⟩⟩
      exact hne hP
/-- no lower pair, no pure loop: the empty sheet -/
theorem all_alone {n : Nat} {g : List Nat} (hg : IsPair (2 * n) g) (hn : 0 < n) (hl : ∀ p, p < n → g.getD (n + p) 0 < n) (hP : PP n g = 0) : g = emp n := by
  have hb := emp_pair hn
  -- no upper pair either
  have hu : ∀ p, p < n → n ≤ g.getD p 0 := by
    intro p hp
    rcases Nat.lt_or_ge (g.getD p 0) n with c | c
    · exfalso
      have nd : ((List.range n).map fun q => g.getD (n + q) 0).Nodup := by
        have go : ∀ (l : List Nat), l.Nodup → (∀ q ∈ l, q < n) → (l.map fun q => g.getD (n + q) 0).Nodup := fun l => by
          induction l with
          | nil => intro _ _; exact List.nodup_nil
          | cons y l ih =>
            intro hd h1
            have hd' := List.nodup_cons.mp hd
            refine List.nodup_cons.mpr ⟨fun hm => ?_, ih hd'.2 (fun q hq => h1 q (List.mem_cons_of_mem _ hq))⟩
            obtain ⟨q, hq, e⟩ := List.mem_map.mp hm
            have hq' := h1 q (List.mem_cons_of_mem _ hq)
            have hy' := h1 y List.mem_cons_self
            have a := (hg.d (show n + q < 2 * n by omega)).2.2.1
            have e' : g.getD (n + q) 0 = g.getD (n + y) 0 := e
            rw [e', (hg.d (show n + y < 2 * n by omega)).2.2.1] at a
            have : q = y := by omega
            exact hd'.1 (by rw [← this]; exact hq)
        exact go _ List.nodup_range (fun q hq => List.mem_range.mp hq)
      have h1 := nd_sub (p :: (List.range n).map fun q => g.getD (n + q) 0) (List.range n) (List.nodup_cons.mpr ⟨fun hm => by
        obtain ⟨q, hq, e⟩ := List.mem_map.mp hm
        have hq' := List.mem_range.mp hq
        have a := (hg.d (show n + q < 2 * n by omega)).2.2.1
        rw [e] at a; omega, nd⟩) (fun y hy => by
        rcases List.mem_cons.mp hy with e | hy
        · rw [e]; exact List.mem_range.mpr hp
        · obtain ⟨q, hq, rfl⟩ := List.mem_map.mp hy
          exact List.mem_range.mpr (hl q (List.mem_range.mp hq)))
      rw [List.length_cons, List.length_map, List.length_range] at h1; omega
    · exact c
  have hs : ∀ p, p < n → g.getD p 0 = n + p := by
    intro p hp
    have hgp := (hg.d (show p < 2 * n by omega)).1
    have h1 := hu p hp
    rcases Classical.em (g.getD p 0 = n + p) with c | c
    · exact c
    · exfalso
      obtain ⟨m, m1, m2, m3⟩ := least_of (E := eL n g) p
      have cq : Cn (eL n g) p (g.getD p 0 - n) := by
        have := (eL_f (n := n) (f := g) (show p < 2 * n by omega)).trans (eL_tie hgp)
        unfold oth at this; rw [if_neg (by omega)] at this; exact this
      refine absurd hP (cnt_ne ⟨m, by omega, m3, ?_, fun q hq _ => hu q hq⟩)
      by_cases e : m = p
      · rw [e]; exact ⟨g.getD p 0 - n, by omega, by omega, cq⟩
      · exact ⟨p, hp, fun e2 => e e2.symm, m2⟩
  refine List.ext_getElem? fun i => ?_
  by_cases hi : i < 2 * n
  · rw [(hg.d hi).2.2.2, (hb.d hi).2.2.2]
    by_cases c : i < n
    · rw [hs i c, getD_of (emp_lo c)]
    · have e := hs (i - n) (by omega)
      have a := (hg.d (show i - n < 2 * n by omega)).2.2.1
      rw [e, show n + (i - n) = i by omega] at a
      have := emp_hi (n := n) (e := i - n) (by omega)
      rw [show n + (i - n) = i by omega] at this
      rw [a, getD_of this]
  · rw [List.getElem?_eq_none (by rw [hg.len]; omega), List.getElem?_eq_none (by rw [hb.len]; omega)]
end Pc
namespace Pc
open PySem PySem.Spec PyProof.Rows L2 RZ
/-! ### calls taken back: what is kept -/
theorem pair_ext {m : Nat} {f g : List Nat} (hf : IsPair m f) (hg : IsPair m g) (h : ∀ z, z < m → f.getD z 0 = g.getD z 0) : f = g := by
  refine List.ext_getElem? fun i => ?_
  by_cases hi : i < m
  · rw [(hf.d hi).2.2.2, (hg.d hi).2.2.2, h i hi]
  · rw [List.getElem?_eq_none (by rw [hf.len]; omega), List.getElem?_eq_none (by rw [hg.len]; omega)]
theorem jn_back {m : Nat} {g : List Nat} {A B X z : Nat} (hg : IsPair m g) (hA : A < m) (hB : B < m) (hz : z < m) (e : g.getD A 0 = B) (hX : X = A ∨ X = B) (zA : z ≠ A) (zB : z ≠ B) : jn (jn g X z) A B = g := by
  have dA := hg.d hA
  have hAB : A ≠ B := fun q => dA.2.1 (by rw [e, q])
  have eB : g.getD B 0 = A := by rw [← e]; exact dA.2.2.1
  have dz := hg.d hz
  have vA : g.getD z 0 ≠ A := fun q => zB (by rw [← dz.2.2.1, q, e])
  have vB : g.getD z 0 ≠ B := fun q => zA (by rw [← dz.2.2.1, q, eB])
  have hXm : X < m := by rcases hX with q | q <;> rw [q] <;> assumption
  have hXz : X ≠ z := by rcases hX with q | q <;> rw [q]; exact zA.symm; exact zB.symm
  have hgX : g.getD X 0 ≠ z := by
    rcases hX with q | q <;> rw [q]
    · rw [e]; exact zB.symm
    · rw [eB]; exact zA.symm
  have h1 := jn_cald hg hXz hXm hz hgX
  have p1 := jn_pair hg hXz hXm hz
  revert h1 p1
  generalize jn g X z = g'
  intro h1 p1
  have hAB' : g'.getD A 0 ≠ B := by
    rcases hX with q | q
    · rw [← q, h1.tx]; exact zB
    · have : g'.getD A 0 = g.getD z 0 := by have := h1.tu; rw [q, eB] at this; exact this
      rw [this]; exact vB
  have h2 := jn_cald p1 hAB hA hB hAB'
  refine pair_ext (jn_pair p1 hAB hA hB) hg fun w hw => ?_
  by_cases w1 : w = A
  · rw [w1, h2.tx, e]
  · by_cases w2 : w = B
    · rw [w2, h2.ty, eB]
    · rcases hX with q | q
      · subst q
        have tB : g'.getD B 0 = g.getD z 0 := by have := h1.tu; rw [e] at this; exact this
        by_cases w3 : w = z
        · have := h2.tu; rw [h1.tx, tB] at this; rw [w3]; exact this
        · by_cases w4 : w = g.getD z 0
          · have := h2.tv; rw [tB, h1.tx] at this; rw [w4, this, dz.2.2.1]
          · rw [h2.el w hw w1 (by rw [h1.tx]; exact w3) w2 (by rw [tB]; exact w4), h1.el w hw w1 (by rw [e]; exact w2) w3 w4]
      · subst q
        have tA : g'.getD A 0 = g.getD z 0 := by have := h1.tu; rw [eB] at this; exact this
        by_cases w3 : w = z
        · have := h2.tv; rw [h1.tx, tA] at this; rw [w3]; exact this
        · by_cases w4 : w = g.getD z 0
          · have := h2.tu; rw [tA, h1.tx] at this; rw [w4, this, dz.2.2.1]
          · rw [h2.el w hw w1 (by rw [tA]; exact w4) w2 (by rw [h1.tx]; exact w3), h1.el w hw w2 (by rw [eB]; exact w1) w3 w4]
theorem shw_cons {n : Nat} {q : Nat × Nat} {qs : List (Nat × Nat)} {g : List Nat} : shw n (q :: qs) g = shw n qs (jn g (n + q.1) (n + q.2)) := rfl
theorem los_none {n : Nat} {g : List Nat} (hg : IsPair (2 * n) g) (h : los g n = []) : ∀ p, p < n → g.getD (n + p) 0 < n := by
  have hno : ∀ x, x < n → ¬ loC g n x = true := fun x hx c => by
    have : loG g n x ∈ los g n := selN_mem.mpr ⟨x, hx, c, rfl⟩
    rw [h] at this; exact absurd this List.not_mem_nil
  intro p hp
  rcases Nat.lt_or_ge (g.getD (n + p) 0) n with c | c
  · exact c
  · exfalso
    obtain ⟨d1, d2, d3, _⟩ := hg.d (show n + p < 2 * n by omega)
    rcases Nat.lt_or_ge (n + p) (g.getD (n + p) 0) with c1 | c1
    · exact hno p hp (by unfold loC; exact decide_eq_true c1)
    · refine hno (g.getD (n + p) 0 - n) (by omega) ?_
      unfold loC
      rw [show n + (g.getD (n + p) 0 - n) = g.getD (n + p) 0 by omega, d3]
      exact decide_eq_true (by omega)
theorem Lo.mem {f : List Nat} {n i : Nat} {ls : List (List Nat)} (h : Lo f n i ls) : i ≤ n → ∀ t ∈ ls, ∃ x ps, x < n ∧ LoopL f n x ps ∧ t.Perm ps := by
  induction h with
  | zero => intro _ t ht; exact absurd ht List.not_mem_nil
  | skip _ _ ih => intro hi; exact ih (by omega)
  | @new i ls ps t _ _ hL hp _ ih =>
    intro hi u hu
    rcases List.mem_append.mp hu with hu | hu
    · exact ih (by omega) u hu
    · rw [List.mem_singleton.mp hu]; exact ⟨i, ps, by omega, hL, hp⟩
theorem Lo.nodup {f : List Nat} {n i : Nat} {ls : List (List Nat)} (hf : IsPair (2 * n) f) (h : Lo f n i ls) : i ≤ n → ls.flatten.Nodup := by
  induction h with
  | zero => intro _; exact List.nodup_nil
  | skip _ _ ih => intro hi; exact ih (by omega)
  | @new i ls ps t h1 hn hL hp _ ih =>
    intro hi
    have hc := (h1.count hf (by omega)).1
    rw [flat_snoc]
    refine List.nodup_append.mpr ⟨ih (by omega), hp.nodup_iff.mpr hL.nd, fun y hy z hz e => ?_⟩
    subst e
    obtain ⟨hy1, j, hj, c⟩ := (hc y).mp hy
    have c2 := ((loop_cn hf (show i < n by omega) hL y).mp (hp.mem_iff.mp hz)).2
    exact hn ((hc i).mpr ⟨by omega, j, hj, c.trans c2.symm⟩)
theorem Pu.mv {n : Nat} {g : List Nat} {i z : Nat} (h : Pu n g i) (c : Cn (eL n g) i z) (hi : i < n) : Pu n g z := by
  refine ⟨?_, fun q hq c2 => h.2 q hq (c.trans c2)⟩
  by_cases e : i = z
  · rw [← e]; exact h.1
  · exact ⟨i, hi, e, c.symm⟩
theorem LoopL.agree {f g : List Nat} {n x : Nat} {ps : List Nat} (h : LoopL f n x ps) (ha : ∀ p ∈ ps, g.getD p 0 = f.getD p 0 ∧ g.getD (n + p) 0 = f.getD (n + p) 0) : LoopL g n x ps := by
  have u : ∀ p ∈ ps, upE g n p = upE f n p ∧ loE g n p = loE f n p := fun p hp => by unfold upE loE; rw [(ha p hp).1, (ha p hp).2]; exact ⟨rfl, rfl⟩
  refine ⟨h.mem, h.nd, h.lt, fun p hp => by rw [(u p hp).1, (u p hp).2]; exact h.cl p hp, fun M hM hc p hp => ?_⟩
  have h1 := h.mn (M.filter fun q => decide (q ∈ ps)) (List.mem_filter.mpr ⟨hM, decide_eq_true h.mem⟩) (fun q hq => by
    obtain ⟨q1, q2⟩ := List.mem_filter.mp hq
    have q3 := of_decide_eq_true q2
    have c1 := hc q q1
    rw [(u q q3).1, (u q q3).2] at c1
    exact ⟨List.mem_filter.mpr ⟨c1.1, decide_eq_true (h.cl q q3).1⟩, List.mem_filter.mpr ⟨c1.2, decide_eq_true (h.cl q q3).2⟩⟩) p hp
  exact (List.mem_filter.mp h1).1
theorem flat_sub {l m : List (List Nat)} (h : l.Sublist m) : l.flatten.Sublist m.flatten := by
  induction h with
  | slnil => exact List.Sublist.refl _
  | cons a _ ih => rw [List.flatten_cons]; exact ih.trans (List.sublist_append_right _ _)
  | cons_cons a _ ih => rw [List.flatten_cons, List.flatten_cons]; exact (List.Sublist.refl _).append ih
structure Ub (n : Nat) (f : List Nat) (ts : List (List Nat)) (j : Nat) (g : List Nat) (qs : List (Nat × Nat)) : Prop where
  pr : IsPair (2 * n) g
  ok : Calls n qs
  sh : shw n qs.reverse g = f
  lp : j < ts.length → los g n ≠ []
  pp : PP n g + j ≤ PP n f
  ll : LL n g + j = LL n f
  ln : qs.length = j
  ag : ∀ t ∈ ts.drop j, ∀ p ∈ t, g.getD p 0 = f.getD p 0 ∧ g.getD (n + p) 0 = f.getD (n + p) 0
theorem Ub.step {n : Nat} {f g : List Nat} {ls ts : List (List Nat)} {j : Nat} {qs : List (Nat × Nat)} (hf : IsPair (2 * n) f) (hn : 0 < n) (hL : Lo f n n ls) (hts : ts = ls.filter (pureB f n)) (h : Ub n f ts j g qs) {t : List Nat} {z a b : Nat} (ht : ts[j]? = some t) (hz : z ∈ t) (hab : (a, b) ∈ los g n) :
    Ub n f ts (j + 1) (jn g (n + a) z) (qs ++ [(a, b)]) ∧ z < n ∧ a < b ∧ b < n := by
  obtain ⟨e0, hlt, hbn⟩ := los_mem h.pr hab
  replace e0 : g.getD (n + a) 0 = n + b := getD_of e0
  replace hlt : a < b := hlt
  replace hbn : b < n := hbn
  have hjl : j < ts.length := get_lt ht
  have hdrop : ts.drop j = t :: ts.drop (j + 1) := by
    rw [List.drop_eq_getElem_cons hjl]
    rw [List.getElem?_eq_getElem hjl] at ht
    rw [Option.some.inj ht]
  have htl : t ∈ ts := List.mem_of_getElem? ht
  have inl : ∀ {u}, u ∈ ts → u ∈ ls ∧ pureB f n u = true := fun {u} hu => by rw [hts] at hu; exact List.mem_filter.mp hu
  obtain ⟨i, ps, hi, hLp, hperm⟩ := hL.mem (Nat.le_refl _) t (inl htl).1
  have agt : ∀ p ∈ t, g.getD p 0 = f.getD p 0 ∧ g.getD (n + p) 0 = f.getD (n + p) 0 := h.ag t (by rw [hdrop]; exact List.mem_cons_self)
  have hLg : LoopL g n i ps := hLp.agree fun p hp => agt p (hperm.mem_iff.mpr hp)
  have hpf : Pu n f i := (pureB_iff hf hi hLp hperm).mp (inl htl).2
  have hpg : pureB g n t = true := by
    have := (inl htl).2
    unfold pureB at this ⊢
    rw [Bool.and_eq_true] at this ⊢
    refine ⟨this.1, List.all_eq_true.mpr fun p hp => ?_⟩
    have h2 := List.all_eq_true.mp this.2 p hp
    rw [(agt p hp).1]; exact h2
  have hPi : Pu n g i := (pureB_iff h.pr hi hLg hperm).mp hpg
  have hzc := (loop_cn h.pr hi hLg z).mp (hperm.mem_iff.mp hz)
  have hzn := hzc.1
  have hPz : Pu n g z := hPi.mv hzc.2 hi
  have hne : g.getD (n + a) 0 ≠ z := by rw [e0]; omega
  have hc := jn_cald h.pr (show n + a ≠ z by omega) (by omega) (show z < 2 * n by omega) hne
  have hp' := jn_pair h.pr (show n + a ≠ z by omega) (by omega) (show z < 2 * n by omega)
  obtain ⟨t1, t2⟩ := tie_two h.pr hn hc (by omega) (by rw [e0]; omega) hp' hzn hPz
  have hv := hPz.2 z hzn (.refl _)
  have hvl := (h.pr.d (show z < 2 * n by omega)).1
  have fin : IsPair (2 * n) (jn g (n + a) z) := hp'
  refine ⟨⟨hp', ?_, ?_, ?_, ?_, ?_, ?_, ?_⟩, hzn, hlt, hbn⟩
  · intro q hq
    rcases List.mem_append.mp hq with hq | hq
    · exact h.ok q hq
    · rw [List.mem_singleton.mp hq]; exact ⟨hlt, hbn⟩
  · rw [List.reverse_append]
    show shw n ((a, b) :: qs.reverse) (jn g (n + a) z) = f
    rw [shw_cons]
    show shw n qs.reverse (jn (jn g (n + a) z) (n + a) (n + b)) = f
    rw [jn_back h.pr (by omega) (by omega) (by omega) e0 (.inl rfl) (by omega) (by omega)]; exact h.sh
  · intro _ hl0
    have := los_none hp' hl0 b hbn
    have e1 := hc.tu
    rw [e0] at e1
    rw [e1] at this; omega
  · have := h.pp; omega
  · have := h.ll; omega
  · rw [List.length_append, h.ln]; rfl
  · intro t' ht' p hp
    have ht2 : t' ∈ ts.drop j := by rw [hdrop]; exact List.mem_cons_of_mem _ ht'
    have htl' : t' ∈ ts := List.mem_of_mem_drop ht2
    obtain ⟨i', ps', hi', hLp', hperm'⟩ := hL.mem (Nat.le_refl _) t' (inl htl').1
    have hpn : p < n := hLp'.lt p (hperm'.mem_iff.mp hp)
    have old := h.ag t' ht2 p hp
    -- the loops are apart
    have hnd : ts.flatten.Nodup := by
      have h1 := hL.nodup hf (Nat.le_refl _)
      rw [hts]
      exact h1.sublist (flat_sub (List.filter_sublist))
    have hnd2 : (ts.drop j).flatten.Nodup := hnd.sublist (flat_sub (List.drop_sublist _ _))
    rw [hdrop, List.flatten_cons] at hnd2
    have dis : ∀ y, y ∈ t → y ≠ p := fun y hy e => (List.nodup_append.mp hnd2).2.2 y hy p (List.mem_flatten.mpr ⟨t', ht', hp⟩) e
    have hgz : g.getD z 0 = f.getD z 0 := (agt z hz).1
    have hvt : f.getD z 0 - n ∈ t := by
      have := (hLp.cl z (hperm.mem_iff.mp hz)).1
      unfold upE at this
      have e2 : f.getD z 0 % n = f.getD z 0 - n := by rw [Nat.mod_eq_sub_mod (by omega), Nat.mod_eq_of_lt (by omega)]
      rw [e2] at this; exact hperm.mem_iff.mpr this
    have hPi' : Pu n f i' := (pureB_iff hf hi' hLp' hperm').mp (inl htl').2
    have low : f.getD (n + p) 0 < n := by
      rcases Nat.lt_or_ge (f.getD (n + p) 0) n with c | c
      · exact c
      · have cp := ((loop_cn hf hi' hLp' p).mp (hperm'.mem_iff.mp hp)).2
        have ct : Cn (eL n f) p (n + p) := by
          have := eL_tie (n := n) (f := f) (show p < 2 * n by omega)
          unfold oth at this; rw [if_pos hpn, Nat.add_comm] at this; exact this
        exact absurd hPi' (low_not_pure hf hi' (by omega) (by omega) c (cp.trans ct))
    have na : p ≠ a := fun e => by rw [← old.2, e, e0] at low; omega
    have nb : p ≠ b := fun e => by
      have := (h.pr.d (show n + a < 2 * n by omega)).2.2.1
      rw [e0, ← e, old.2] at this; omega
    have nz : p ≠ z := fun e => dis z hz e.symm
    have nv' : n + p ≠ g.getD z 0 := fun e => dis _ hvt (by rw [← hgz, ← e]; omega)
    rw [hc.el p (by omega) (by omega) (by rw [e0]; omega) nz (by omega), hc.el (n + p) (by omega) (by omega) (by rw [e0]; omega) (by omega) nv']
    exact old
theorem Ub.start {n : Nat} {f : List Nat} {ls ts : List (List Nat)} (hf : IsPair (2 * n) f) (hL : Lo f n n ls) (hts : ts = ls.filter (pureB f n)) (hw : los f n ≠ [] ∨ f = emp n) : Ub n f ts 0 f [] := by
  refine ⟨hf, fun q hq => absurd hq List.not_mem_nil, rfl, fun h => ?_, Nat.le_refl _, rfl, rfl, fun _ _ _ _ => ⟨rfl, rfl⟩⟩
  rcases hw with hw | hw
  · exact hw
  · have h1 := (hL.count hf (Nat.le_refl _)).2.2
    have h2 : PP n f = 0 := by rw [hw]; exact PP_emp
    have h3 : PP n f = (ls.filter (pureB f n)).length := h1.symm
    rw [hts] at h; omega
/-- the second loop -/
structure Ud (n : Nat) (f : List Nat) (g : List Nat) (qs : List (Nat × Nat)) : Prop where
  pr : IsPair (2 * n) g
  ok : Calls n qs
  sh : shw n qs.reverse g = f
  pp : PP n g = 0
  ct : qs.length + LL n f = 2 * PP n f + LL n g
theorem Ub.done {n : Nat} {f g : List Nat} {ls ts : List (List Nat)} {qs : List (Nat × Nat)} (hf : IsPair (2 * n) f) (hL : Lo f n n ls) (hts : ts = ls.filter (pureB f n)) (h : Ub n f ts ts.length g qs) : Ud n f g qs := by
  have h1 : PP n f = ts.length := by rw [hts]; exact ((hL.count hf (Nat.le_refl _)).2.2).symm
  have h2 := h.pp
  have h3 := h.ll
  have h4 := h.ln
  exact ⟨h.pr, h.ok, h.sh, by omega, by omega⟩
theorem Ud.step {n : Nat} {f g : List Nat} {qs : List (Nat × Nat)} (hn : 0 < n) (h : Ud n f g qs) {a b x : Nat} (hab : (a, b) ∈ los g n) (hx : x = if n ≤ g.getD a 0 then a else b) :
    Ud n f (jn g (n + x) x) (qs ++ [(a, b)]) ∧ LL n (jn g (n + x) x) = LL n g + 1 ∧ a < b ∧ b < n ∧ x < n := by
  obtain ⟨e0, hlt, hbn⟩ := los_mem h.pr hab
  replace e0 : g.getD (n + a) 0 = n + b := getD_of e0
  replace hlt : a < b := hlt
  replace hbn : b < n := hbn
  have eB : g.getD (n + b) 0 = n + a := by rw [← e0]; exact (h.pr.d (by omega)).2.2.1
  have hxn : x < n := by rw [hx]; split <;> omega
  obtain ⟨o, ho, hgx, hxo, hcc⟩ : ∃ o, o < n ∧ g.getD (n + x) 0 = n + o ∧ (x = a ∨ x = b) ∧ (n ≤ g.getD x 0 ∨ g.getD o 0 < n) := by
    by_cases c : n ≤ g.getD a 0
    · rw [if_pos c] at hx; subst hx; exact ⟨b, hbn, e0, .inl rfl, .inl c⟩
    · rw [if_neg c] at hx; subst hx; exact ⟨a, by omega, eB, .inr rfl, .inr (by omega)⟩
  have hne : g.getD (n + x) 0 ≠ x := by rw [hgx]; omega
  have hc := jn_cald h.pr (show n + x ≠ x by omega) (by omega) (show x < 2 * n by omega) hne
  have hp' := jn_pair h.pr (show n + x ≠ x by omega) (by omega) (show x < 2 * n by omega)
  obtain ⟨t1, t2⟩ := tie_one h.pr hn hc hp' hxn rfl ho hgx hcc h.pp
  refine ⟨⟨hp', ?_, ?_, t1, ?_⟩, t2, hlt, hbn, hxn⟩
  · intro q hq
    rcases List.mem_append.mp hq with hq | hq
    · exact h.ok q hq
    · rw [List.mem_singleton.mp hq]; exact ⟨hlt, hbn⟩
  · rw [List.reverse_append]
    show shw n ((a, b) :: qs.reverse) (jn g (n + x) x) = f
    rw [shw_cons]
    show shw n qs.reverse (jn (jn g (n + x) x) (n + a) (n + b)) = f
    rw [jn_back h.pr (by omega) (by omega) (by omega) e0 (by rcases hxo with q | q <;> rw [q]; exact .inl rfl; exact .inr rfl) (by omega) (by omega)]; exact h.sh
  · rw [List.length_append, List.length_singleton]; have := h.ct; omega
theorem Ud.done {n : Nat} {f g : List Nat} {qs : List (Nat × Nat)} (hn : 0 < n) (h : Ud n f g qs) (hl : los g n = []) : shw n qs.reverse (emp n) = f ∧ qs.length + LL n f = 2 * PP n f + n := by
  have e := all_alone h.pr hn (los_none h.pr hl) h.pp
  have h1 := h.sh
  have h2 := h.ct
  rw [e] at h1 h2
  rw [LL_emp] at h2
  exact ⟨h1, h2⟩
end Pc
namespace Pc
open PySem PySem.Spec PyProof.Rows L2 RZ
/-! ### xs[::-1] of a list -/
def backV {α : Type} (xs : List α) : List α := (sliceRange ((xs.length : Int) - 1) (-1) (-1)).filterMap (xs[·]?)
theorem pick_vals {xs : List V} {its : List Value} (r : Vals xs its) : ∀ l : List Nat, Vals (l.filterMap (xs[·]?)) (l.filterMap (its[·]?))
  | [] => .nil
  | i :: l => by
    cases e : xs[i]? with
    | none =>
      have h := List.getElem?_eq_none_iff.mp e
      have e2 : its[i]? = none := List.getElem?_eq_none_iff.mpr (by rw [← r.length]; exact h)
      rw [List.filterMap_cons_none e, List.filterMap_cons_none e2]
      exact pick_vals r l
    | some v =>
      obtain ⟨u, hu, ru⟩ := r.get e
      rw [List.filterMap_cons_some e, List.filterMap_cons_some hu]
      exact .cons ru (pick_vals r l)
theorem back_len {α : Type} (xs : List α) : (backV xs).length ≤ xs.length := by
  unfold backV
  exact Nat.le_trans (List.length_filterMap_le _ _) (sliceRange_length_le _ _ _ _ (fun h => absurd h (by decide)) (fun _ => ⟨Int.le_refl _, Int.le_refl _⟩))
theorem back_mem {α : Type} {xs : List α} {x : α} (h : x ∈ backV xs) : x ∈ xs := by
  obtain ⟨i, _, e⟩ := List.mem_filterMap.mp h
  exact List.mem_of_getElem? e
theorem back_nv (l : List Nat) : backV (nv l) = nv (backV l) := by
  unfold backV nv
  rw [List.length_map, List.map_filterMap]
  refine congrArg (fun f => List.filterMap f _) (funext fun i => ?_)
  rw [List.getElem?_map]
theorem slice_back (its : List Value) : slicePick its.toArray none none (some (-1)) = (backV its).toArray := by
  unfold slicePick backV
  simp [sliceBounds]
def tRevL (K : PySem.W.Frag) (te : TE) : TE := fun σ H Q => te σ H fun x H1 => ∃ a xs, x = .ref a ∧ SqL K H1 a xs ∧ ∀ p, H1 p = none → Q (.ref p) (upd H1 p (.lst (backV xs)))
theorem pe_revL {X : Cx} {e : Expr} {te : TE} {k : Nat} {p1 p2 p3 pos : Pos} (he : PE X e te) : PE X (.Subscript e (.Slice none none (some (.UnaryOp .USub (.Constant (.int 1) k p1) p2)) p3) pos) (tRevL X.K te) := by
  constructor
  intro pins s σ H Q I h
  refine Subscript_ (thn (he.run pins s σ H _ I h) fun v s1 r => ?_)
  obtain ⟨x, H1, I1, r1, a, xs, ex, hx, q⟩ := r
  subst ex
  cases r1
  have hst : PO X (some (.UnaryOp .USub (.Constant (.int 1) k p1) p2)) (tPart (tUn (rU fun i => .int (-i)) (tC (.int 1)))) := po_some (pe_un un_neg pe_int)
  refine wpAny_Slice (thn (po_none.run pins s1 σ H1 (fun o H2 => o = none ∧ H2 = H1) I1 ⟨rfl, rfl⟩) fun vl s2 ⟨l, H2, I2, pl, el, e2⟩ => ?_)
  subst el e2
  refine thn (po_none.run pins s2 σ H2 (fun o H3 => o = none ∧ H3 = H2) I2 ⟨rfl, rfl⟩) fun vu s3 ⟨u, H3, I3, pu, eu, e3⟩ => ?_
  subst eu e3
  refine thn (hst.run pins s3 σ H3 (fun o H4 => o = some (-1) ∧ H4 = H3) I3 ⟨1, rfl, -1, rfl, rfl, rfl⟩) fun vs s4 ⟨o, H4, I4, ps, eo, e4⟩ => ?_
  subst eo e4
  cases pl
  cases pu
  have I5 : Inv X pins σ H4 { s4 with heap := s4.heap.push { cls := .type "slice", data := .fields #[.none, .none, vs] } } := I4.kept (t' := s4.toks) fun b ob q => Heap.get?_push_of_some _ q
  obtain ⟨its, r, ht, hz⟩ := I5.list hx
  have hlen := r.length
  show wpAny (model X.prog X.w) X.A (subscriptTail e (.Slice none none (some (.UnaryOp .USub (.Constant (.int 1) k p1) p2)) p3) (.ref a) (.ref s4.heap.objs.size)) (EP X pins σ Q) X.xe _
  refine tail_any (ops := [.ref a, .ref s4.heap.objs.size]) ht.isList.typeIs PySem.F.slot_list_getitem.lookup ?_ (by with_unfolding_all rfl)
  refine wpAny_getItem_list_slice ht.isList (Heap.IsSliceOf.new _ .none .none vs) .none .none ps (by simp) ?_ (by rw [List.size_toArray] <;> omega)
  rw [slice_back]
  refine ⟨.ref _, _, I5.laid (t' := s4.toks) (o := .lst (backV xs)) (fun b ob q => Heap.get?_push_of_some _ q) (Nat.le_refl _) ?_, rfl, q _ (I5.hok.fresh (Nat.le_refl _))⟩
  refine ⟨Nat.le_trans (back_len xs) hz, _, 0, ?_, Heap.get?_push_size _ rfl⟩
  unfold backV
  rw [hlen]
  exact pick_vals r _
end Pc
namespace Pc
open PySem PySem.Spec PyProof.Rows L2 RZ
theorem pick_take {α : Type} (ys : List α) : ∀ n, n ≤ ys.length → (List.range n).filterMap (ys[·]?) = ys.take n
  | 0, _ => rfl
  | n + 1, h => by
    rw [List.range_succ, List.filterMap_append, pick_take ys n (by omega), List.take_add_one]
    have : ys[n]? = some ys[n] := List.getElem?_eq_getElem (by omega)
    rw [List.filterMap_cons_some this, List.filterMap_nil, this]; rfl
theorem fm_congr {α β : Type} {f g : α → Option β} : ∀ (l : List α), (∀ k ∈ l, f k = g k) → l.filterMap f = l.filterMap g
  | [], _ => rfl
  | k :: l, h => by
    rw [List.filterMap_cons, List.filterMap_cons, h k List.mem_cons_self, fm_congr l fun x hx => h x (List.mem_cons_of_mem _ hx)]
theorem back_rev {α : Type} (xs : List α) : backV xs = xs.reverse := by
  have e : sliceRange ((xs.length : Int) - 1) (-1) (-1) = (List.range xs.length).map fun k => xs.length - 1 - k := by
    unfold sliceRange
    have hc : (if (-1 : Int) > 0 then (if (xs.length : Int) - 1 < -1 then (-1 - ((xs.length : Int) - 1) + -1 - 1) / -1 else 0) else (if (xs.length : Int) - 1 > -1 then ((xs.length : Int) - 1 - -1 - -1 - 1) / (- -1) else 0)).toNat = xs.length := by
      rw [if_neg (by decide)]
      rw [show (- -1 : Int) = 1 from rfl, Int.ediv_one]
      split
      · omega
      · omega
    show (List.range (if (-1 : Int) > 0 then (if (xs.length : Int) - 1 < -1 then (-1 - ((xs.length : Int) - 1) + -1 - 1) / -1 else 0) else (if (xs.length : Int) - 1 > -1 then ((xs.length : Int) - 1 - -1 - -1 - 1) / (- -1) else 0)).toNat).map (fun (k : Nat) => ((xs.length : Int) - 1 + -1 * (k : Int)).toNat) = _
    rw [hc]
    exact List.map_congr_left fun k _ => by omega
  unfold backV
  rw [e, List.filterMap_map]
  have h1 : (List.range xs.length).filterMap ((fun x => xs[x]?) ∘ fun k => xs.length - 1 - k) = (List.range xs.length).filterMap (xs.reverse[·]?) := by
    refine fm_congr _ fun k hk => ?_
    have := List.mem_range.mp hk
    rw [List.getElem?_reverse (by omega)]; rfl
  rw [h1]
  have h2 := pick_take xs.reverse xs.length (by rw [List.length_reverse]; exact Nat.le_refl _)
  rw [h2, List.take_of_length_le (by rw [List.length_reverse]; exact Nat.le_refl _)]
theorem prs_rev {H : Hp} : ∀ {as : List Addr} {qs : List (Nat × Nat)}, Prs H as qs → Prs H as.reverse qs.reverse
  | _, _, .nil => .nil
  | _, _, .cons (a := a) (b := q) h r => by
    rw [List.reverse_cons, List.reverse_cons]
    exact prs_append (prs_rev r) (.cons h .nil)
theorem PP_le {n : Nat} {f : List Nat} : PP n f ≤ n := by
  have := cnt_le (n := n) (p := fun _ => True) (q := fun x => Lst1 (eL n f) x ∧ Pu n f x) (fun _ _ _ => trivial)
  rw [cnt_all (fun _ _ => trivial)] at this; exact this
end Pc
namespace Pc
open PySem PySem.Spec PyProof.Rows L2 RZ
section
variable {P : Program} {w : World} {K : PySem.W.Frag} {mg : Str → Option Value} {base : Heap}
/-! ### calls taken back, by the program -/
theorem prs_head {H : Hp} {as : List Addr} {qs : List (Nat × Nat)} (h : Prs H as qs) (hq : qs ≠ []) : ∃ c cs q rs, as = c :: cs ∧ qs = q :: rs ∧ H c = some (.tup [.int q.1, .int q.2]) := by
  cases h with
  | nil => exact absurd rfl hq
  | cons h r => exact ⟨_, _, _, _, rfl, rfl, h⟩
def spUndone (K : PySem.W.Frag) : Sp := fun vs H Q _ => ∃ (e p : Addr) (f : List Nat) (n : Nat) (ls : List (List Nat)) (as : List Addr), vs = [.ref e, .ref p] ∧ H e = some (.lst (nv f)) ∧ H p = some (.lst (as.map V.ref)) ∧ Tups H as (ls.filter (pureB f n)) ∧ e ≠ p ∧ IsPair (2 * n) f ∧ Lo f n n ls ∧ 0 < n ∧ n ≤ 50 ∧ hasW f n = true ∧
  ∀ (H' : Hp) (t : Addr) (bs : List Addr) (qs : List (Nat × Nat)), Calls n qs → shw n qs.reverse (emp n) = f → qs.length + LL n f = 2 * PP n f + n → Keep e H H' → H t = none → H' t = some (.lst (bs.map V.ref)) → Prs H' bs qs → Q (.ref t) H'
theorem ok_p_undone_calls (T : Env K mg) : FnOk P w K mg base CX0 3 T.f_p_undone_calls T.d_p_undone_calls ["ends", "pure"] (spUndone K) := by
  have G0 : FnOk P w K mg base CX0 1 T.f_p_people_of T.d_p_people_of ["sheet"] (spPeople K) := ok_p_people_of T
  have GL : FnOk P w K mg base CX0 2 T.f_p_lower_pairs T.d_p_lower_pairs ["sheet"] (spPairs K los) := ok_p_lower_pairs T
  have GJ : FnOk P w K mg base CX0 1 T.f_p_join_two T.d_p_join_two ["joined", "a", "b"] spJoin := ok_p_join_two T
  refine T.F_p_undone_calls.ok sc_p_undone_calls (fun vs H Q E h => ?_) (fun cdv A outer s H vs Q E hr h => ?_)
  · obtain ⟨e, p, f, n, ls, as, rfl, _⟩ := h
    rfl
  · obtain ⟨e, p, f, n, ls, as, rfl, he, hp, hT, hep, hf, hL, h0, hn, hw, q⟩ := h
    have h1 := hr.mono (show 1 ≤ 2 by decide)
    refine ⟨_, pss_cons (ps_set (i := 2) sc_p_undone_calls.nd rfl (.inl rfl) (pe_call G0 h1 (by rfl) T.g_p_people_of T.F_p_people_of.kp T.b_p_people_of .nil pass0 (pa_cons (pv 0) pa_nil))) <|
      pss_cons (ps_set (i := 3) sc_p_undone_calls.nd rfl (.inl rfl) (pe_lst pa_nil)) <|
      pss_cons (ps_for PassesOwn.never rfl (pi_list (pv 1)) (pg_name (i := 4) sc_p_undone_calls.nd rfl (.inl rfl))
        (pss_cons (ps_asg (pe_ix ix_list (pe_call GL hr (by rfl) T.g_p_lower_pairs T.F_p_lower_pairs.kp T.b_p_lower_pairs .nil pass0 (pa_cons (pv 0) pa_nil)) pe_int (fun _ _ => rfl)) (pg_tup rfl (pgs_cons (pg_name (i := 5) sc_p_undone_calls.nd rfl (.inl rfl)) (pgs_cons (pg_name (i := 6) sc_p_undone_calls.nd rfl (.inl rfl)) pgs_nil)))) <|
        pss_cons (ps_expr (pe_call GJ h1 (by rfl) T.g_p_join_two T.F_p_join_two.kp T.b_p_join_two .nil pass0 (pa_cons (pv 0) (pa_cons (pe_op op_add (pv 2) (pv 5)) (pa_cons (pe_ix ix_tup (pv 4) pe_int (fun _ _ => rfl)) pa_nil))))) <|
        pss_one (ps_expr (pe_bm PySem.F.plainAttrs_list PySem.F.slot_list_append PySem.F.type_list_append mt_append (pv 3) (pa_cons (pe_tup (pa_cons (pv 5) (pa_cons (pv 6) pa_nil))) pa_nil))))) <|
      pss_cons (ps_while PassesOwn.never (pt_truth (pe_call GL hr (by rfl) T.g_p_lower_pairs T.F_p_lower_pairs.kp T.b_p_lower_pairs .nil pass0 (pa_cons (pv 0) pa_nil)) (fun _ => rfl))
        (pss_cons (ps_asg (pe_ix ix_list (pe_call GL hr (by rfl) T.g_p_lower_pairs T.F_p_lower_pairs.kp T.b_p_lower_pairs .nil pass0 (pa_cons (pv 0) pa_nil)) pe_int (fun _ _ => rfl)) (pg_tup rfl (pgs_cons (pg_name (i := 5) sc_p_undone_calls.nd rfl (.inl rfl)) (pgs_cons (pg_name (i := 6) sc_p_undone_calls.nd rfl (.inl rfl)) pgs_nil)))) <|
        pss_cons (ps_set (i := 7) sc_p_undone_calls.nd rfl (.inl rfl) (pe_ifExp (pt_cmpR op_ge (pe_ix ix_list (pv 0) (pv 5) (fun _ _ => rfl)) (pv 2) (nomark _)) (pv 5) (pv 6))) <|
        pss_cons (ps_expr (pe_call GJ h1 (by rfl) T.g_p_join_two T.F_p_join_two.kp T.b_p_join_two .nil pass0 (pa_cons (pv 0) (pa_cons (pe_op op_add (pv 2) (pv 7)) (pa_cons (pv 7) pa_nil))))) <|
        pss_one (ps_expr (pe_bm PySem.F.plainAttrs_list PySem.F.slot_list_append PySem.F.type_list_append mt_append (pv 3) (pa_cons (pe_tup (pa_cons (pv 5) (pa_cons (pv 6) pa_nil))) pa_nil))))) <|
      pss_one (ps_ret (pv 3)), ?_⟩
    refine ⟨.ref e, rfl, e, f, n, rfl, .inl (.inl (.inl he)), hf.len, ?_⟩
    refine st_set [some (.ref e), some (.ref p), some (.int (n : Nat)), none, none, none, none, none] ?_ rfl
    refine ⟨by show 0 ≤ sizeLine; decide, fun u nu => ?_⟩
    have s1 : Same H (upd H u (.lst [])) := same_new nu
    have eu : (upd H u (.lst [])) u = some (.lst []) := upd_same
    revert s1 eu
    generalize upd H u (.lst []) = H1
    intro s1 eu
    have ue : u ≠ e := fun z => by rw [z, he] at nu; cases nu
    have up : u ≠ p := fun z => by rw [z, hp] at nu; cases nu
    refine st_set [some (.ref e), some (.ref p), some (.int (n : Nat)), some (.ref u), none, none, none, none] ?_ rfl
    obtain ⟨ts, hts⟩ : ∃ ts, ts = ls.filter (pureB f n) := ⟨_, rfl⟩
    rw [← hts] at hT
    have hw' : los f n ≠ [] ∨ f = emp n := by
      unfold hasW at hw
      rw [Bool.or_eq_true] at hw
      rcases hw with c | c
      · left; intro z; rw [z] at c; exact absurd c (by decide)
      · exact .inr (of_decide_eq_true c)
    have hb := hL.bound
    have htl : ts.length ≤ n := by rw [hts]; exact Nat.le_trans (List.length_filter_le _ _) hb.1
    refine ⟨.ref p, rfl, p, rfl, ⟨_, .inl (.inl (s1 _ _ hp))⟩, ?_⟩
    refine for_list (xs := as.map V.ref) (fun j σ H' => Keep e H H' ∧ ∃ (y4 y5 y6 : Option V) (bs : List Addr) (g : List Nat) (qs : List (Nat × Nat)), σ = [some (.ref e), some (.ref p), some (.int (n : Nat)), some (.ref u), y4, y5, y6, none] ∧ Ub n f ts j g qs ∧ H' e = some (.lst (nv g)) ∧ H' u = some (.lst (bs.map V.ref)) ∧ Prs H' bs qs)
      ⟨.of_same s1, none, none, none, [], f, [], rfl, Ub.start hf hL hts hw', s1 _ _ he, eu, .nil⟩ (fun j σ H' _ h => .inl (.inl (h.1 _ _ hep.symm hp))) (fun j v σ H' hv h => ?_) (fun σ H' h => ?_)
    · obtain ⟨kH, y4, y5, y6, bs, g, qs, rfl, hU, eg, eb, hB⟩ := h
      rw [List.getElem?_map] at hv
      obtain ⟨t, ht', rfl⟩ := Option.map_eq_some_iff.mp hv
      obtain ⟨l, el, ht⟩ := tups_get hT ht'
      have hlm : l ∈ ls := by rw [hts] at el; exact (List.mem_filter.mp (List.mem_of_getElem? el)).1
      obtain ⟨z, hz0⟩ : ∃ z, l[0]? = some z := ⟨_, List.getElem?_eq_getElem (hb.2 l hlm).1⟩
      have hz := List.mem_of_getElem? hz0
      have hlos := hU.lp (get_lt el)
      have tte : t ≠ e := fun z => by rw [z, he] at ht; cases ht
      have ht2 := kH _ _ tte ht
      refine st_set [some (.ref e), some (.ref p), some (.int (n : Nat)), some (.ref u), some (.ref t), y5, y6, none] ?_ rfl
      refine ⟨.ref e, rfl, e, g, n, rfl, .inl (.inl (.inl eg)), hU.pr, by omega, fun H2 pl al s2 npl epl hA => ?_⟩
      obtain ⟨c, cs, ab, rs, rfl, hq, hc⟩ := prs_head hA hlos
      have hmem : (ab.1, ab.2) ∈ los g n := by rw [hq]; exact List.mem_cons_self
      obtain ⟨hU2, hzn, hlt, hbn⟩ := hU.step hf h0 hL hts el hz hmem
      refine ⟨pl, _, _, V.ref c, rfl, rfl, .inl (.inl epl), atI_nat (j := 0) rfl, ?_⟩
      refine ⟨c, _, rfl, .inl (.inl hc), rfl, _, _, rfl, _, _, rfl, rfl, ?_⟩
      refine st_set [some (.ref e), some (.ref p), some (.int (n : Nat)), some (.ref u), some (.ref t), some (.int (ab.1 : Nat)), some (.int (ab.2 : Nat)), none] ?_ rfl
      have ht3 := s2 _ _ ht2
      refine ⟨.ref e, rfl, _, rfl, _, rfl, _, _, rfl, rfl, _, rfl, t, _, _, .int (z : Nat), rfl, rfl, .inl (.inl ht3), nv_at (i := 0) hz0, e, g, 2 * n, n + ab.1, z, rfl, s2 _ _ eg, hU.pr, by omega, by omega, fun H3 e3 k3 => ?_⟩
      have eb3 : H3 u = some (.lst (bs.map V.ref)) := k3 _ _ ue (s2 _ _ eb)
      have hB3 := prs_keep k3 (s2 _ _ eg) (prs_same s2 hB)
      refine ⟨.ref u, rfl, .inl ⟨rfl, _, .inl (.inl eb3)⟩, _, rfl, _, rfl, by show 2 ≤ sizeLine; decide, fun d nd => ?_⟩
      have s4 : Same H3 (upd H3 d (.tup [.int (ab.1 : Nat), .int (ab.2 : Nat)])) := same_new nd
      have ed : (upd H3 d (.tup [.int (ab.1 : Nat), .int (ab.2 : Nat)])) d = some (.tup [.int (ab.1 : Nat), .int (ab.2 : Nat)]) := upd_same
      revert s4 ed
      generalize upd H3 d (.tup [.int (ab.1 : Nat), .int (ab.2 : Nat)]) = H4
      intro s4 ed
      have eb4 := s4 _ _ eb3
      have hlen := hU.ln
      have hjt := get_lt el
      refine ⟨u, _, _, rfl, rfl, eb4, line_big (by rw [List.length_map, hB.length]; omega), ?_⟩
      have k5 : Keep u H4 (upd H4 u (.lst (bs.map V.ref ++ [.ref d]))) := keep_upd
      have du : d ≠ u := fun z => by rw [z, eb3] at nd; cases nd
      refine ⟨fun y o ny hy => ?_, _, _, _, bs ++ [d], _, _, rfl, hU2, ?_, ?_, ?_⟩
      · exact k5 y o (ne_of_none hy nu) (s4 _ _ (k3 _ _ ny (s2 _ _ (kH y o ny hy))))
      · exact k5 _ _ ue.symm (s4 _ _ e3)
      · rw [upd_same, List.map_append]; rfl
      · exact prs_append (prs_keep k5 eb4 (prs_same s4 hB3)) (.cons (k5 _ _ du ed) .nil)
    · obtain ⟨kH, y4, y5, y6, bs, g, qs, rfl, hU, eg, eb, hB⟩ := h
      rw [List.length_map, hT.length] at hU
      have hD := hU.done hf hL hts
      refine ⟨fun m σ H' => Keep e H H' ∧ ∃ (y5 y6 y7 : Option V) (bs : List Addr) (g : List Nat) (qs : List (Nat × Nat)), σ = [some (.ref e), some (.ref p), some (.int (n : Nat)), some (.ref u), y4, y5, y6, y7] ∧ Ud n f g qs ∧ H' e = some (.lst (nv g)) ∧ H' u = some (.lst (bs.map V.ref)) ∧ Prs H' bs qs ∧ n - LL n g = m,
        ⟨_, kH, y5, y6, none, bs, g, qs, rfl, hD, eg, eb, hB, rfl⟩, fun m σ H' hW => ?_⟩
      clear kH hB eb eg hD hU
      obtain ⟨kH, y5, y6, y7, bs, g, qs, rfl, hD, eg, eb, hB, hm⟩ := hW
      refine ⟨.ref e, rfl, e, g, n, rfl, .inl (.inl (.inl eg)), hD.pr, by omega, fun H2 pl al s2 npl epl hA => ?_⟩
      refine ⟨_, .inl ⟨_, .inl (.inl epl), rfl⟩, ite2 (fun c => ?_) (fun c => ?_)⟩
      · have hlos : los g n ≠ [] := fun z => by
          rw [z] at hA
          cases hA
          exact absurd c (by decide)
        refine ⟨fun σ' H3 => Keep e H H3 ∧ ∃ (y5 y6 y7 : Option V) (bs : List Addr) (g : List Nat) (qs : List (Nat × Nat)), σ' = [some (.ref e), some (.ref p), some (.int (n : Nat)), some (.ref u), y4, y5, y6, y7] ∧ Ud n f g qs ∧ H3 e = some (.lst (nv g)) ∧ H3 u = some (.lst (bs.map V.ref)) ∧ Prs H3 bs qs ∧ n - LL n g < m, fun σ' H3 h2 => ?_, ?_⟩
        · obtain ⟨g1, y5', y6', y7', b', g', q', g2, g3, g4, g5, g6, g7⟩ := h2
          exact ⟨_, g7, g1, y5', y6', y7', b', g', q', g2, g3, g4, g5, g6, rfl⟩
        have eg2 := s2 _ _ eg
        refine ⟨.ref e, rfl, e, g, n, rfl, .inl (.inl (.inl eg2)), hD.pr, by omega, fun H3 pl2 al2 s3 npl2 epl2 hA2 => ?_⟩
        obtain ⟨c2, cs, ab, rs, rfl, hq, hc⟩ := prs_head hA2 hlos
        have hmem : (ab.1, ab.2) ∈ los g n := by rw [hq]; exact List.mem_cons_self
        obtain ⟨x, hx⟩ : ∃ x, x = if n ≤ g.getD ab.1 0 then ab.1 else ab.2 := ⟨_, rfl⟩
        obtain ⟨hD2, hLL, hlt, hbn, hxn⟩ := hD.step h0 hmem hx
        refine ⟨pl2, _, _, V.ref c2, rfl, rfl, .inl (.inl epl2), atI_nat (j := 0) rfl, ?_⟩
        refine ⟨c2, _, rfl, .inl (.inl hc), rfl, _, _, rfl, _, _, rfl, rfl, ?_⟩
        refine st_set [some (.ref e), some (.ref p), some (.int (n : Nat)), some (.ref u), y4, some (.int (ab.1 : Nat)), some (.int (ab.2 : Nat)), y7] ?_ rfl
        have eg3 := s3 _ _ eg2
        obtain ⟨_, _, _, f4⟩ := hD.pr.d (show ab.1 < 2 * n by omega)
        refine ⟨_, rfl, _, rfl, e, _, _, _, rfl, rfl, .inl (.inl eg3), nv_at f4, _, rfl, _, _, rfl, rfl, _, rfl, ?_⟩
        have go : ∀ v : V, v = .int (x : Nat) → ∀ σ', σ' = [some (.ref e), some (.ref p), some (.int (n : Nat)), some (.ref u), y4, some (.int (ab.1 : Nat)), some (.int (ab.2 : Nat)), some (.int (x : Nat))] → True := fun _ _ _ _ => trivial
        refine ite2 (fun c3 => ?_) (fun c3 => ?_)
        case' refine_1 =>
          have hxa : x = ab.1 := by rw [hx, if_pos (by have := of_decide_eq_true c3; omega)]
          refine ⟨_, rfl, ?_⟩
          rw [← hxa]
          refine st_set [some (.ref e), some (.ref p), some (.int (n : Nat)), some (.ref u), y4, some (.int (ab.1 : Nat)), some (.int (ab.2 : Nat)), some (.int (x : Nat))] ?_ (by rw [hxa]; rfl)
        case' refine_2 =>
          have hxa : x = ab.2 := by rw [hx, if_neg (fun z => c3 (decide_eq_true (by omega)))]
          refine ⟨_, rfl, ?_⟩
          rw [← hxa]
          refine st_set [some (.ref e), some (.ref p), some (.int (n : Nat)), some (.ref u), y4, some (.int (ab.1 : Nat)), some (.int (ab.2 : Nat)), some (.int (x : Nat))] ?_ (by rw [hxa]; rfl)
        all_goals
          refine ⟨.ref e, rfl, _, rfl, _, rfl, _, _, rfl, rfl, _, rfl, e, g, 2 * n, n + x, x, rfl, eg3, hD.pr, by omega, by omega, fun H5 e5 k5 => ?_⟩
          have eb5 : H5 u = some (.lst (bs.map V.ref)) := k5 _ _ ue (s3 _ _ (s2 _ _ eb))
          have hB5 := prs_keep k5 eg3 (prs_same s3 (prs_same s2 hB))
          refine ⟨.ref u, rfl, .inl ⟨rfl, _, .inl (.inl eb5)⟩, _, rfl, _, rfl, by show 2 ≤ sizeLine; decide, fun d nd => ?_⟩
          have s4 : Same H5 (upd H5 d (.tup [.int (ab.1 : Nat), .int (ab.2 : Nat)])) := same_new nd
          have ed : (upd H5 d (.tup [.int (ab.1 : Nat), .int (ab.2 : Nat)])) d = some (.tup [.int (ab.1 : Nat), .int (ab.2 : Nat)]) := upd_same
          revert s4 ed
          generalize upd H5 d (.tup [.int (ab.1 : Nat), .int (ab.2 : Nat)]) = H4
          intro s4 ed
          have eb4 := s4 _ _ eb5
          have hct := hD.ct
          have l1 := LL_le (n := n) (f := g)
          have l2 := PP_le (n := n) (f := f)
          have l3 := LL_le (n := n) (f := jn g (n + x) x)
          refine ⟨u, _, _, rfl, rfl, eb4, line_big (by rw [List.length_map, hB.length]; omega), ?_⟩
          have k6 : Keep u H4 (upd H4 u (.lst (bs.map V.ref ++ [.ref d]))) := keep_upd
          have du : d ≠ u := fun z => by rw [z, eb5] at nd; cases nd
          refine ⟨fun y o ny hy => ?_, _, _, _, bs ++ [d], _, _, rfl, hD2, ?_, ?_, ?_, by omega⟩
          · exact k6 y o (ne_of_none hy nu) (s4 _ _ (k5 _ _ ny (s3 _ _ (s2 _ _ (kH y o ny hy)))))
          · exact k6 _ _ ue.symm (s4 _ _ e5)
          · rw [upd_same, List.map_append]; rfl
          · exact prs_append (prs_keep k6 eb4 (prs_same s4 hB5)) (.cons (k6 _ _ du ed) .nil)
      · have hlos : los g n = [] := by
          cases e1 : los g n with
          | nil => rfl
          | cons a r =>
            rw [e1] at hA
            cases hA
            exact absurd rfl c
        obtain ⟨d1, d2⟩ := hD.done h0 hlos
        exact ⟨.ref u, rfl, q _ u bs qs hD.ok d1 d2 (fun y o ny hy => s2 _ _ (kH y o ny hy)) nu (s2 _ _ eb) (prs_same s2 hB)⟩
end
end Pc
namespace Pc
open PySem PySem.Spec PyProof.Rows L2 RZ
section
variable {P : Program} {w : World} {K : PySem.W.Frag} {mg : Str → Option Value} {base : Heap}
/-! ### a shortest word with a sheet -/
def spWordFor (K : PySem.W.Frag) : Sp := fun vs H Q _ => ∃ (a : Addr) (f : List Nat) (n : Nat), vs = [.ref a] ∧ Sq K H a (nv f) ∧ IsPair (2 * n) f ∧ 0 < n ∧ n ≤ 50 ∧ hasW f n = true ∧
  ∀ (H' : Hp) (t : Addr) (bs : List Addr) (qs : List (Nat × Nat)), Calls n qs → shw n qs (emp n) = f → qs.length + LL n f = 2 * PP n f + n → Same H H' → H t = none → H' t = some (.lst (bs.map V.ref)) → Prs H' bs qs → Q (.ref t) H'
theorem ok_p_word_for (T : Env K mg) : FnOk P w K mg base CX0 5 T.f_p_word_for T.d_p_word_for ["sheet"] (spWordFor K) := by
  have GH : FnOk P w K mg base CX0 3 T.f_p_has_word T.d_p_has_word ["sheet"] (spHasWord K) := ok_p_has_word T
  have GU : FnOk P w K mg base CX0 4 T.f_p_pure_loops T.d_p_pure_loops ["sheet"] (spPureL K) := ok_p_pure_loops T
  have GD : FnOk P w K mg base CX0 3 T.f_p_undone_calls T.d_p_undone_calls ["ends", "pure"] (spUndone K) := ok_p_undone_calls T
  refine T.F_p_word_for.ok sc_p_word_for (fun vs H Q E h => ?_) (fun cdv A outer s H vs Q E hr h => ?_)
  · obtain ⟨a, f, n, rfl, _⟩ := h
    rfl
  · obtain ⟨a, f, n, rfl, ha, hf, h0, hn, hw, q⟩ := h
    have h3 := hr.mono (show 3 ≤ 4 by decide)
    refine ⟨_, pss_cons (ps_if (pt_not (pt_val (pe_call GH h3 (by rfl) T.g_p_has_word T.F_p_has_word.kp T.b_p_has_word .nil pass0 (pa_cons (pv 0) pa_nil)))) pss_never pss_nil) <|
      pss_one (ps_ret (pe_revL (pe_call GD h3 (by rfl) T.g_p_undone_calls T.F_p_undone_calls.kp T.b_p_undone_calls .nil pass0 (pa_cons (pe_callTy call_list_of (by rfl) T.n_list (by decide +kernel) (pa_cons (pv 0) pa_nil)) (pa_cons (pe_call GU hr (by rfl) T.g_p_pure_loops T.F_p_pure_loops.kp T.b_p_pure_loops .nil pass0 (pa_cons (pv 0) pa_nil)) pa_nil))))), ?_⟩
    refine ⟨.ref a, rfl, a, f, n, rfl, ha, hf, h0, hn, fun H1 s1 => ⟨true, by rw [hw], iteN ?_⟩⟩
    refine ⟨.ref a, rfl, a, _, rfl, ha.same s1, fun l nl => ?_⟩
    have s2 : Same H1 (upd H1 l (.lst (nv f))) := same_new nl
    have el : (upd H1 l (.lst (nv f))) l = some (.lst (nv f)) := upd_same
    revert s2 el
    generalize upd H1 l (.lst (nv f)) = H2
    intro s2 el
    refine ⟨.ref a, rfl, a, f, n, rfl, (ha.same s1).same s2, hf, by omega, fun H3 t as ls hL s3 nt et hT => ?_⟩
    have lt : l ≠ t := fun z => by rw [← z, el] at nt; cases nt
    refine ⟨l, t, f, n, ls, as, rfl, s3 _ _ el, et, hT, lt, hf, hL, h0, hn, hw, fun H4 u bs qs hc hsh hct k4 nu eu hB => ?_⟩
    refine ⟨u, _, rfl, .inl (.inl eu), fun v nv' => ?_⟩
    have s4 : Same H H4 := fun y o hy => k4 y o (ne_of_none (s1 _ _ hy) nl) (s3 _ _ (s2 _ _ (s1 _ _ hy)))
    have s5 := s4.trans (same_new (o := .lst (backV (bs.map V.ref))) nv')
    refine q _ v bs.reverse qs.reverse (fun r hr' => hc r (List.mem_reverse.mp hr')) hsh (by rw [List.length_reverse]; exact hct) s5 (s4.free nv') ?_ (prs_rev (prs_same (same_new nv') hB))
    rw [upd_same, back_rev, List.map_reverse]
def spFewX (K : PySem.W.Frag) (C : Addr) : Sp := fun vs H _ E => ∃ (a : Addr) (f : List Nat) (n : Nat), vs = [.ref a] ∧ Sq K H a (nv f) ∧ IsPair (2 * n) f ∧ 0 < n ∧ n ≤ 50 ∧ hasW f n = false ∧ Flies0 C H E
theorem okx_p_fewest_calls (T : Env K mg) : FnOk P w K mg base (L2.CX P w) 5 T.f_p_fewest_calls T.d_p_fewest_calls ["sheet"] (spFewX K T.C_NoWord) := by
  have GH : FnOk P w K mg base CX0 3 T.f_p_has_word T.d_p_has_word ["sheet"] (spHasWord K) := ok_p_has_word T
  refine T.F_p_fewest_calls.okX sc_p_fewest_calls (fun vs H Q E h => ?_) (fun cdv A outer s H vs Q E hr h => ?_)
  · obtain ⟨a, f, n, rfl, _⟩ := h
    rfl
  · obtain ⟨a, f, n, rfl, ha, hf, h0, hn, hw, hF⟩ := h
    have h3 := hr.mono (show 3 ≤ 4 by decide)
    have h2 := hr.mono (show 2 ≤ 4 by decide)
    refine ⟨_, pss_cons (ps_if (pt_not (pt_val (pe_call GH h3 (by rfl) T.g_p_has_word T.F_p_has_word.kp T.b_p_has_word .nil pass0 (pa_cons (pv 0) pa_nil)))) (pss_one (ps_raise rfl (takes_of rfl rfl rfl rfl) (pmk_e0 T.own_NoWord bsV.fb T.iC_NoWord T.tI_NoWord (ok_i_NoWord T) h2 T.b_i_NoWord pass0 (by rfl) T.gC_NoWord))) pss_nil) pss_never, ?_⟩
    exact ⟨.ref a, rfl, a, f, n, rfl, ha, hf, h0, hn, fun H1 s1 => ⟨false, by rw [hw], iteY rfl (raised0 (hF.same s1))⟩⟩
theorem okx_p_word_for (T : Env K mg) : FnOk P w K mg base (L2.CX P w) 5 T.f_p_word_for T.d_p_word_for ["sheet"] (spFewX K T.C_NoWord) := by
  have GH : FnOk P w K mg base CX0 3 T.f_p_has_word T.d_p_has_word ["sheet"] (spHasWord K) := ok_p_has_word T
  refine T.F_p_word_for.okX sc_p_word_for (fun vs H Q E h => ?_) (fun cdv A outer s H vs Q E hr h => ?_)
  · obtain ⟨a, f, n, rfl, _⟩ := h
    rfl
  · obtain ⟨a, f, n, rfl, ha, hf, h0, hn, hw, hF⟩ := h
    have h3 := hr.mono (show 3 ≤ 4 by decide)
    have h2 := hr.mono (show 2 ≤ 4 by decide)
    refine ⟨_, pss_cons (ps_if (pt_not (pt_val (pe_call GH h3 (by rfl) T.g_p_has_word T.F_p_has_word.kp T.b_p_has_word .nil pass0 (pa_cons (pv 0) pa_nil)))) (pss_one (ps_raise rfl (takes_of rfl rfl rfl rfl) (pmk_e0 T.own_NoWord bsV.fb T.iC_NoWord T.tI_NoWord (ok_i_NoWord T) h2 T.b_i_NoWord pass0 (by rfl) T.gC_NoWord))) pss_nil) pss_never, ?_⟩
    exact ⟨.ref a, rfl, a, f, n, rfl, ha, hf, h0, hn, fun H1 s1 => ⟨false, by rw [hw], iteY rfl (raised0 (hF.same s1))⟩⟩
end
end Pc
namespace Pc
open PySem PySem.Spec PyProof.Rows L2 RZ
theorem few_emp {n : Nat} {ls : List (List Nat)} (h : Lo (emp n) n n ls) (hn : 0 < n := by omega) : V.int ((n : Int) - (ls.length : Nat) + 2 * ((ls.filter (pureB (emp n) n)).length : Nat)) = V.int 0 := by
  obtain ⟨_, h1, h2⟩ := h.count (emp_pair hn) (Nat.le_refl _)
  have h3 : ls.length = n := h1.trans LL_emp
  have h4 : (ls.filter (pureB (emp n) n)).length = 0 := h2.trans PP_emp
  rw [h3, h4]; congr 1; omega
theorem has_emp (n : Nat) : hasW (emp n) n = true := by unfold hasW; rw [decide_eq_true rfl, Bool.or_true]
theorem has_word_of {n : Nat} {qs : List (Nat × Nat)} (hn : 0 < n) (h : Calls n qs) : hasW (shw n qs (emp n)) n = true := by
  rcases word_low hn h with e | ⟨a, b, hab, hb, e⟩
  · rw [e]; exact has_emp n
  · unfold hasW
    have hne : los (shw n qs (emp n)) n ≠ [] := fun z => by
      have := los_none (shw_pair (emp_pair hn) h) z a (by omega)
      omega
    cases e2 : los (shw n qs (emp n)) n with
    | nil => exact absurd e2 hne
    | cons _ _ => rfl
theorem no_calls {n : Nat} {qs : List (Nat × Nat)} (h : qs.length + LL n (emp n) = 2 * PP n (emp n) + n) : qs = [] := by
  rw [LL_emp, PP_emp] at h
  exact List.length_eq_zero_iff.mp (by omega)
theorem prs_none {H : Hp} {bs : List Addr} (h : Prs H bs []) : bs = [] := by cases h; rfl
theorem few_le {n : Nat} {qs : List (Nat × Nat)} {ls : List (List Nat)} {H : Hp} {as : List Addr} (hn : 0 < n) (hc : Calls n qs) (hL : Lo (shw n qs (emp n)) n n ls) (hA : Prs H as qs) :
    decide (((as.map V.ref).length : Int) < (n : Int) - (ls.length : Nat) + 2 * ((ls.filter (pureB (shw n qs (emp n)) n)).length : Nat)) = false := by
  obtain ⟨_, h1, h2⟩ := hL.count (shw_pair (emp_pair hn) hc) (Nat.le_refl _)
  have h3 := word_fewest' hn hc
  have h4 : ls.length = LL n (shw n qs (emp n)) := h1
  have h5 : (ls.filter (pureB (shw n qs (emp n)) n)).length = PP n (shw n qs (emp n)) := h2
  rw [List.length_map, hA.length, h4, h5]
  exact decide_eq_false (by omega)
end Pc
namespace Pc
open PySem PySem.Spec PyProof.Rows L2 RZ
section
variable {P : Program} {w : World} {K : PySem.W.Frag} {mg : Str → Option Value} {base : Heap}
/-! ### the law's own sheet of a word, end by end -/
def spJEnds (K : PySem.W.Frag) : Sp := fun vs H Q _ => ∃ (n : Nat) (wd : Addr) (us : List V) (as : List Addr) (qs : List (Nat × Nat)), vs = [.int n, .ref wd] ∧ SqL K H wd us ∧ us = as.map V.ref ∧ Prs H as qs ∧ Calls n qs ∧ 2 ≤ n ∧ n ≤ 1000 ∧
  ∀ (H' : Hp) (t : Addr), Same H H' → H t = none → H' t = some (.tup (nv (shw n qs (emp n)))) → Q (.ref t) H'
theorem ok_joined_ends (T : Env K mg) : FnOk P w K mg base CX0 1 T.f_joined_ends T.d_joined_ends ["_law_crowd", "_law_tape"] (spJEnds K) := by
  refine T.F_joined_ends.ok sc_joined_ends (fun vs H Q E h => ?_) (fun cdv A outer s H vs Q E hr h => ?_)
  · obtain ⟨n, wd, us, as, qs, rfl, _⟩ := h
    rfl
  · obtain ⟨n, wd, us, as, qs, rfl, hS, rfl, hA, hc, h2, hn, q⟩ := h
    refine ⟨_, pss_cons (ps_set (i := 2) sc_joined_ends.nd rfl (.inl rfl) (pe_op op_cat (pe_listRg rfl (by rfl) T.n_list (prg_2 (by rfl) T.n_range (pv 0) (pe_op op_mul pe_int (pv 0)))) (pe_listRg rfl (by rfl) T.n_list (prg_1 (by rfl) T.n_range (pv 0))))) <|
      pss_cons (ps_for PassesOwn.never rfl (pi_list (pv 1)) (pg_tup (by rfl) (pgs_cons (pg_name (i := 3) sc_joined_ends.nd rfl (.inl rfl)) (pgs_cons (pg_name (i := 4) sc_joined_ends.nd rfl (.inl rfl)) pgs_nil)))
        (pss_cons (ps_par (by rfl) sc_joined_ends.nd (i := 5) (j := 6) rfl rfl (by decide) rfl rfl (pa_cons (pe_op op_add (pv 0) (pv 3)) (pa_cons (pe_op op_add (pv 0) (pv 4)) pa_nil)) (by rfl)) <|
        pss_one (ps_if (pt_cmpR op_ne (pe_ix ix_list (pv 2) (pv 5) (fun _ _ => rfl)) (pv 6) (nomark _))
          (pss_one (ps_for PassesOwn.never rfl (pi_tup (pe_tup (pa_cons (pe_tup (pa_cons (pe_ix ix_list (pv 2) (pv 5) (fun _ _ => rfl)) (pa_cons (pe_ix ix_list (pv 2) (pv 6) (fun _ _ => rfl)) pa_nil))) (pa_cons (pe_tup (pa_cons (pv 5) (pa_cons (pv 6) pa_nil))) pa_nil)))) (pg_tup (by rfl) (pgs_cons (pg_name (i := 7) sc_joined_ends.nd rfl (.inl rfl)) (pgs_cons (pg_name (i := 8) sc_joined_ends.nd rfl (.inl rfl)) pgs_nil)))
            (pss_one (ps_asg (pe_tup (pa_cons (pv 8) (pa_cons (pv 7) pa_nil))) (pg_tup rfl (pgs_cons (pg_sub (pv 2) (pv 7) set_list) (pgs_cons (pg_sub (pv 2) (pv 8) set_list) pgs_nil))))))) pss_nil))) <|
      pss_one (ps_ret (pe_callTy call_tuple_of (by rfl) T.n_tuple (by decide +kernel) (pa_cons (pv 2) pa_nil))), ?_⟩
    have hE := emp_pair (n := n) (by omega)
    refine ⟨_, rfl, _, rfl, 2, n, rfl, rfl, .inl ⟨by decide, by decide⟩, _, _, rfl, rfl, RgOk.of_le (by omega) (by omega) (by omega) (by omega), fun a0 na0 => ?_⟩
    have s1 : Same H _ := same_new (o := .lst (rgV (n : Int) (2 * (n : Int)))) na0
    refine ⟨_, rfl, _, rfl, RgOk.of_le (by decide) (by omega) (by decide) (by omega), fun c0 nc0 => ?_⟩
    have s2 : Same (upd H a0 (.lst (rgV (n : Int) (2 * (n : Int))))) _ := same_new (o := .lst (rgV 0 (n : Int))) nc0
    refine ⟨a0, c0, _, _, rfl, rfl, s2 _ _ upd_same, upd_same, ?_, fun D nD0 => ?_⟩
    · rw [rgV_length, rgV_length]
      exact Nat.le_of_lt (line_big (by omega))
    have er : rgV (n : Int) (2 * (n : Int)) ++ rgV 0 (n : Int) = nv (emp n) := by
      rw [range_shift, rg_nv, emp_two]; unfold nv; rw [List.map_append]
    rw [er]
    have nD := (s1.trans s2).free nD0
    have s3 := (s1.trans s2).trans (same_new (o := .lst (nv (emp n))) nD0)
    have eD : (upd (upd (upd H a0 (.lst (rgV (n : Int) (2 * (n : Int))))) c0 (.lst (rgV 0 (n : Int)))) D (.lst (nv (emp n)))) D = some (.lst (nv (emp n))) := upd_same
    revert s3 eD
    generalize upd (upd (upd H a0 (.lst (rgV (n : Int) (2 * (n : Int))))) c0 (.lst (rgV 0 (n : Int)))) D (.lst (nv (emp n))) = H1
    intro s3 eD
    refine st_set [some (.int n), some (.ref wd), some (.ref D), none, none, none, none, none, none] ?_ rfl
    refine ⟨.ref wd, rfl, wd, rfl, ⟨_, s3.seq hS⟩, ?_⟩
    refine for_list (xs := as.map V.ref) (fun i σ H' => Same H H' ∧ ∃ (y3 y4 y5 y6 y7 y8 : Option V), σ = [some (.int n), some (.ref wd), some (.ref D), y3, y4, y5, y6, y7, y8] ∧ H' D = some (.lst (nv (shw n (qs.take i) (emp n))))) ⟨s3, none, none, none, none, none, none, rfl, eD⟩ (fun i σ H' _ h => h.1.seq hS) (fun i x σ H' hx h => ?_) (fun σ H' h => ?_)
    · obtain ⟨sm, y3, y4, y5, y6, y7, y8, rfl, e1⟩ := h
      rw [List.getElem?_map] at hx
      cases et : as[i]? with
      | none => rw [et] at hx; cases hx
      | some t =>
      rw [et] at hx
      cases Option.some.inj hx
      obtain ⟨r, er, ht⟩ := prs_get hA et
      have hcr := hc r (List.mem_of_getElem? er)
      have hPi := shw_pair hE (hc.take i)
      obtain ⟨u, ea, hu, _⟩ := hPi.par (n + r.1) (by omega)
      obtain ⟨v, eb, hv, _⟩ := hPi.par (n + r.2) (by omega)
      have hl := hPi.len
      have c1 : (n : Int) + (r.1 : Int) = ((n + r.1 : Nat) : Int) := by omega
      have c2 : (n : Int) + (r.2 : Int) = ((n + r.2 : Nat) : Int) := by omega
      have ln : ∀ {l : List V}, l.length = 2 * n → ∀ {i : Nat}, i < 2 * n → ixN l.length (i : Int) = some i := fun {l} hl2 {i} hi => ixN_nat (by rw [hl2]; exact hi)
      refine ⟨t, _, rfl, .inl (.inl (sm _ _ ht)), rfl, _, _, rfl, _, _, rfl, rfl, ?_⟩
      refine ⟨_, rfl, _, rfl, _, _, rfl, rfl, _, rfl, _, rfl, _, _, rfl, rfl, _, _, rfl, ?_⟩
      refine st_eq [some (.int n), some (.ref wd), some (.ref D), some (.int r.1), some (.int r.2), some (.int ((n + r.1 : Nat) : Int)), some (.int ((n + r.2 : Nat) : Int)), y7, y8] ?_ (by rw [← c1, ← c2]; rfl)
      have hsh := shw_take (n := n) (fs := emp n) er
      revert e1 hPi ea eb hl hsh
      generalize shw n (qs.take i) (emp n) = fs
      intro e1 hPi ea eb hl hsh
      refine ⟨.ref D, rfl, _, rfl, D, _, _, _, rfl, rfl, .inl (.inl e1), nv_at ea, _, rfl, rfl, _, rfl, ite2 (fun c => ?_) (fun c => ?_)⟩
      · have hne : u ≠ n + r.2 := fun z => by
          have c' : (!decide (V.int (u : Int) = V.int ((n + r.2 : Nat) : Int))) = true := c
          rw [z, decide_eq_true rfl] at c'
          exact absurd c' (by decide)
        have hj := jn_alt hPi (by omega) ea eb hne
        refine ⟨.ref D, rfl, _, rfl, D, _, _, _, rfl, rfl, .inl (.inl e1), nv_at ea, .ref D, rfl, _, rfl, D, _, _, _, rfl, rfl, .inl (.inl e1), nv_at eb, by show 2 ≤ sizeLine; decide, fun t1 nt1 => ?_⟩
        refine ⟨_, rfl, _, rfl, by show 2 ≤ sizeLine; decide, fun t2 nt2 => ⟨by show 2 ≤ sizeLine; decide, fun t3 nt3 => ?_⟩⟩
        have sA := same_new (o := .tup [.int (u : Nat), .int (v : Nat)]) nt1
        have sB := same_new (o := .tup [.int ((n + r.1 : Nat) : Int), .int ((n + r.2 : Nat) : Int)]) nt2
        have sC := same_new (o := .tup [.ref t1, .ref t2]) nt3
        have g1 := sC _ _ (sB t1 _ upd_same)
        have g2 := sC t2 _ upd_same
        have g3 : upd (upd (upd H' t1 (.tup [.int (u : Nat), .int (v : Nat)])) t2 (.tup [.int ((n + r.1 : Nat) : Int), .int ((n + r.2 : Nat) : Int)])) t3 (.tup [.ref t1, .ref t2]) t3 = some (.tup [.ref t1, .ref t2]) := upd_same
        have sD := (sA.trans sB).trans sC
        revert g1 g2 g3 sD
        clear sA sB sC
        generalize upd (upd (upd H' t1 (.tup [.int (u : Nat), .int (v : Nat)])) t2 (.tup [.int ((n + r.1 : Nat) : Int), .int ((n + r.2 : Nat) : Int)])) t3 (.tup [.ref t1, .ref t2]) = H2
        intro g1 g2 g3 sD
        obtain ⟨stg, z0, z1, z2⟩ : ∃ stg : Nat → List Nat, stg 0 = fs ∧ stg 1 = (fs.set u v).set v u ∧ stg 2 = jn fs (n + r.1) (n + r.2) :=
          ⟨fun j => if j = 0 then fs else if j = 1 then (fs.set u v).set v u else jn fs (n + r.1) (n + r.2), rfl, rfl, rfl⟩
        refine ⟨t3, rfl, ⟨_, .inl (.inl g3)⟩, ?_⟩
        refine for_tup (xs := [V.ref t1, V.ref t2]) (fun j σ G => Same H G ∧ G t1 = some (.tup [.int (u : Nat), .int (v : Nat)]) ∧ G t2 = some (.tup [.int ((n + r.1 : Nat) : Int), .int ((n + r.2 : Nat) : Int)]) ∧ G t3 = some (.tup [.ref t1, .ref t2]) ∧ ∃ (y7 y8 : Option V), σ = [some (.int n), some (.ref wd), some (.ref D), some (.int r.1), some (.int r.2), some (.int ((n + r.1 : Nat) : Int)), some (.int ((n + r.2 : Nat) : Int)), y7, y8] ∧ G D = some (.lst (nv (stg j))))
          ⟨sm.trans sD, g1, g2, g3, _, _, rfl, by rw [z0]; exact sD _ _ e1⟩ (fun j σ G _ h => .inl (.inl h.2.2.2.1)) (fun j x σ G hx h => ?_) (fun σ G h => ?_)
        · obtain ⟨sG, k1, k2, k3, w7, w8, rfl, eG⟩ := h
          have hj2 : j < 2 := get_lt hx
          obtain ⟨tt, p, q', rfl, ett, hp, hq, hst, hlen⟩ : ∃ (tt : Addr) (p q' : Nat), x = .ref tt ∧ G tt = some (.tup [.int (p : Nat), .int (q' : Nat)]) ∧ p < 2 * n ∧ q' < 2 * n ∧ stg (j + 1) = ((stg j).set p q').set q' p ∧ (stg j).length = 2 * n := by
            rcases (show j = 0 ∨ j = 1 by omega) with z | z
            · subst z; exact ⟨t1, u, v, (Option.some.inj hx).symm, k1, hu, hv, by rw [z1, z0], by rw [z0]; exact hl⟩
            · subst z; exact ⟨t2, n + r.1, n + r.2, (Option.some.inj hx).symm, k2, by omega, by omega, by rw [z2, z1, hj], by rw [z1, List.length_set, List.length_set]; exact hl⟩
          refine ⟨tt, _, rfl, .inl (.inl ett), rfl, _, _, rfl, _, _, rfl, rfl, ?_⟩
          refine st_eq [some (.int n), some (.ref wd), some (.ref D), some (.int r.1), some (.int r.2), some (.int ((n + r.1 : Nat) : Int)), some (.int ((n + r.2 : Nat) : Int)), some (.int (p : Nat)), some (.int (q' : Nat))] ?_ rfl
          refine ⟨_, rfl, _, rfl, by show 2 ≤ sizeLine; decide, fun tp ntp => ?_⟩
          have sP : Same G _ := same_new (o := .tup [.int (q' : Nat), .int (p : Nat)]) ntp
          refine ⟨tp, _, rfl, .inl (.inl upd_same), rfl, _, _, rfl, .ref D, rfl, _, rfl, D, _, _, p, rfl, rfl, sP _ _ eG, ln (by rw [nv_length, hlen]) hp, ?_⟩
          refine ⟨_, _, rfl, .ref D, rfl, _, rfl, D, _, _, q', rfl, rfl, upd_same, ln (by rw [List.length_set, nv_length, hlen]) hq, rfl, ?_⟩
          have nt : ∀ {z : Addr} {l : List V}, G z = some (.tup l) → z ≠ D := fun h z => by rw [z, eG] at h; cases h
          refine ⟨fun b o hb => ?_, ?_, ?_, ?_, _, _, rfl, ?_⟩
          · have nb : b ≠ D := ne_of_none hb nD
            rw [upd_ne nb, upd_ne nb]; exact sP _ _ (sG _ _ hb)
          · rw [upd_ne (nt k1), upd_ne (nt k1)]; exact sP _ _ k1
          · rw [upd_ne (nt k2), upd_ne (nt k2)]; exact sP _ _ k2
          · rw [upd_ne (nt k3), upd_ne (nt k3)]; exact sP _ _ k3
          · rw [upd_same, hst, nv_set, nv_set]
        · obtain ⟨sG, _, _, _, w7, w8, rfl, eG⟩ := h
          refine ⟨sG, _, _, _, _, _, _, rfl, ?_⟩
          rw [hsh, ← z2]; exact eG
      · have heq : u = n + r.2 := by
          by_cases z : u = n + r.2
          · exact z
          · exact absurd (by rw [decide_eq_false (fun y => z (by have := V.int.inj y; omega))]; rfl) c
        subst heq
        refine ⟨sm, _, _, _, _, _, _, rfl, ?_⟩
        rw [hsh, jn_same ea]
        exact e1
    · obtain ⟨sm, y3, y4, y5, y6, y7, y8, rfl, e1⟩ := h
      rw [List.length_map, hA.length, List.take_length] at e1
      exact ⟨.ref D, rfl, D, _, rfl, .inl ⟨.inl (.inl e1), fun t nt => q _ t (sm.trans (same_new nt)) (sm.free nt) upd_same⟩⟩
end
end Pc
namespace Pc
/-- all calls of n people -/
def callsOf (n x : Nat) : List (Nat × Nat) := (List.range (n - (x + 1))).map fun j => (x, x + 1 + j)
def allC (n : Nat) : Nat → List (Nat × Nat)
  | 0 => []
  | i + 1 => allC n i ++ callsOf n i
theorem callsOf_mem {n x : Nat} {p : Nat × Nat} : p ∈ callsOf n x ↔ p.1 = x ∧ x < p.2 ∧ p.2 < n := by
  unfold callsOf
  rw [List.mem_map]
  constructor
  · rintro ⟨j, hj, rfl⟩
    have := List.mem_range.mp hj
    exact ⟨rfl, by show x < x + 1 + j; omega, by show x + 1 + j < n; omega⟩
  · rintro ⟨h1, h2, h3⟩
    exact ⟨p.2 - (x + 1), List.mem_range.mpr (by omega), Prod.ext h1.symm (by show x + 1 + (p.2 - (x + 1)) = p.2; omega)⟩
theorem allC_mem {n : Nat} : ∀ {i : Nat} {p : Nat × Nat}, p ∈ allC n i ↔ p.1 < i ∧ p.1 < p.2 ∧ p.2 < n
  | 0, p => ⟨fun h => by simp [allC] at h, fun h => absurd h.1 (Nat.not_lt_zero _)⟩
  | i + 1, p => by
    show p ∈ allC n i ++ callsOf n i ↔ _
    rw [List.mem_append, allC_mem (i := i), callsOf_mem]
    omega
theorem allC_calls (n i : Nat) : Calls n (allC n i) := fun q hq => by
  have := allC_mem.mp hq
  exact ⟨this.2.1, this.2.2⟩
theorem allC_len (n : Nat) : ∀ i, (allC n i).length ≤ i * n
  | 0 => Nat.zero_le _
  | i + 1 => by
    show (allC n i ++ callsOf n i).length ≤ _
    rw [List.length_append, Nat.succ_mul]
    have := allC_len n i
    have : (callsOf n i).length ≤ n := by unfold callsOf; rw [List.length_map, List.length_range]; omega
    omega
end Pc
namespace Pc
open PySem PySem.Spec PyProof.Rows L2 RZ
section
variable {P : Program} {w : World} {K : PySem.W.Frag} {mg : Str → Option Value} {base : Heap}
/-! ### all calls -/
def spCalls : Sp := fun vs H Q _ => ∃ n : Nat, vs = [.int n] ∧ n ≤ 40 ∧
  ∀ (H' : Hp) (p : Addr) (as : List Addr), Same H H' → H p = none → H' p = some (.lst (as.map V.ref)) → Prs H' as (allC n n) → Q (.ref p) H'
theorem ok_calls (T : Env K mg) : FnOk P w K mg base CX0 1 T.f_all_calls T.d_all_calls ["_law_crowd"] spCalls := by
  refine T.F_all_calls.ok sc_all_calls (fun vs H Q E h => ?_) (fun cdv A outer s H vs Q E hr h => ?_)
  · obtain ⟨n, rfl, _⟩ := h
    rfl
  · obtain ⟨n, rfl, hn, q⟩ := h
    refine ⟨_, pss_cons (ps_set (i := 1) sc_all_calls.nd rfl (.inl rfl) (pe_lst pa_nil)) <|
      pss_cons (ps_for PassesOwn.never rfl (pi_range1 (by rfl) T.n_range (pa_cons (pv 0) pa_nil)) (pg_name (i := 2) sc_all_calls.nd rfl (.inr rfl))
        (pss_one (ps_set (i := 1) sc_all_calls.nd rfl (.inl rfl) (pe_op op_cat (pv 1) (pe_lc (own := [("_law_right_here", 3)]) (g := gName 3) (tt := tYes) (te := tTup (tCons (tVar 2) (tCons (tVar 3) tNil))) rfl sc_all_calls.nd
          (pi_range2 (by rfl) T.n_range (pa_cons (pe_op op_add (pv 2) pe_int) (pa_cons (pv 0) pa_nil))) (blkOk_by (N := N_all_calls) (sc := defScope s_all_calls) (by decide +kernel)) (fun _ _ _ _ _ => pg_name (i := 3) sc_all_calls.nd rfl (.inl rfl)) (fun _ _ _ _ _ => pts_nil)
          (fun _ _ _ _ _ => pe_tup (pa_cons (pv 2) (pa_cons (pv 3) pa_nil)))))))) <|
      pss_one (ps_ret (pv 1)), ?_⟩
    refine ⟨by show 0 ≤ sizeLine; decide, fun e ne => ?_⟩
    refine ⟨_, rfl, _, rfl, by omega, by omega, ?_⟩
    rw [show ((n : Int)).toNat = n by omega]
    refine for_range (n := n) (fun i σ H' => Same H H' ∧ ∃ (f : Addr) (as : List Addr) (y : Option V), σ = [some (.int n), some (.ref f), y, none] ∧ H f = none ∧ H' f = some (.lst (as.map V.ref)) ∧ Prs H' as (allC n i)) ⟨same_new ne, e, [], none, rfl, ne, upd_same, .nil⟩ (fun i σ H1 hi h => ?_) (fun σ H1 h => ?_)
    · obtain ⟨sm, f, as, y, rfl, nf, ef, hA⟩ := h
      refine ⟨_, rfl, _, rfl, _, 1, rfl, rfl, _, rfl, _, _, rfl, ⟨by omega, by omega, by omega, by omega⟩, fun D nD => ?_⟩
      rw [show ((n : Int) - ((0 : Int) + (i : Nat) + 1)).toNat = n - (i + 1) by omega]
      have hlc : (callsOf n i).length = n - (i + 1) := by unfold callsOf; rw [List.length_map, List.length_range]
      refine lc_range (n := n - (i + 1)) (fun j H' => Same H1 H' ∧ ∃ bs : List Addr, H' D = some (.lst (bs.map V.ref)) ∧ Prs H' bs ((callsOf n i).take j)) ⟨same_new nD, [], upd_same, .nil⟩ (fun j H' hj hPv => ?_) (fun H' hPv => ?_)
      · obtain ⟨s2, bs, eD, hBs⟩ := hPv
        refine ⟨rfl, yes_if ⟨_, rfl, _, rfl, by show 2 ≤ sizeLine; decide, fun u nu => ⟨_, same_new nu _ _ eD, ?_, fun x o hx => ?_, bs ++ [u], ?_, ?_⟩⟩⟩
        · rw [List.length_map, hBs.length, List.length_take]; exact small1000 (by omega)
        · rw [upd_ne (ne_of_none hx nD)]; exact same_new nu _ _ (s2 _ _ hx)
        · rw [upd_same, List.map_append]; rfl
        · have uD : u ≠ D := fun z => by rw [z, eD] at nu; cases nu
          have ej : (callsOf n i)[j]? = some (i, i + 1 + j) := by unfold callsOf; rw [List.getElem?_map, List.getElem?_range hj]; rfl
          rw [List.take_add_one, ej]
          refine prs_append (prs_keep (b := D) keep_upd (same_new nu _ _ eD) (prs_same (same_new nu) hBs)) (.cons ?_ .nil)
          rw [upd_ne uD, upd_same]
          show some (HO.tup [V.int ((0 : Int) + (i : Nat)), V.int ((0 : Int) + (i : Nat) + 1 + (j : Nat))]) = some (HO.tup [V.int (i : Nat), V.int ((i + 1 + j : Nat) : Int)])
          rw [show (0 : Int) + (i : Nat) + 1 + (j : Nat) = ((i + 1 + j : Nat) : Int) by omega, Int.zero_add]
      · obtain ⟨s2, bs, eD, hBs⟩ := hPv
        rw [← hlc, List.take_length] at hBs
        have hA' := prs_same s2 hA
        refine ⟨f, D, _, _, rfl, rfl, s2 _ _ ef, eD, ?_, fun g ng => ?_⟩
        · have l1 := allC_len n i
          have : i * n ≤ 40 * 40 := Nat.mul_le_mul (by omega) hn
          rw [List.length_map, List.length_map, hA.length, hBs.length, hlc]
          exact Nat.le_of_lt (line_big (by omega))
        refine ⟨(sm.trans s2).trans (same_new ng), g, as ++ bs, _, rfl, (sm.trans s2).free ng, by rw [upd_same, List.map_append], ?_⟩
        exact prs_same (same_new ng) (prs_append hA' hBs)
    · obtain ⟨sm, f, as, y, rfl, nf, ef, hA⟩ := h
      exact ⟨_, rfl, q H1 f as sm nf ef hA⟩
end
end Pc
namespace Pc
open PySem PySem.Spec PyProof.Rows L2 RZ
/-- two statements in a row that come to one state, whatever way they go -/
theorem tjoin2 {t u v : TS} {D : L2.Ends} {σ : L2.St} {H : Hp} (J : L2.St → Hp → Prop) (k : ∀ σ' H', J σ' H' → v D σ' H') (h : ∀ N : L2.St → Hp → Prop, (∀ σ' H', J σ' H' → N σ' H') → tSeq t u { D with nx := N } σ H) : tSeq t (tSeq u v) D σ H := h (v D) k
theorem tjoin1 {t v : TS} {D : L2.Ends} {σ : L2.St} {H : Hp} (J : L2.St → Hp → Prop) (k : ∀ σ' H', J σ' H' → v D σ' H') (h : ∀ N : L2.St → Hp → Prop, (∀ σ' H', J σ' H' → N σ' H') → t { D with nx := N } σ H) : tSeq t v D σ H := h (v D) k
theorem st_at {u : L2.St → Hp → Prop} {r : VK} {bk ct : L2.St → Hp → Prop} {σ : L2.St} {H : Hp} (σ' : L2.St) (e : σ = σ') (h : u σ' H) : (L2.Ends.mk u r bk ct).nx σ H := by rw [e]; exact h
theorem st_nx {u : TS} {D : L2.Ends} {σ : L2.St} {H : Hp} (h : u D σ H) : tNext { D with nx := u D } σ H := h
theorem keep_freeR {b p : Addr} {k : Nat} {H H' : Hp} (hk : Keep b H H') (hB : Box k H' b) (h : H' p = none) : H p = none := by
  cases e : H p with
  | none => rfl
  | some o =>
    by_cases hb : p = b
    · subst hb
      obtain ⟨y, hy⟩ := hB.lst
      rw [hy] at h; cases h
    · rw [hk p o hb e] at h; cases h
end Pc
namespace Pc
open PySem PySem.Spec PyProof.Rows L2 RZ
/-! ### loops by computing -/
/-- those that are reached, at most so many turns -/
def flood (f : List Nat) (n : Nat) : Nat → List Nat → List Nat → List Nat
  | 0, _, ps => ps
  | _ + 1, [], ps => ps
  | k + 1, x :: r, ps =>
    let u := upE f n x; let v := loE f n x
    let p1 := if u ∈ ps then ps else ps ++ [u]
    let r1 := if u ∈ ps then r else r ++ [u]
    let p2 := if v ∈ p1 then p1 else p1 ++ [v]
    let r2 := if v ∈ p1 then r1 else r1 ++ [v]
    flood f n k r2 p2
theorem flood_mn {f : List Nat} {n : Nat} {M : List Nat} (hM : ∀ p ∈ M, upE f n p ∈ M ∧ loE f n p ∈ M) : ∀ (k : Nat) (r ps : List Nat), (∀ p ∈ r, p ∈ M) → (∀ p ∈ ps, p ∈ M) → ∀ p ∈ flood f n k r ps, p ∈ M
  | 0, _, ps, _, h => h
  | _ + 1, [], ps, _, h => h
  | k + 1, x :: r, ps, hr, h => by
    unfold flood
    obtain ⟨a, b⟩ := hM x (hr x (List.mem_cons_self ..))
    have e1 : ∀ (y : Nat) (l : List Nat) (c : Prop) [Decidable c], y ∈ M → (∀ p ∈ l, p ∈ M) → ∀ p ∈ (if c then l else l ++ [y]), p ∈ M := fun y l c _ hy hl p hp => by
      split at hp
      · exact hl p hp
      · rcases List.mem_append.mp hp with z | z
        · exact hl p z
        · rw [List.mem_singleton.mp z]; exact hy
    have hr' : ∀ p ∈ r, p ∈ M := fun p hp => hr p (List.mem_cons_of_mem _ hp)
    exact flood_mn hM k _ _ (e1 _ _ _ b (e1 _ _ _ a hr')) (e1 _ _ _ b (e1 _ _ _ a h))
def insL (x : Nat) : List Nat → List Nat
  | [] => [x]
  | y :: r => if x ≤ y then x :: y :: r else y :: insL x r
theorem insL_perm (x : Nat) : ∀ l : List Nat, (insL x l).Perm (x :: l)
  | [] => .refl _
  | y :: r => by
    unfold insL
    split
    · exact .refl _
    · exact ((insL_perm x r).cons y).trans (.swap x y r)
def srtL : List Nat → List Nat
  | [] => []
  | x :: r => insL x (srtL r)
theorem srtL_perm : ∀ l : List Nat, (srtL l).Perm l
  | [] => .refl _
  | x :: r => (insL_perm x _).trans ((srtL_perm r).cons x)
def lpC (f : List Nat) (n x : Nat) : List Nat := srtL (flood f n (2 * n) [x] [x])
def lpB (f : List Nat) (n x : Nat) (ps : List Nat) : Bool := decide (x ∈ ps) && decide (ps.Nodup) && ps.all (fun p => decide (p < n) && decide (upE f n p ∈ ps) && decide (loE f n p ∈ ps)) && decide (ps.Pairwise (· < ·))
theorem lpB_of {f : List Nat} {n x : Nat} (h : lpB f n x (lpC f n x) = true) : LoopL f n x (lpC f n x) ∧ (lpC f n x).Pairwise (· < ·) := by
  unfold lpB at h
  rw [Bool.and_eq_true, Bool.and_eq_true, Bool.and_eq_true] at h
  obtain ⟨⟨⟨h1, h2⟩, h3⟩, h4⟩ := h
  rw [List.all_eq_true] at h3
  have h3' : ∀ p ∈ lpC f n x, p < n ∧ upE f n p ∈ lpC f n x ∧ loE f n p ∈ lpC f n x := fun p hp => by
    have := h3 p hp
    rw [Bool.and_eq_true, Bool.and_eq_true] at this
    exact ⟨of_decide_eq_true this.1.1, of_decide_eq_true this.1.2, of_decide_eq_true this.2⟩
  refine ⟨⟨of_decide_eq_true h1, of_decide_eq_true h2, fun p hp => (h3' p hp).1, fun p hp => (h3' p hp).2, fun M hx hM p hp => ?_⟩, of_decide_eq_true h4⟩
  have hp' := (srtL_perm _).mem_iff.mp hp
  exact flood_mn hM _ _ _ (fun z hz => by rw [List.mem_singleton.mp hz]; exact hx) (fun z hz => by rw [List.mem_singleton.mp hz]; exact hx) p hp'
def loopsC (f : List Nat) (n : Nat) : Nat → List (List Nat)
  | 0 => []
  | i + 1 => if i ∈ (loopsC f n i).flatten then loopsC f n i else loopsC f n i ++ [lpC f n i]
theorem loopsC_of {f : List Nat} {n : Nat} (h : ∀ x, x < n → lpB f n x (lpC f n x) = true) : ∀ i, i ≤ n → Lo f n i (loopsC f n i)
  | 0, _ => .zero
  | i + 1, hi => by
    have ih := loopsC_of h i (by omega)
    unfold loopsC
    split
    · rename_i c; exact .skip ih c
    · rename_i c
      obtain ⟨a, b⟩ := lpB_of (h i (by omega))
      exact .new ih c a (.refl _) b
/-- a sheet whose loops come out so: so many, the pure ones these -/
def lopB (f : List Nat) (n k : Nat) (ps : List (List Nat)) : Bool := (List.range n).all (fun x => lpB f n x (lpC f n x)) && decide ((loopsC f n n).length = k) && decide ((loopsC f n n).filter (pureB f n) = ps)
theorem lop_of {f : List Nat} {n k : Nat} {ps ls : List (List Nat)} (h : lopB f n k ps = true) (hL : Lo f n n ls) : ls.length = k ∧ ls.filter (pureB f n) = ps := by
  unfold lopB at h
  rw [Bool.and_eq_true, Bool.and_eq_true] at h
  obtain ⟨⟨h1, h2⟩, h3⟩ := h
  rw [List.all_eq_true] at h1
  have := hL.det (loopsC_of (fun x hx => h1 x (List.mem_range.mpr hx)) n (Nat.le_refl _))
  rw [this]
  exact ⟨of_decide_eq_true h2, of_decide_eq_true h3⟩
/-! ### the sheets of this law -/
def jed1 (fs : List Nat) (q : Nat × Nat) : List Nat := (fs.set q.1 q.2).set q.2 q.1
def jed (n : Nat) (qs : List (Nat × Nat)) : List Nat := qs.foldl jed1 (List.replicate (2 * n) 0)
def cplC (n : Nat) : List (Nat × Nat) := [(0, 1), (n, n + 1)]
def nrQ (m : Nat) : List (Nat × Nat) := (List.range m).map fun a => (2 * a, 2 * a + 1)
def onQ (n : Nat) : List (Nat × Nat) := (List.range (n - 2)).map fun a => (2 + a, n + 2 + (a + 1) % (n - 2))
def swQ (n s : Nat) : List (Nat × Nat) := (List.range (2 * s)).map fun a => (2 + a, n + (2 + a) + 1 - 2 * ((2 + a) % 2))
def rsQ (n s : Nat) : List (Nat × Nat) := (List.range (n - (2 + 2 * s))).map fun a => (2 + 2 * s + a, n + (2 + 2 * s + a))
def lwQ (n : Nat) : List (Nat × Nat) := (List.range (n / 2)).map fun a => (n + 2 * a + 1, n + (2 * a + 2) % n)
def onF (n : Nat) : List Nat := jed n (cplC n ++ onQ n)
def swF (n s : Nat) : List Nat := jed n (cplC n ++ swQ n s ++ rsQ n s)
def tnF (n : Nat) : List Nat := jed n (nrQ (n / 2) ++ lwQ n)
def Ns : List Nat := [4, 6, 8, 10, 12, 14, 16, 18, 20]
theorem mem_Ns {n : Nat} (h : 4 ≤ n) (k : n ≤ 20) (e : n % 2 = 0) : n ∈ Ns := by
  have : ∀ m, m ≤ 20 → 4 ≤ m → m % 2 = 0 → m ∈ Ns := by decide
  exact this n k h e
def pairB (n : Nat) (l : List Nat) : Bool := decide (l.length = n ∧ ∀ x, x < n → l[x]? = some (l.getD x 0) ∧ l.getD x 0 < n ∧ l.getD x 0 ≠ x ∧ l[l.getD x 0]? = some x)
theorem pairB_of {n : Nat} {l : List Nat} (h : pairB n l = true) : IsPair n l := by
  obtain ⟨h1, h2⟩ := of_decide_eq_true h
  exact ⟨h1, fun x hx => by obtain ⟨a, b, c, d⟩ := h2 x hx; exact ⟨_, a, b, c, d⟩⟩
end Pc
namespace Pc
open PySem PySem.Spec PyProof.Rows L2 RZ
/-! ### a sheet that has a word has one of its fewest calls -/
theorem ub_ex {n : Nat} {f : List Nat} {ls ts : List (List Nat)} (hf : IsPair (2 * n) f) (hn : 0 < n) (hL : Lo f n n ls) (hts : ts = ls.filter (pureB f n)) (hw : los f n ≠ [] ∨ f = emp n) : ∀ j, j ≤ ts.length → ∃ g qs, Ub n f ts j g qs
  | 0, _ => ⟨f, [], Ub.start hf hL hts hw⟩
  | j + 1, h => by
    obtain ⟨g, qs, u⟩ := ub_ex hf hn hL hts hw j (by omega)
    have hj : j < ts.length := h
    have ht : ts[j]? = some ts[j] := List.getElem?_eq_getElem hj
    have hm : ts[j] ∈ ts := List.getElem_mem hj
    have hall : ∀ t ∈ ts, pureB f n t = true := fun t h => by rw [hts] at h; exact (List.mem_filter.mp h).2
    have hp : pureB f n ts[j] = true := hall _ hm
    obtain ⟨z, hz⟩ : ∃ z, z ∈ ts[j] := by
      unfold pureB at hp
      rw [Bool.and_eq_true] at hp
      have := of_decide_eq_true hp.1
      exact ⟨ts[j][0]'(by omega), List.getElem_mem _⟩
    obtain ⟨p, hp⟩ := List.exists_mem_of_ne_nil _ (u.lp hj)
    exact ⟨_, _, (Ub.step hf hn hL hts u ht hz (a := p.1) (b := p.2) hp).1⟩
theorem ud_ex {n : Nat} {f : List Nat} (hn : 0 < n) : ∀ (m : Nat) (g : List Nat) (qs : List (Nat × Nat)), n - LL n g ≤ m → Ud n f g qs → ∃ g' qs', Ud n f g' qs' ∧ los g' n = []
  | m, g, qs, hm, u => by
    by_cases c : los g n = []
    · exact ⟨g, qs, u, c⟩
    · obtain ⟨p, hp⟩ := List.exists_mem_of_ne_nil _ c
      have s := Ud.step hn u (a := p.1) (b := p.2) hp rfl
      have h1 := s.2.1
      have h2 : LL n (jn g (n + if n ≤ g.getD p.1 0 then p.1 else p.2) (if n ≤ g.getD p.1 0 then p.1 else p.2)) ≤ n := LL_le
      match m, hm with
      | 0, hm => omega
      | m + 1, hm => exact ud_ex hn m _ _ (by omega) s.1
/-- the fewest calls are those of a word -/
theorem word_ex {n : Nat} {f : List Nat} {ls : List (List Nat)} (hf : IsPair (2 * n) f) (hn : 0 < n) (hL : Lo f n n ls) (hw : los f n ≠ [] ∨ f = emp n) : ∃ qs, Calls n qs ∧ shw n qs (emp n) = f ∧ qs.length + LL n f = 2 * PP n f + n := by
  obtain ⟨g, qs, u⟩ := ub_ex hf hn hL rfl hw _ (Nat.le_refl _)
  obtain ⟨g', qs', d, c⟩ := ud_ex hn n g qs (by omega) (Ub.done hf hL rfl u)
  obtain ⟨h1, h2⟩ := d.done hn c
  exact ⟨qs'.reverse, fun p hp => d.ok p (List.mem_reverse.mp hp), h1, by rw [List.length_reverse]; exact h2⟩
end Pc
namespace Pc
open PySem PySem.Spec PyProof.Rows L2 RZ
theorem shw_apx {n : Nat} : ∀ (qs rs : List (Nat × Nat)) (g : List Nat), shw n (qs ++ rs) g = shw n rs (shw n qs g)
  | [], _, _ => rfl
  | q :: qs, rs, g => by rw [List.cons_append, shw_cons, shw_cons, shw_apx qs rs]
/-- one sheet behind another takes no more calls than both -/
theorem few_fol {n : Nat} {f g : List Nat} {ls ms : List (List Nat)} (hn : 0 < n) (hf : IsPair (2 * n) f) (hg : IsPair (2 * n) g) (hL : Lo f n n ls) (hM : Lo g n n ms) (hw : los f n ≠ [] ∨ f = emp n) (hv : los g n ≠ [] ∨ g = emp n) :
    n + 2 * PP n (fol f g n) + LL n f + LL n g ≤ 2 * PP n f + n + (2 * PP n g + n) + LL n (fol f g n) := by
  obtain ⟨qs, h1, h2, h3⟩ := word_ex hf hn hL hw
  obtain ⟨rs, g1, g2, g3⟩ := word_ex hg hn hM hv
  have e : fol f g n = shw n (qs ++ rs) (emp n) := by
    rw [shw_apx, h2, ← fol_word hn hf g1, g2]
  have w := word_fewest' hn (qs := qs ++ rs) (fun p hp => (List.mem_append.mp hp).elim (h1 p) (g1 p))
  rw [← e, List.length_append] at w
  omega
end Pc
namespace Pc
open PySem PySem.Spec PyProof.Rows L2 RZ
/-! ### the fewest calls of sheets together -/
noncomputable def fwC (n : Nat) (f : List Nat) : Int := (n : Int) - (LL n f : Nat) + 2 * (PP n f : Nat)
theorem fw_val {n : Nat} {f : List Nat} {ls : List (List Nat)} (hf : IsPair (2 * n) f) (h : Lo f n n ls) : (n : Int) - (ls.length : Nat) + 2 * ((ls.filter (pureB f n)).length : Nat) = fwC n f := by
  obtain ⟨_, h2, h3⟩ := h.count hf (Nat.le_refl _)
  unfold fwC LL PP
  rw [h2, h3]
theorem fw_word {n : Nat} {qs : List (Nat × Nat)} (hn : 0 < n) (h : Calls n qs) : fwC n (shw n qs (emp n)) ≤ (qs.length : Nat) := by
  have := word_fewest' hn h
  unfold fwC; omega
theorem has_or {n : Nat} {f : List Nat} (h : hasW f n = true) : los f n ≠ [] ∨ f = emp n := by
  unfold hasW at h
  rcases (Bool.or_eq_true _ _).mp h with h | h
  · exact .inl fun e => by rw [e] at h; cases h
  · exact .inr (of_decide_eq_true h)
end Pc
namespace L2
open PySem PySem.Spec PyProof.Rows RZ
/-! ### a dict display of one pair, the key a tuple -/
def dispT1 (p : Addr) (Q : VK) (x y : V) (H2 : Hp) : Prop := H2 p = some (.dT []) ∧ ∃ (b : Addr) (k : List Key), x = .ref b ∧ H2 b = some (.tup (k.map kV)) ∧ Q (.ref p) (upd H2 p (.dT [(k, y)]))
def dispT1L (p : Addr) (Q : VK) : List (V × V) → Hp → Prop
  | [(x, y)], H2 => dispT1 p Q x y H2
  | _, _ => False
def tDispT1 (tk tv : TE) : TE := fun σ H Q => ∀ p, H p = none → tk σ (upd H p (.dT [])) fun x H1 => tv σ H1 fun y H2 => dispT1 p Q x y H2
theorem pe_dispT1 {X : Cx} {ke ve : Expr} {pos : Pos} {tk tv : TE} (hu : X.A.units + 1 < cLine) (hk : PE X ke tk) (hv : PE X ve tv) : PE X (.Dict [some ke] [ve] pos) (tDispT1 tk tv) := by
  refine ⟨fun pins s σ H Q I q => ?_⟩
  have hn := I.hok.fresh (Nat.le_refl s.heap.objs.size)
  have I1 := I.laid (a := s.heap.objs.size) (o := .dT []) (h' := s.heap.push { cls := .type "dict", data := .dict #[] }) (t' := s.toks)
    (fun _ _ q => Heap.get?_push_of_some _ q) (Nat.le_refl _) (dt_empty s.heap I.big)
  have run := (pps_cons (pos := pos) hk hv pps_nil).run pins _ σ _ (dispT1L s.heap.objs.size Q) I1 (q _ hn)
  have e : pairTrees [some ke] [ve] X.env pos = [(eval ke X.env, do let x ← eval ve X.env; standAt pos; pure x)] := rfl
  rw [e] at run
  rw [arm_eval_Dict, show (evalEachOpt [some ke] X.env).zip ((evalEach [ve] X.env).map fun v => do let x ← v; standAt pos; pure x) = (pairTrees [some ke] [ve] X.env pos).map fun p => (some p.1, p.2) from rfl, e,
    dictDisplay_pairs _ (List.cons_ne_nil _ _) (by show 1 < 17; decide)]
  refine wpAny_bind (wpAny_standAt (wpAny_bind (wpAny_subDictH (knd := tupleKind (mixKind X.prog X.w)) (Q := fun d s' => wpAny (model X.prog X.w) X.A (pure (Value.ref d)) (EP X pins σ Q) X.xe s') ?_ (by show 1 ≤ 15; decide) (thn run fun ws s2 ⟨ps, H2, I2, rel, q2⟩ => ?_))))
  · show X.A.units < cLine
    omega
  · cases rel with
    | nil => exact q2.elim
    | @cons a b as bs h t =>
      cases t with
      | cons _ _ => exact q2.elim
      | nil =>
        obtain ⟨x, y⟩ := a
        obtain ⟨u, v⟩ := b
        obtain ⟨h1, b0, k, rfl, h2, h3⟩ := q2
        cases (show u = Value.ref b0 from h.1)
        obtain ⟨z, hd, xs, rx, dd⟩ := dt_of I2.hok h1
        cases rx
        refine ⟨[(k, b0, v)], ⟨rfl, rfl, key_of I2.hok h2, trivial⟩, dd, fun h' tk dd' hs => wpAny_pure ⟨.ref s.heap.objs.size, _, ?_, rfl, h3⟩⟩
        obtain ⟨q, es, ep, hq, g2, g3, g4, _, g5⟩ := dd'
        refine d_write I2 (by rw [h1]; exact True.intro) hs ⟨q, hq⟩ ⟨by show 1 ≤ sizeLine; decide, hd, _, ?_, q, es, ep, hq, g2, g3, g4, g5⟩
        refine Paired.cons ⟨rfl, ?_, h.2⟩ .nil
        show upd H2 s.heap.objs.size _ b0 = _
        rw [upd_ne (ne_of h2 h1 (fun z => nomatch z))]
        exact h2
end L2
namespace Pc
open PySem PySem.Spec PyProof.Rows L2 RZ
/-! ### a dict of groups -/
abbrev ky (l : List Nat) : List L2.Key := l.map fun i : Nat => (Sum.inl (i : Int) : L2.Key)
theorem ky_kV (l : List Nat) : (ky l).map kV = nv l := by unfold nv ky; rw [List.map_map]; rfl
theorem nv_injX : ∀ {l m : List Nat}, nv l = nv m → l = m
  | [], [], _ => rfl
  | [], _ :: _, h => by cases h
  | _ :: _, [], h => by cases h
  | x :: l, y :: m, h => by
    have h : V.int (x : Int) :: nv l = V.int (y : Int) :: nv m := h
    injection h with h1 h2
    have := V.int.inj h1
    rw [nv_injX h2, show x = y by omega]
theorem ky_inj {l m : List Nat} (h : ky l = ky m) : l = m := by
  have e : (ky l).map kV = (ky m).map kV := by rw [h]
  rw [ky_kV, ky_kV] at e
  exact nv_injX e
abbrev dkv (xs : List (List Nat × Addr)) : List (List L2.Key × V) := xs.map fun x => (ky x.1, V.ref x.2)
theorem valV_dkv {R : List Nat} : ∀ {xs : List (List Nat × Addr)}, valV (dkv xs) (ky R) = (xs.find? fun x => decide (x.1 = R)).map fun x => V.ref x.2
  | [] => rfl
  | x :: xs => by
    show valV ((ky x.1, V.ref x.2) :: dkv xs) (ky R) = _
    by_cases c : x.1 = R
    · rw [List.find?_cons_of_pos (by rw [decide_eq_true c])]
      unfold valV
      rw [List.find?_cons_of_pos (by rw [decide_eq_true (congrArg ky c)])]
      rfl
    · rw [List.find?_cons_of_neg (by rw [decide_eq_false c]; decide), ← valV_dkv]
      unfold valV
      rw [List.find?_cons_of_neg (by rw [decide_eq_false (fun z => c (ky_inj z))]; decide)]
theorem val_dkv {R : List Nat} {d : Addr} : ∀ {xs : List (List Nat × Addr)}, (xs.map (·.1)).Nodup → (R, d) ∈ xs → valV (dkv xs) (ky R) = some (V.ref d)
  | [], _, h => absurd h List.not_mem_nil
  | x :: xs, hn, h => by
    rw [valV_dkv]
    obtain ⟨h1, h2⟩ := List.nodup_cons.mp hn
    rcases List.mem_cons.mp h with e | e
    · subst e
      rw [List.find?_cons_of_pos (by rw [decide_eq_true rfl])]; rfl
    · have ne : x.1 ≠ R := fun z => h1 (by show x.1 ∈ _; rw [z]; exact List.mem_map.mpr ⟨_, e, rfl⟩)
      rw [List.find?_cons_of_neg (by rw [decide_eq_false ne]; decide), ← valV_dkv]
      exact val_dkv h2 e
theorem val_dkv_no {R : List Nat} {xs : List (List Nat × Addr)} (h : ∀ d, (R, d) ∉ xs) : valV (dkv xs) (ky R) = none := by
  rw [valV_dkv, List.find?_eq_none.mpr fun x hx => ?_]
  · rfl
  · rw [decide_eq_true_iff]
    intro e
    exact h x.2 (by rw [← e]; exact hx)
theorem any_dkv {R : List Nat} {xs : List (List Nat × Addr)} : ((dkv xs).any fun kv => decide (kv.1 = ky R)) = true ↔ ∃ d, (R, d) ∈ xs := by
  rw [List.any_eq_true]
  constructor
  · rintro ⟨kv, h, e⟩
    obtain ⟨x, hx, rfl⟩ := List.mem_map.mp h
    have e := ky_inj (of_decide_eq_true e)
    exact ⟨x.2, by rw [← e]; exact hx⟩
  · rintro ⟨d, h⟩
    exact ⟨_, List.mem_map.mpr ⟨_, h, rfl⟩, decide_eq_true rfl⟩
theorem put_dkv {R : List Nat} {d : Addr} {xs : List (List Nat × Addr)} (hn : (xs.map (·.1)).Nodup) :
    ∃ ys : List (List Nat × Addr), putK (dkv xs) (ky R) (V.ref d) = dkv ys ∧ (ys.map (·.1)).Nodup ∧ (R, d) ∈ ys ∧ (∀ y ∈ ys, y = (R, d) ∨ (y ∈ xs ∧ y.1 ≠ R)) ∧ (∀ x ∈ xs, x.1 ≠ R → x ∈ ys) ∧ ys.length ≤ xs.length + 1 := by
  unfold putK
  by_cases c : ∃ e, (R, e) ∈ xs
  · rw [if_pos (any_dkv.mpr c)]
    refine ⟨xs.map fun x => if x.1 = R then (R, d) else x, ?_, ?_, ?_, fun y hy => ?_, fun x hx h => ?_, by rw [List.length_map]; omega⟩
    · show (xs.map fun x => (ky x.1, V.ref x.2)).map _ = (xs.map _).map _
      rw [List.map_map, List.map_map]
      refine List.map_congr_left fun x _ => ?_
      show (if ky x.1 = ky R then (ky x.1, V.ref d) else (ky x.1, V.ref x.2)) = (ky (if x.1 = R then (R, d) else x).1, V.ref (if x.1 = R then (R, d) else x).2)
      by_cases e : x.1 = R
      · rw [if_pos (by rw [e]), if_pos e, e]
      · rw [if_neg (fun z => e (ky_inj z)), if_neg e]
    · rw [List.map_map, show ((fun x : List Nat × Addr => x.1) ∘ fun x => if x.1 = R then (R, d) else x) = fun x => x.1 from funext fun x => by
        show (if x.1 = R then (R, d) else x).1 = x.1
        by_cases e : x.1 = R
        · rw [if_pos e]; exact e.symm
        · rw [if_neg e]]
      exact hn
    · obtain ⟨e, he⟩ := c
      exact List.mem_map.mpr ⟨(R, e), he, if_pos rfl⟩
    · obtain ⟨x, hx, rfl⟩ := List.mem_map.mp hy
      by_cases e : x.1 = R
      · rw [if_pos e]; exact .inl rfl
      · rw [if_neg e]; exact .inr ⟨hx, e⟩
    · exact List.mem_map.mpr ⟨x, hx, if_neg h⟩
  · rw [if_neg (fun z => c (any_dkv.mp z))]
    refine ⟨xs ++ [(R, d)], by unfold dkv; rw [List.map_append]; rfl, ?_, List.mem_append.mpr (.inr List.mem_cons_self), fun y hy => ?_, fun x hx _ => List.mem_append.mpr (.inl hx), by rw [List.length_append]; exact Nat.le_refl _⟩
    · rw [List.map_append]
      refine List.nodup_append.mpr ⟨hn, List.pairwise_singleton _ _, fun a ha b hb e => ?_⟩
      obtain ⟨x, hx, rfl⟩ := List.mem_map.mp ha
      rw [List.mem_singleton.mp hb] at e
      exact c ⟨x.2, by rw [← (show x.1 = R from e)]; exact hx⟩
    · rcases List.mem_append.mp hy with h | h
      · exact .inr ⟨h, fun e => c ⟨y.2, by rw [← e]; exact h⟩⟩
      · exact .inl (List.mem_singleton.mp h)
theorem tups_mv {H H' : Hp} (t : ∀ a vs, H a = some (.tup vs) → H' a = some (.tup vs)) : ∀ {as : List Addr} {ls : List (List Nat)}, Tups H as ls → Tups H' as ls
  | _, _, .nil => .nil
  | _, _, .cons e r => .cons (t _ _ e) (tups_mv t r)
theorem prs_mv {H H' : Hp} (t : ∀ a vs, H a = some (.tup vs) → H' a = some (.tup vs)) : ∀ {as : List Addr} {qs : List (Nat × Nat)}, Prs H as qs → Prs H' as qs
  | _, _, .nil => .nil
  | _, _, .cons e r => .cons (t _ _ e) (prs_mv t r)
end Pc
namespace Pc
open PySem PySem.Spec PyProof.Rows L2 RZ
/-! ### sheets of words, layer by layer -/
abbrev BT := List (List Nat × Nat)
def hasK (T : BT) (f : List Nat) : Bool := T.any fun x => decide (x.1 = f)
abbrev dkI (T : BT) : List (List L2.Key × V) := T.map fun x => (ky x.1, V.int (x.2 : Nat))
def stB (n d : Nat) (f : List Nat) (s : BT × List (List Nat)) (p : Nat × Nat) : BT × List (List Nat) :=
  if hasK s.1 (jn f (n + p.1) (n + p.2)) then s else (s.1 ++ [(jn f (n + p.1) (n + p.2), d + 1)], s.2 ++ [jn f (n + p.1) (n + p.2)])
def hrB (n d : Nat) (s : BT × List (List Nat)) (f : List Nat) : BT × List (List Nat) := (allC n n).foldl (stB n d f) s
def lyB (n d : Nat) (T : BT) (L : List (List Nat)) : BT × List (List Nat) := L.foldl (hrB n d) (T, [])
def bfs (n : Nat) : Nat → BT × List (List Nat)
  | 0 => ([(emp n, 0)], [emp n])
  | d + 1 => lyB n d (bfs n d).1 (bfs n d).2
theorem hasK_iff {T : BT} {f : List Nat} : hasK T f = true ↔ ∃ k, (f, k) ∈ T := by
  unfold hasK
  rw [List.any_eq_true]
  constructor
  · rintro ⟨x, hx, e⟩
    have e := of_decide_eq_true e
    exact ⟨x.2, by rw [← e]; exact hx⟩
  · rintro ⟨k, h⟩
    exact ⟨_, h, decide_eq_true rfl⟩
theorem val_dkI {f : List Nat} {k : Nat} : ∀ {T : BT}, (T.map (·.1)).Nodup → (f, k) ∈ T → valV (dkI T) (ky f) = some (V.int (k : Nat))
  | [], _, h => absurd h List.not_mem_nil
  | x :: T, hn, h => by
    obtain ⟨h1, h2⟩ := List.nodup_cons.mp hn
    show valV ((ky x.1, V.int (x.2 : Nat)) :: dkI T) (ky f) = _
    unfold valV
    rcases List.mem_cons.mp h with e | e
    · subst e
      rw [List.find?_cons_of_pos (by rw [decide_eq_true rfl])]; rfl
    · have ne : x.1 ≠ f := fun z => h1 (by show x.1 ∈ _; rw [z]; exact List.mem_map.mpr ⟨_, e, rfl⟩)
      rw [List.find?_cons_of_neg (by rw [decide_eq_false (fun z => ne (ky_inj z))]; decide)]
      exact val_dkI h2 e
theorem val_dkI_no {f : List Nat} {T : BT} (h : hasK T f = false) : valV (dkI T) (ky f) = none := by
  unfold valV
  rw [List.find?_eq_none.mpr fun x hx => ?_]
  · rfl
  · obtain ⟨y, hy, rfl⟩ := List.mem_map.mp hx
    rw [decide_eq_true_iff]
    intro e
    rw [Bool.eq_false_iff] at h
    exact h (hasK_iff.mpr ⟨y.2, by rw [← ky_inj e]; exact hy⟩)
theorem put_dkI {f : List Nat} {k : Nat} {T : BT} (h : hasK T f = false) : putK (dkI T) (ky f) (V.int (k : Nat)) = dkI (T ++ [(f, k)]) := by
  unfold putK
  rw [if_neg fun z => ?_]
  · unfold dkI; rw [List.map_append]; rfl
  · obtain ⟨x, hx, e⟩ := List.any_eq_true.mp z
    obtain ⟨y, hy, rfl⟩ := List.mem_map.mp hx
    rw [Bool.eq_false_iff] at h
    exact h (hasK_iff.mpr ⟨y.2, by rw [← ky_inj (of_decide_eq_true e)]; exact hy⟩)
/-- what holds all the while: L the layer d -/
structure BOk (n d : Nat) (L : List (List Nat)) (s : BT × List (List Nat)) : Prop where
  nd : (s.1.map (·.1)).Nodup
  ip : ∀ x ∈ s.1, IsPair (2 * n) x.1
  ly : ∀ f ∈ L, (f, d) ∈ s.1
  fu : ∀ f ∈ s.2, (f, d + 1) ∈ s.1
  ln : s.2.length ≤ s.1.length
theorem BOk.st {n d : Nat} {L : List (List Nat)} {s : BT × List (List Nat)} {f : List Nat} {p : Nat × Nat} (h : BOk n d L s) (hf : IsPair (2 * n) f) (h1 : p.1 < p.2) (h2 : p.2 < n) : BOk n d L (stB n d f s p) := by
  unfold stB
  split
  · exact h
  · rename_i c
    have c' : ∀ k, (jn f (n + p.1) (n + p.2), k) ∉ s.1 := fun k hk => c (hasK_iff.mpr ⟨k, hk⟩)
    refine ⟨?_, fun x hx => ?_, fun g hg => List.mem_append.mpr (.inl (h.ly g hg)), fun g hg => ?_, by show (s.2 ++ [_]).length ≤ (s.1 ++ [_]).length; rw [List.length_append, List.length_append]; have := h.ln; show s.2.length + 1 ≤ s.1.length + 1; omega⟩
    · show ((s.1 ++ [(jn f (n + p.1) (n + p.2), d + 1)]).map (·.1)).Nodup
      rw [List.map_append]
      refine List.nodup_append.mpr ⟨h.nd, List.pairwise_singleton _ _, fun a ha b hb e => ?_⟩
      obtain ⟨x, hx, rfl⟩ := List.mem_map.mp ha
      rw [List.mem_singleton.mp hb] at e
      exact c' x.2 (by rw [← (show x.1 = jn f (n + p.1) (n + p.2) from e)]; exact hx)
    · rcases List.mem_append.mp hx with e | e
      · exact h.ip x e
      · rw [List.mem_singleton.mp e]; exact jn_pair hf (show n + p.1 ≠ n + p.2 by omega) (by omega) (by omega)
    · rcases List.mem_append.mp hg with e | e
      · exact List.mem_append.mpr (.inl (h.fu g e))
      · rw [List.mem_singleton.mp e]; exact List.mem_append.mpr (.inr (List.mem_cons_self ..))
theorem BOk.calls {n d : Nat} {L : List (List Nat)} {f : List Nat} (hf : IsPair (2 * n) f) : ∀ {qs : List (Nat × Nat)} {s : BT × List (List Nat)}, Calls n qs → BOk n d L s → BOk n d L (qs.foldl (stB n d f) s)
  | [], _, _, h => h
  | q :: qs, s, hc, h => by
    have k := hc q List.mem_cons_self
    exact BOk.calls hf (qs := qs) (s := stB n d f s q) (fun r hr => hc r (List.mem_cons_of_mem _ hr)) (h.st hf k.1 k.2)
theorem BOk.hr {n d : Nat} {L : List (List Nat)} {f : List Nat} {s : BT × List (List Nat)} (hf : IsPair (2 * n) f) (h : BOk n d L s) : BOk n d L (hrB n d s f) := BOk.calls hf (allC_calls n n) h
theorem BOk.lay {n d : Nat} {L : List (List Nat)} : ∀ {gs : List (List Nat)} {s : BT × List (List Nat)}, (∀ g ∈ gs, IsPair (2 * n) g) → BOk n d L s → BOk n d L (gs.foldl (hrB n d) s)
  | [], _, _, h => h
  | g :: gs, s, hg, h => BOk.lay (gs := gs) (s := hrB n d s g) (fun r hr => hg r (List.mem_cons_of_mem _ hr)) (h.hr (hg g List.mem_cons_self))
theorem BOk.pair {n d : Nat} {L : List (List Nat)} {s : BT × List (List Nat)} (h : BOk n d L s) : ∀ f ∈ L, IsPair (2 * n) f := fun f hf => h.ip _ (h.ly f hf)
theorem bfs_ok {n : Nat} (hn : 0 < n) : ∀ d, BOk n d (bfs n d).2 ((bfs n d).1, [])
  | 0 => ⟨List.pairwise_singleton _ _, fun x hx => by rw [List.mem_singleton.mp hx]; exact emp_pair hn, fun f hf => by rw [List.mem_singleton.mp hf]; exact List.mem_cons_self .., fun f h => absurd h List.not_mem_nil, Nat.zero_le _⟩
  | d + 1 => by
    have ih := bfs_ok hn d
    have k := BOk.lay ih.pair ih
    exact ⟨k.nd, k.ip, k.fu, fun f h => absurd h List.not_mem_nil, Nat.zero_le _⟩
/-! #### how long they get -/
theorem st_len (n d : Nat) (f : List Nat) (s : BT × List (List Nat)) (p : Nat × Nat) : s.1.length ≤ (stB n d f s p).1.length := by
  unfold stB
  split
  · exact Nat.le_refl _
  · show s.1.length ≤ (s.1 ++ [_]).length
    rw [List.length_append]; omega
theorem fold_len {α β : Type} {m : β → Nat} {g : β → α → β} (h : ∀ s a, m s ≤ m (g s a)) : ∀ (l : List α) (s : β), m s ≤ m (l.foldl g s)
  | [], _ => Nat.le_refl _
  | a :: l, s => Nat.le_trans (h s a) (fold_len h l (g s a))
theorem fold_take {α β : Type} {m : β → Nat} {g : β → α → β} (h : ∀ s a, m s ≤ m (g s a)) (l : List α) (s : β) (i : Nat) : m ((l.take i).foldl g s) ≤ m (l.foldl g s) := by
  have := fold_len h (l.drop i) ((l.take i).foldl g s)
  rw [← List.foldl_append, List.take_append_drop] at this
  exact this
theorem hr_len (n d : Nat) (s : BT × List (List Nat)) (f : List Nat) : s.1.length ≤ (hrB n d s f).1.length := fold_len (m := fun s : BT × List (List Nat) => s.1.length) (st_len n d f) _ _
theorem fold_snoc {α β : Type} {g : β → α → β} {l : List α} {s : β} {i : Nat} {a : α} (h : l[i]? = some a) : (l.take (i + 1)).foldl g s = g ((l.take i).foldl g s) a := by
  rw [List.take_add_one, h, List.foldl_append]; rfl
/-- in the middle of a layer: i sheets are done, and j calls of the next -/
theorem mid_len {n d i j : Nat} {T : BT} {L : List (List Nat)} {f : List Nat} (h : L[i]? = some f) : (((allC n n).take j).foldl (stB n d f) ((L.take i).foldl (hrB n d) (T, []))).1.length ≤ (lyB n d T L).1.length := by
  have h1 := fold_take (m := fun s : BT × List (List Nat) => s.1.length) (st_len n d f) (allC n n) ((L.take i).foldl (hrB n d) (T, [])) j
  have h2 : (hrB n d ((L.take i).foldl (hrB n d) (T, [])) f).1.length ≤ (lyB n d T L).1.length := by
    rw [← fold_snoc (g := hrB n d) (s := (T, [])) h]
    exact fold_take (m := fun s : BT × List (List Nat) => s.1.length) (hr_len n d) L (T, []) (i + 1)
  exact Nat.le_trans h1 h2
/-! #### two and four people -/
def dep (n : Nat) : Nat := if n = 2 then 2 else 5
def TB (n : Nat) : BT := (bfs n (dep n)).1
abbrev n24 : List Nat := [2, 4]
theorem bfs_len : ∀ n ∈ n24, ∀ d, d ≤ dep n → (bfs n d).1.length ≤ 82 := by decide +kernel
theorem bfs_go : ∀ n ∈ n24, ∀ d, d < dep n → (bfs n d).2 ≠ [] := by decide +kernel
theorem bfs_end : ∀ n ∈ n24, (bfs n (dep n)).2 = [] := by decide +kernel
def TBlit (n : Nat) : BT := TB n
theorem TB_len : (TB 2).length = 2 ∧ (TB 4).length = 82 := by decide +kernel
theorem TB_ok {n : Nat} (hn : 0 < n) : (TB n |>.map (·.1)).Nodup ∧ ∀ x ∈ TB n, IsPair (2 * n) x.1 := ⟨(bfs_ok hn (dep n)).nd, (bfs_ok hn (dep n)).ip⟩
def fwB (n : Nat) (x : List Nat × Nat) : Bool := (List.range n).all (fun y => lpB x.1 n y (lpC x.1 n y)) && hasW x.1 n && decide (n + 2 * ((loopsC x.1 n n).filter (pureB x.1 n)).length = x.2 + (loopsC x.1 n n).length)
theorem TB_fw : ∀ n ∈ n24, ∀ x ∈ TB n, fwB n x = true := by decide +kernel
theorem TB_few {n : Nat} (hn : n ∈ n24) {x : List Nat × Nat} (hx : x ∈ TB n) : fwC n x.1 = (x.2 : Nat) ∧ hasW x.1 n = true := by
  have h := TB_fw n hn x hx
  have h0 : 0 < n := by rcases List.mem_cons.mp hn with e | e; omega; rw [List.mem_singleton.mp e]; decide
  unfold fwB at h
  rw [Bool.and_eq_true, Bool.and_eq_true] at h
  obtain ⟨⟨h1, h2⟩, h3⟩ := h
  have hL := loopsC_of (fun y hy => (List.all_eq_true.mp h1) y (List.mem_range.mpr hy)) n (Nat.le_refl _)
  have := fw_val ((TB_ok h0).2 x hx) hL
  have := of_decide_eq_true h3
  exact ⟨by omega, h2⟩
theorem TB_cl : ∀ n ∈ n24, ∀ x ∈ TB n, ∀ p ∈ allC n n, ((TB n).any fun y => decide (y.1 = jn x.1 (n + p.1) (n + p.2)) && decide (y.2 ≤ x.2 + 1)) = true := by decide +kernel
theorem TB_step {n : Nat} (hn : n ∈ n24) {x : List Nat × Nat} (hx : x ∈ TB n) {p : Nat × Nat} (hp : p ∈ allC n n) : ∃ k, (jn x.1 (n + p.1) (n + p.2), k) ∈ TB n ∧ k ≤ x.2 + 1 := by
  obtain ⟨y, hy, e⟩ := List.any_eq_true.mp (TB_cl n hn x hx p hp)
  rw [Bool.and_eq_true] at e
  have e1 := of_decide_eq_true e.1
  exact ⟨y.2, by rw [← e1]; exact hy, of_decide_eq_true e.2⟩
/-- all sheets of words are there -/
theorem TB_words {n : Nat} (hn : n ∈ n24) : ∀ {qs : List (Nat × Nat)} {x : List Nat × Nat}, Calls n qs → x ∈ TB n → ∃ k, (shw n qs x.1, k) ∈ TB n
  | [], x, _, hx => ⟨x.2, hx⟩
  | q :: qs, x, hc, hx => by
    have k := hc q List.mem_cons_self
    obtain ⟨k2, h2, _⟩ := TB_step hn hx (allC_mem.mpr ⟨by omega, k.1, k.2⟩)
    exact TB_words hn (qs := qs) (x := (_, k2)) (fun r hr => hc r (List.mem_cons_of_mem _ hr)) h2
theorem TB_emp : ∀ n ∈ n24, hasK (TB n) (emp n) = true := by decide +kernel
theorem TB_has {n : Nat} (hn : n ∈ n24) {f : List Nat} {ls : List (List Nat)} (hf : IsPair (2 * n) f) (hL : Lo f n n ls) : hasK (TB n) f = hasW f n := by
  have h0 : 0 < n := by rcases List.mem_cons.mp hn with e | e; omega; rw [List.mem_singleton.mp e]; decide
  rw [Bool.eq_iff_iff]
  constructor
  · intro h
    obtain ⟨k, hk⟩ := hasK_iff.mp h
    exact (TB_few hn hk).2
  · intro h
    obtain ⟨qs, h1, h2, _⟩ := word_ex hf h0 hL (has_or h)
    obtain ⟨k0, hk0⟩ := hasK_iff.mp (TB_emp n hn)
    obtain ⟨k, hk⟩ := TB_words hn h1 hk0
    rw [← h2]
    exact hasK_iff.mpr ⟨k, hk⟩
end Pc
namespace Pc
open PySem PySem.Spec PyProof.Rows L2 RZ
/-! ### the heap in a search (of snip_layers55, alone) -/
theorem units1L {k : Nat} {A : Around} (r : Room k A) : A.units + 1 < cLine := by have := r.units; omega
structure Srch (H0 J : Hp) (aF aL aU : Addr) (us ws : List Addr) (L : List (List Nat)) (s : BT × List (List Nat)) : Prop where
  sm : Same H0 J
  eF : J aF = some (.dT (dkI s.1))
  eL : J aL = some (.lst (us.map V.ref))
  hL : Tups J us L
  eU : J aU = some (.lst (ws.map V.ref))
  hU : Tups J ws s.2
  n1 : H0 aF = none
  n2 : H0 aU = none
  ne : aL ≠ aU
theorem Srch.same {H0 J J' : Hp} {aF aL aU : Addr} {us ws : List Addr} {L : List (List Nat)} {s : BT × List (List Nat)} (h : Srch H0 J aF aL aU us ws L s) (e : Same J J') : Srch H0 J' aF aL aU us ws L s :=
  ⟨h.sm.trans e, e _ _ h.eF, e _ _ h.eL, tups_same e h.hL, e _ _ h.eU, tups_same e h.hU, h.n1, h.n2, h.ne⟩
theorem Srch.add {H0 J : Hp} {aF aL aU t : Addr} {us ws : List Addr} {L : List (List Nat)} {T : BT} {M : List (List Nat)} {f : List Nat} {k : Nat} (h : Srch H0 J aF aL aU us ws L (T, M)) (et : J t = some (.tup (nv f))) :
    Srch H0 (upd (upd J aF (.dT (dkI (T ++ [(f, k)])))) aU (.lst (ws.map V.ref ++ [V.ref t]))) aF aL aU us (ws ++ [t]) L (T ++ [(f, k)], M ++ [f]) := by
  have fu : aF ≠ aU := fun e => by have := h.eF; rw [e, h.eU] at this; cases this
  have lf : aL ≠ aF := fun e => by have := h.eF; rw [← e, h.eL] at this; cases this
  have mv : ∀ a vs, J a = some (.tup vs) → upd (upd J aF (.dT (dkI (T ++ [(f, k)])))) aU (.lst (ws.map V.ref ++ [V.ref t])) a = some (.tup vs) := fun a vs e => by
    rw [upd_ne (fun z => by rw [z, h.eU] at e; cases e), upd_ne (fun z => by rw [z, h.eF] at e; cases e)]
    exact e
  refine ⟨fun a o e => ?_, ?_, ?_, tups_mv mv h.hL, ?_, tups_append (tups_mv mv h.hU) (.cons (mv _ _ et) .nil), h.n1, h.n2, h.ne⟩
  · rw [upd_ne (fun z => by rw [z, h.n2] at e; cases e), upd_ne (fun z => by rw [z, h.n1] at e; cases e)]
    exact h.sm _ _ e
  · rw [upd_ne fu, upd_same]
  · rw [upd_ne h.ne, upd_ne lf]; exact h.eL
  · rw [upd_same, List.map_append]; rfl
end Pc
namespace Pc
open PySem PySem.Spec PyProof.Rows L2 RZ
theorem bls_next {H1 H' H2 : Hp} {D : Addr} {L : List Bool} {i : Nat} {x : Bool} (nD : H1 D = none) (sm : Same H1 H') (eD : H' D = some (.lst ((L.take i).map V.bl))) (hk : L[i]? = some x) (hb : L.length ≤ 100000)
    (s2 : Same H' H2) : ∃ acc, H2 D = some (.lst acc) ∧ acc.length < sizeLine ∧ (Same H1 (upd H2 D (.lst (acc ++ [.bl x]))) ∧ (upd H2 D (.lst (acc ++ [.bl x]))) D = some (.lst ((L.take (i + 1)).map V.bl))) := by
  have eD2 := s2 _ _ eD
  refine ⟨_, eD2, ?_, fun b' o hb' => ?_, ?_⟩
  · rw [List.length_map]; exact line_big (Nat.le_trans (List.length_take_le' _ _) hb)
  · rw [upd_ne (ne_of_none hb' nD)]; exact s2 _ _ (sm _ _ hb')
  · rw [upd_same, List.take_add_one, hk, List.map_append]; rfl
theorem sa_same {H H' : Hp} (h : ∀ a o, H a = some o → H' a = some o) : Same H H' := h
theorem allC_asc8 {r : Nat} (h : r ≤ 3) : (allC (2 * r) (2 * r)).Pairwise fun p q => ((p.1 * 8 + p.2 : Nat) : Int) < ((q.1 * 8 + q.2 : Nat) : Int) := by
  have : r = 0 ∨ r = 1 ∨ r = 2 ∨ r = 3 := by omega
  rcases this with z | z | z | z <;> subst z <;> decide
theorem dp_bls {K : PySem.W.Frag} {H : Hp} : ∀ l : List Bool, DpAll K H (l.map V.bl) (l.map PyData.bool)
  | [] => .nil
  | b :: l => .cons (.bl b) (dp_bls l)
theorem fi_bls {l : List Bool} (h : l.length ≤ 100) : Fi 1 (.list (l.map PyData.bool)) :=
  (fine_list (k := 0) (m := Sz 0) (n := 100) (fun d hd => by obtain ⟨b, -, rfl⟩ := List.mem_map.mp hd; exact fi_bl) (by rw [List.length_map]; exact h) (by decide)).mono (Nat.le_refl _) (by decide)
end Pc
/-! ### sorted(xs) of tuples of ints of one length, any number of them -/
namespace SrtO
open PySem PySem.Spec PyProof.Rows
theorem swo_code (k : Value → Int) : Swo fun v u => decide (k v < k u) :=
  ⟨fun x y h => decide_eq_false (by have := of_decide_eq_true h; omega), fun x y z h1 h2 => decide_eq_false (by have a := of_decide_eq_false h1; have b := of_decide_eq_false h2; omega)⟩
section
variable {prog : Program} {w : World} {A : Around} {E : Value → Shared → Prop} {s : Shared}
theorem tup_cmp {vs : List Value} {d : Nat} {B : Int} {c : Value → List Int} (hp : ∀ v ∈ vs, TS.TupInts s.heap v (c v) ∧ (c v).length = d ∧ TS.Bd B (c v)) :
    Cmp prog w A s (tuples' true) (fun p => p.1 ∈ vs) (lt2 fun v u => decide (TS.code B (c v) < TS.code B (c u))) := by
  intro p q hm hm'
  obtain ⟨h1, l1, b1⟩ := hp _ hm
  obtain ⟨h2, l2, b2⟩ := hp _ hm'
  show wpAny (model prog w) A (keyLt' (tuples' true) p.1 q.1) (fun r s' => s' = s ∧ r = decide (TS.code B (c p.1) < TS.code B (c q.1))) (fun _ _ => False) s
  generalize c p.1 = ns at h1 l1 b1 ⊢
  generalize c q.1 = ms at h2 l2 b2 ⊢
  obtain ⟨a, xs, e, ⟨o, ho, hc, n, hd⟩, i⟩ := h1
  obtain ⟨a', xs', e', ⟨o', ho', hc', n', hd'⟩, i'⟩ := h2
  rw [e, e']
  refine PySem.W.kat_lt ho hd ho' hd' ?_
  have hsz : decide (xs.size < xs'.size) = false := decide_eq_false (by
    have x1 := i.length
    have x2 := i'.length
    rw [Array.length_toList] at x1 x2
    omega)
  rw [hsz]
  exact TS.lex_ints 0 i i' (by omega) b1 b2 ⟨rfl, rfl⟩
theorem tups_sortableO {a : Addr} {vs : List Value} {d : Nat} {B : Int} {c : Value → List Int} (hd : 1 ≤ d) (h0 : 0 < vs.length) (hp : ∀ v ∈ vs, TS.TupInts s.heap v (c v) ∧ (c v).length = d ∧ TS.Bd B (c v)) (ha : ∀ o, s.heap.get? a = some o → o.cls ≠ .type "tuple") :
    SortableO prog w A s a vs fun v u => decide (TS.code B (c v) < TS.code B (c u)) := by
  intro h' keep
  have hp' : ∀ v ∈ vs, TS.TupInts h' v (c v) ∧ (c v).length = d ∧ TS.Bd B (c v) := fun v hm => ⟨(hp v hm).1.keeps fun b o e c => keep b o (fun z => by subst z; exact ha o e c) e, (hp v hm).2⟩
  obtain ⟨fs, h1, h2, h3⟩ := TS.firsts_of hd vs (fun v hm => ⟨_, (hp' v hm).1, (hp' v hm).2⟩ : TS.TupsOk h' d B vs)
  refine ⟨tuples' true, fun Q E hq => ?_, tup_cmp hp'⟩
  refine PySem.W.kat_kind (T := .type "int") h1 (by omega) (fun f hm => ?_) (by rfl) ?_
  · obtain ⟨x, t, rfl⟩ := h3 f hm
    exact PySem.W.Looks.now
  · have e : (Value.type "int" != Value.type "tuple") = true := by first | decide +kernel | rfl | decide
    rw [e]
    exact hq
theorem sorted_tupsO {l : Addr} {vs : List Value} {d : Nat} {B : Int} {c : Value → List Int} {Q : Value → Shared → Prop} (hd : 1 ≤ d) (hl : s.heap.IsList l vs.toArray) (hz : vs.length ≤ sizeLine) (hp : ∀ v ∈ vs, TS.TupInts s.heap v (c v) ∧ (c v).length = d ∧ TS.Bd B (c v))
    (h : ∀ (h' : Heap) (e : Addr) (out : List Value), Srtd (fun v u => decide (TS.code B (c v) < TS.code B (c u))) out → out.Perm vs → (∀ b o, s.heap.get? b = some o → h'.get? b = some o) → s.heap.objs.size ≤ e → (∃ n, h'.get? e = some (seqObj "list" out.toArray n)) → Q (.ref e) { s with heap := h' }) :
    wpAny (model prog w) A (call (.builtin "sorted") [.ref l]) Q E s := by
  refine sorted_ord (swo_code fun v => TS.code B (c v)) hl hz (fun h2 h₁ a ha kk => ?_) fun out hs hb => ?_
  · refine tups_sortableO (s := { s with heap := h₁ }) hd (by omega) (fun v hm => ⟨(hp v hm).1.keeps fun b o e _ => (kk b o e).2, (hp v hm).2⟩) fun o e => ?_
    have e' : some o = some (seqObj "list" vs.toArray 0) := e.symm.trans ha
    cases e'
    intro c
    exact absurd (Value.type.inj c) (by decide)
  · exact h _ _ out hs hb.perm (fun b o e => sortedAll_old e) (Nat.le_succ _) (sortedAll_at s.heap vs out.toArray)
end
end SrtO
namespace L2
open PySem PySem.Spec PyProof.Rows
def rSortTL (K : PySem.W.Frag) (d : Nat) (B : Int) : List V → Hp → VK → Prop := fun vs H Q => ∃ (a : Addr) (xs : List V), vs = [V.ref a] ∧ SqL K H a xs ∧ (∀ x ∈ xs, ∃ ns, TupI K H x ns ∧ ns.length = d ∧ TS.Bd B ns) ∧
  ∀ (ys : List V) (p : Addr), ys.Perm xs → ys.Pairwise (fun x y => ∀ n m, TupI K H x n → TupI K H y m → TS.code B n ≤ TS.code B m) → H p = none → Q (.ref p) (upd H p (.lst ys))
/-- sorted(xs), xs a list of tuples of d ints in [0, B), any number of them: a new list of the same, ascending by code B -/
theorem cr_sortTL {X : Cx} {d : Nat} {B : Int} (hd : 1 ≤ d) : CallR X (.builtin "sorted") (rSortTL X.K d B) := by
  intro pins s σ H vs us Q I r h
  obtain ⟨a, xs, rfl, hs, hx, q⟩ := h
  obtain ⟨its, rv, hl, hz⟩ := I.list hs
  rw [Vals.ref1 r]
  obtain ⟨e1, e2⟩ := bkV_refs rv fun x m => by
    obtain ⟨ns, ⟨t, e, _⟩, _⟩ := hx x m
    exact ⟨t, e⟩
  refine SrtO.sorted_tupsO (d := d) (B := B) (c := TS.intsOf s.heap) hd hl.isList (by rw [← rv.length]; exact hz) (fun v hv => ?_) fun h' e out h1 h2 kp hge hn => ?_
  · obtain ⟨t, rfl⟩ := e2 v hv
    have hm : V.ref t ∈ xs := by
      rw [e1]
      exact List.mem_map.mpr ⟨_, hv, rfl⟩
    obtain ⟨ns, ⟨t', e, ht⟩, hn, hb⟩ := hx _ hm
    cases e
    have k := tupI_raw I ht
    rw [k.ints]
    exact ⟨k, hn, hb⟩
  · have h3 : ∀ u ∈ out, ∃ a, u = Value.ref a := fun u hu => e2 u (h2.mem_iff.mp hu)
    have hp : (out.map bkV).Perm xs := by
      rw [e1]
      exact h2.map bkV
    obtain ⟨n, hn⟩ := hn
    refine ⟨.ref e, upd H e (.lst (out.map bkV)), I.laid (t' := s.toks) kp hge ⟨by rw [hp.length_eq]; exact hz, out, n, bkV_vals h3, hn⟩, rfl, q _ e hp ?_ (I.hok.fresh hge)⟩
    rw [List.pairwise_map]
    refine List.Pairwise.imp (fun {u v} huv n m hn hm => ?_) h1
    obtain ⟨t, et, ht⟩ := hn
    obtain ⟨t', et', ht'⟩ := hm
    have eu := bkV_ref et
    have ev := bkV_ref et'
    have i1 : TS.intsOf s.heap u = n := by
      rw [eu]
      exact (tupI_raw I ht).ints
    have i2 : TS.intsOf s.heap v = m := by
      rw [ev]
      exact (tupI_raw I ht').ints
    rw [← i1, ← i2]
    have := of_decide_eq_false huv
    omega
end L2
/-! ### sorted(xs), xs a list of tuples of ints, no tuple empty, of any lengths -/
namespace SrtO
open PySem PySem.Spec PyProof.Rows PySem.W
theorem swo_ints (k : Value → List Int) : Swo fun v u => decide (k v < k u) :=
  ⟨fun x y h => decide_eq_false (fun z => absurd (List.lt_trans (of_decide_eq_true h) z) (List.lt_irrefl _)), fun x y z h1 h2 => decide_eq_false (by
    have a := List.not_lt.mp (of_decide_eq_false h1)
    have b := List.not_lt.mp (of_decide_eq_false h2)
    exact List.not_lt.mpr (List.le_trans a b))⟩
theorem alike_ints : ∀ ns ms : List Int, alikeAll (ns.map PyData.int) (ms.map PyData.int) = true
  | [], _ => by simp [alikeAll]
  | _ :: _, [] => by simp [alikeAll]
  | n :: ns, m :: ms => by rw [List.map_cons, List.map_cons, alikeAll, alike_ints ns ms]; simp [alike]
theorem depth_ints : ∀ ns : List Int, PyData.depthAll (ns.map PyData.int) ≤ 1
  | [] => by simp [PyData.depthAll]
  | n :: ns => by
    have := depth_ints ns
    simp only [List.map_cons, PyData.depthAll, PyData.depth]
    omega
section
variable {prog : Program} {w : World} {A : Around} {E : Value → Shared → Prop} {s : Shared}
theorem ints_cmpX {vs : List Value} {c : Value → List Int} (hu : A.units + 64 < cLine) (hp : ∀ v ∈ vs, TS.TupInts s.heap v (c v)) : Cmp prog w A s (tuples' true) (fun p => p.1 ∈ vs) (lt2 fun v u => decide (c v < c u)) := by
  intro p q hm hm'
  have h1 := hp _ hm
  have h2 := hp _ hm'
  show wpAny (model prog w) A (keyLt' (tuples' true) p.1 q.1) (fun r s' => s' = s ∧ r = decide (c p.1 < c q.1)) (fun _ _ => False) s
  generalize c p.1 = ns at h1 ⊢
  generalize c q.1 = ms at h2 ⊢
  obtain ⟨a, xs, e, ⟨o, ho, hc, n, hd⟩, i⟩ := h1
  obtain ⟨a', xs', e', ⟨o', ho', hc', n', hd'⟩, i'⟩ := h2
  rw [e, e']
  refine PySem.W.kat_lt ho hd ho' hd' ?_
  refine katLex_alike (ns.map .int) (ms.map .int) 0 _ _ [] [] (i.reads _) (i'.reads _) (alike_ints ns ms) ?_ (fun _ _ x r t hx hxt => ?_) ?_ ⟨rfl, dataLt_ints ns ms⟩
  · have := depth_ints ns
    have := Nat.min_le_left (PyData.depthAll (ns.map PyData.int)) (PyData.depthAll (ms.map PyData.int))
    omega
  · cases ns with
    | nil => cases hx
    | cons n ns => rw [List.map_cons] at hx; injection hx with hx1; rw [hxt] at hx1; cases hx1
  · have x1 := i.length
    have x2 := i'.length
    rw [Array.length_toList] at x1 x2
    rw [List.length_map, List.length_map, x1, x2]
theorem ints_firsts {h : Heap} : ∀ vs : List Value, (∀ v ∈ vs, ∃ ns, TS.TupInts h v ns ∧ ns ≠ []) → ∃ fs : List Value, KatTups h vs fs ∧ fs.length = vs.length ∧ ∀ f ∈ fs, ∃ (x : Int) (t : Tok), f = Value.int x t
  | [], _ => ⟨[], KatTups.nil, rfl, fun f hf => by simp at hf⟩
  | v :: vs, x => by
    obtain ⟨fs, k, hl, hi⟩ := ints_firsts vs fun u hu => x u (List.mem_cons_of_mem _ hu)
    obtain ⟨ns, ⟨a, xs, rfl, ⟨o, ho, hc, n, hd⟩, i⟩, hne⟩ := x v List.mem_cons_self
    obtain ⟨z, t, hz⟩ : ∃ z t, xs[0]? = some (Value.int z t) := by
      cases hx : xs.toList with
      | nil => rw [hx] at i; cases i; exact absurd rfl hne
      | cons y ys =>
        rw [hx] at i
        cases i with
        | cons n t r => exact ⟨n, t, by rw [← Array.getElem?_toList, hx]; rfl⟩
    refine ⟨.int z t :: fs, KatTups.cons ho hc hd hz k, by rw [List.length_cons, List.length_cons, hl], fun f hf => ?_⟩
    rcases List.mem_cons.mp hf with rfl | hf
    · exact ⟨z, t, rfl⟩
    · exact hi f hf
theorem ints_sortableX {a : Addr} {vs : List Value} {c : Value → List Int} (hu : A.units + 64 < cLine) (h0 : 0 < vs.length) (hp : ∀ v ∈ vs, TS.TupInts s.heap v (c v) ∧ c v ≠ []) (ha : ∀ o, s.heap.get? a = some o → o.cls ≠ .type "tuple") :
    SortableO prog w A s a vs fun v u => decide (c v < c u) := by
  intro h' keep
  have hp' : ∀ v ∈ vs, TS.TupInts h' v (c v) ∧ c v ≠ [] := fun v hm => ⟨(hp v hm).1.keeps fun b o e c => keep b o (fun z => by subst z; exact ha o e c) e, (hp v hm).2⟩
  obtain ⟨fs, h1, h2, h3⟩ := ints_firsts vs (fun v hm => ⟨_, hp' v hm⟩)
  refine ⟨tuples' true, fun Q E hq => ?_, ints_cmpX (s := { s with heap := h' }) hu fun v hm => (hp' v hm).1⟩
  refine PySem.W.kat_kind (s := { s with heap := h' }) (T := .type "int") h1 (by omega) (fun f hm => ?_) (by rfl) ?_
  · obtain ⟨x, t, rfl⟩ := h3 f hm
    exact PySem.W.Looks.now
  · have e : (Value.type "int" != Value.type "tuple") = true := by first | decide +kernel | rfl | decide
    rw [e]
    exact hq
theorem sorted_intsX {l : Addr} {vs : List Value} {c : Value → List Int} {Q : Value → Shared → Prop} (hu : A.in1.in1.units + 64 < cLine) (hl : s.heap.IsList l vs.toArray) (hz : vs.length ≤ sizeLine) (hp : ∀ v ∈ vs, TS.TupInts s.heap v (c v) ∧ c v ≠ [])
    (h : ∀ (h' : Heap) (e : Addr) (out : List Value), Srtd (fun v u => decide (c v < c u)) out → out.Perm vs → (∀ b o, s.heap.get? b = some o → h'.get? b = some o) → s.heap.objs.size ≤ e → (∃ n, h'.get? e = some (seqObj "list" out.toArray n)) → Q (.ref e) { s with heap := h' }) :
    wpAny (model prog w) A (call (.builtin "sorted") [.ref l]) Q E s := by
  refine sorted_ord (swo_ints c) hl hz (fun h2 h₁ a ha kk => ?_) fun out hs hb => ?_
  · refine ints_sortableX (s := { s with heap := h₁ }) hu (by omega) (fun v hm => ⟨(hp v hm).1.keeps fun b o e _ => (kk b o e).2, (hp v hm).2⟩) fun o e => ?_
    have e' : some o = some (seqObj "list" vs.toArray 0) := e.symm.trans ha
    cases e'
    intro c
    exact absurd (Value.type.inj c) (by decide)
  · exact h _ _ out hs hb.perm (fun b o e => sortedAll_old e) (Nat.le_succ _) (sortedAll_at s.heap vs out.toArray)
end
end SrtO
namespace L2
open PySem PySem.Spec PyProof.Rows
def rSortTX (K : PySem.W.Frag) : List V → Hp → VK → Prop := fun vs H Q => ∃ (a : Addr) (xs : List V), vs = [V.ref a] ∧ SqL K H a xs ∧ (∀ x ∈ xs, ∃ ns, TupI K H x ns ∧ ns ≠ []) ∧
  ∀ (ys : List V) (p : Addr), ys.Perm xs → ys.Pairwise (fun x y => ∀ n m, TupI K H x n → TupI K H y m → ¬ m < n) → H p = none → Q (.ref p) (upd H p (.lst ys))
theorem cr_sortTX {X : Cx} (hu : X.A.units + 66 < cLine) : CallR X (.builtin "sorted") (rSortTX X.K) := by
  intro pins s σ H vs us Q I r h
  obtain ⟨a, xs, rfl, hs, hx, q⟩ := h
  obtain ⟨its, rv, hl, hz⟩ := I.list hs
  rw [Vals.ref1 r]
  obtain ⟨e1, e2⟩ := bkV_refs rv fun x m => by
    obtain ⟨ns, ⟨t, e, _⟩, _⟩ := hx x m
    exact ⟨t, e⟩
  refine SrtO.sorted_intsX (c := TS.intsOf s.heap) (by rw [Around.in1_units, Around.in1_units]; omega) hl.isList (by rw [← rv.length]; exact hz) (fun v hv => ?_) fun h' e out h1 h2 kp hge hn => ?_
  · obtain ⟨t, rfl⟩ := e2 v hv
    have hm : V.ref t ∈ xs := by
      rw [e1]
      exact List.mem_map.mpr ⟨_, hv, rfl⟩
    obtain ⟨ns, ⟨t', e, ht⟩, hn⟩ := hx _ hm
    cases e
    have k := tupI_raw I ht
    rw [k.ints]
    exact ⟨k, hn⟩
  · have h3 : ∀ u ∈ out, ∃ a, u = Value.ref a := fun u hu => e2 u (h2.mem_iff.mp hu)
    have hp : (out.map bkV).Perm xs := by
      rw [e1]
      exact h2.map bkV
    obtain ⟨n, hn⟩ := hn
    refine ⟨.ref e, upd H e (.lst (out.map bkV)), I.laid (t' := s.toks) kp hge ⟨by rw [hp.length_eq]; exact hz, out, n, bkV_vals h3, hn⟩, rfl, q _ e hp ?_ (I.hok.fresh hge)⟩
    rw [List.pairwise_map]
    refine List.Pairwise.imp (fun {u v} huv n m hn hm => ?_) h1
    obtain ⟨t, et, ht⟩ := hn
    obtain ⟨t', et', ht'⟩ := hm
    have eu := bkV_ref et
    have ev := bkV_ref et'
    have i1 : TS.intsOf s.heap u = n := by
      rw [eu]
      exact (tupI_raw I ht).ints
    have i2 : TS.intsOf s.heap v = m := by
      rw [ev]
      exact (tupI_raw I ht').ints
    rw [← i1, ← i2]
    exact of_decide_eq_false huv
end L2
namespace Pc
open PySem PySem.Spec PyProof.Rows L2 RZ
/-! ### loops by their least ones -/
theorem lo_min {n i : Nat} {f ps : List Nat} {ls : List (List Nat)} (hf : IsPair (2 * n) f) (h : Lo f n i ls) (hi : i < n) (hL : LoopL f n i ps) : i ∈ ls.flatten ↔ ∃ p ∈ ps, p < i := by
  obtain ⟨h1, _, _⟩ := h.count hf (by omega)
  rw [h1 i]
  constructor
  · rintro ⟨_, j, hj, c⟩
    exact ⟨j, (loop_cn hf hi hL j).mpr ⟨by omega, c.symm⟩, hj⟩
  · rintro ⟨p, hp, hlt⟩
    exact ⟨hi, p, hlt, ((loop_cn hf hi hL p).mp hp).2.symm⟩
theorem asc_head {t : List Nat} (h : t.Pairwise (· < ·)) {i : Nat} (hi : i ∈ t) (hm : ∀ p ∈ t, i ≤ p) : ∃ r, t = i :: r := by
  cases t with
  | nil => cases hi
  | cons y r =>
    have h1 := (List.pairwise_cons.mp h).1
    rcases List.mem_cons.mp hi with e | e
    · exact ⟨r, by rw [e]⟩
    · have := h1 i e; have := hm y List.mem_cons_self; omega
theorem lo_heads {n : Nat} {f : List Nat} (hf : IsPair (2 * n) f) {i : Nat} {ls : List (List Nat)} (h : Lo f n i ls) : i ≤ n → ls.Pairwise (fun a b => a.getD 0 0 < b.getD 0 0) ∧ ∀ t ∈ ls, t ≠ [] ∧ t.getD 0 0 < i := by
  induction h with
  | zero => exact fun _ => ⟨.nil, fun _ h => absurd h List.not_mem_nil⟩
  | skip _ _ ih => exact fun hi => ⟨(ih (by omega)).1, fun t ht => ⟨((ih (by omega)).2 t ht).1, by have := ((ih (by omega)).2 t ht).2; omega⟩⟩
  | @new i ls ps t h1 hm hL hp hs ih =>
    intro hi
    obtain ⟨a, b⟩ := ih (by omega)
    have mn : ∀ p ∈ t, i ≤ p := fun p hpt => by
      apply Nat.le_of_not_lt
      intro c
      exact hm ((lo_min hf h1 (by omega) hL).mpr ⟨p, hp.mem_iff.mp hpt, c⟩)
    obtain ⟨r, rfl⟩ := asc_head hs (hp.mem_iff.mpr hL.mem) mn
    refine ⟨List.pairwise_append.mpr ⟨a, List.pairwise_singleton _ _, fun x hx y hy => ?_⟩, fun u hu => ?_⟩
    · rw [List.mem_singleton.mp hy]; exact (b x hx).2
    · rcases List.mem_append.mp hu with c | c
      · exact ⟨(b u c).1, by have := (b u c).2; omega⟩
      · rw [List.mem_singleton.mp c]; exact ⟨List.cons_ne_nil _ _, Nat.lt_succ_self i⟩
theorem sorted_sameX {K : PySem.W.Frag} {H : Hp} : ∀ {as : List Addr} {ls : List (List Nat)} {ys : List V}, Tups H as ls → ls.Pairwise (fun a b => a.getD 0 0 < b.getD 0 0) → (∀ t ∈ ls, t ≠ []) → ys.Perm (as.map V.ref) →
    ys.Pairwise (fun x y => ∀ n m, TupI K H x n → TupI K H y m → ¬ m < n) → ys = as.map V.ref
  | _, _, ys, .nil, _, _, hp, _ => List.perm_nil.mp hp
  | a :: as, l :: ls, ys, .cons ha ht, hasc, hne, hp, hs => by
    have ti : ∀ {b : Addr} {k : List Nat}, H b = some (.tup (nv k)) → TupI K H (.ref b) (k.map fun i : Nat => (i : Int)) := fun {b k} e => ⟨_, rfl, by rw [List.map_map]; exact .inl (.inl e)⟩
    obtain ⟨h1, h2⟩ := List.pairwise_cons.mp hasc
    cases ys with
    | nil => have := hp.length_eq; simp at this
    | cons y ys =>
      have hy : y ∈ (a :: as).map V.ref := hp.mem_iff.mp (List.mem_cons_self ..)
      have e : y = .ref a := by
        rcases List.mem_cons.mp (show y ∈ V.ref a :: as.map V.ref from hy) with e | hy2
        · exact e
        · obtain ⟨b, hb, rfl⟩ := List.mem_map.mp hy2
          obtain ⟨i, hi, eb⟩ := List.getElem_of_mem hb
          obtain ⟨k, hk, ek⟩ := tups_get ht (show as[i]? = some b by rw [List.getElem?_eq_getElem hi, eb])
          have lt := h1 k (List.mem_of_getElem? hk)
          rcases List.mem_cons.mp (hp.mem_iff.mpr (show V.ref a ∈ (a :: as).map V.ref from List.mem_cons_self ..)) with e | hx
          · exact e.symm
          · have c := (List.pairwise_cons.mp hs).1 _ hx _ _ (ti ek) (ti ha)
            exfalso
            cases l with
            | nil => exact hne _ List.mem_cons_self rfl
            | cons x l =>
              cases k with
              | nil => exact hne _ (List.mem_cons_of_mem _ (List.mem_of_getElem? hk)) rfl
              | cons z k =>
                have lt : x < z := lt
                exact c (List.cons_lt_cons_iff.mpr (.inl (show (x : Int) < (z : Int) by omega)))
      subst e
      rw [sorted_sameX ht h2 (fun t h => hne t (List.mem_cons_of_mem _ h)) (List.Perm.cons_inv (show (V.ref a :: ys).Perm (V.ref a :: as.map V.ref) from hp)) (List.pairwise_cons.mp hs).2]
      rfl
def flB (f : List Nat) (n e : Nat) : Bool := !decide (V.bl (decide ((n : Int) ≤ ((f.getD e 0 : Nat) : Int))) = V.bl (decide ((n : Int) ≤ ((e : Nat) : Int))))
theorem flB_iff {f : List Nat} {n e : Nat} : flB f n e = true ↔ (n ≤ f.getD e 0 ↔ e < n) := by
  unfold flB
  by_cases a : (n : Int) ≤ ((f.getD e 0 : Nat) : Int) <;> by_cases b : (n : Int) ≤ ((e : Nat) : Int)
  · rw [decide_eq_true a, decide_eq_true b]
    constructor
    · intro z; exact absurd z (by decide)
    · intro z; exact absurd (z.mp (by omega)) (by omega)
  · rw [decide_eq_true a, decide_eq_false b]
    exact ⟨fun _ => ⟨fun _ => by omega, fun _ => by omega⟩, fun _ => rfl⟩
  · rw [decide_eq_false a, decide_eq_true b]
    exact ⟨fun _ => ⟨fun z => by omega, fun z => by omega⟩, fun _ => rfl⟩
  · rw [decide_eq_false a, decide_eq_false b]
    constructor
    · intro z; exact absurd z (by decide)
    · intro z; exact absurd (z.mpr (by omega)) (by omega)
def crw (n : Nat) (ps : List Nat) : List Nat := (List.range (2 * n)).filter fun e => decide (e % n ∈ ps)
theorem flags_pure {f ps t : List Nat} {n i : Nat} (hf : IsPair (2 * n) f) (hi : i < n) (hL : LoopL f n i ps) (ht : t.Perm ps) : pureB f n t = (decide (1 < ps.length) && (crw n ps).all (flB f n)) := by
  have key : (∀ p ∈ ps, n ≤ f.getD p 0) → 1 < ps.length → (crw n ps).all (flB f n) = true := fun h h1 => by
    rw [List.all_eq_true]
    intro e he
    obtain ⟨e1, e2⟩ := List.mem_filter.mp he
    have e1 := List.mem_range.mp e1
    have e2 := of_decide_eq_true e2
    rw [flB_iff]
    by_cases c : e < n
    · rw [Nat.mod_eq_of_lt c] at e2
      exact ⟨fun _ => c, fun _ => h e e2⟩
    · refine ⟨fun z => ?_, fun z => absurd z c⟩
      exfalso
      have hP : Pu n f i := (pureB_iff hf hi hL ht).mp (by
        unfold pureB
        rw [Bool.and_eq_true, List.all_eq_true]
        exact ⟨decide_eq_true (by rw [ht.length_eq]; exact h1), fun p hp => decide_eq_true (h p (ht.mem_iff.mp hp))⟩)
      have em : e % n = e - n := by rw [Nat.mod_eq_sub_mod (by omega), Nat.mod_eq_of_lt (by omega)]
      rw [em] at e2
      have ci := ((loop_cn hf hi hL (e - n)).mp e2).2
      have ct : Cn (eL n f) (e - n) e := by
        have := eL_tie (f := f) (show e - n < 2 * n by omega)
        rw [show oth n (e - n) = e by unfold oth; rw [if_pos (by omega)]; omega] at this
        exact this
      exact low_not_pure hf hi (show n ≤ e by omega) e1 z (ci.trans ct) hP
  rw [Bool.eq_iff_iff, Bool.and_eq_true]
  unfold pureB
  rw [Bool.and_eq_true, List.all_eq_true, ht.length_eq]
  constructor
  · rintro ⟨a, b⟩
    exact ⟨a, key (fun p hp => of_decide_eq_true (b p (ht.mem_iff.mpr hp))) (of_decide_eq_true a)⟩
  · rintro ⟨a, b⟩
    refine ⟨a, fun p hp => decide_eq_true ?_⟩
    have hp := ht.mem_iff.mp hp
    have hpn := hL.lt p hp
    have := List.all_eq_true.mp b p (List.mem_filter.mpr ⟨List.mem_range.mpr (by omega), decide_eq_true (by rw [Nat.mod_eq_of_lt hpn]; exact hp)⟩)
    exact (flB_iff.mp this).mpr hpn
end Pc
namespace Pc
open PySem PySem.Spec PyProof.Rows L2 RZ
section
variable {P : Program} {w : World} {K : PySem.W.Frag} {mg : Str → Option Value} {base : Heap}
/-! ### loops, by the law -/
theorem units66 {k : Nat} {A : Around} (r : Room k A) : A.units + 66 < cLine := by have := r.un; omega
def spLoops80 : Sp := fun vs H Q _ => ∃ (a : Addr) (f : List Nat) (n : Nat), vs = [.ref a] ∧ H a = some (.tup (nv f)) ∧ IsPair (2 * n) f ∧ 0 < n ∧ n ≤ 60 ∧
  ∀ (H' : Hp) (t l1 l2 : Addr) (as bs : List Addr) (ls : List (List Nat)), Lo f n n ls → Same H H' → H' t = some (.tup [.ref l1, .ref l2]) → H' l1 = some (.lst (as.map V.ref)) → Tups H' as ls → H' l2 = some (.lst (bs.map V.ref)) → Tups H' bs (ls.filter (pureB f n)) → Q (.ref t) H'
theorem ok_loops (T : Env K mg) : FnOk P w K mg base CX0 1 T.f_loops T.d_loops ["_law_page"] spLoops80 := by

  refine T.F_loops.ok sc_loops (fun vs H Q E h => ?_) (fun cdv A outer s H vs Q E hr h => ?_)
  · obtain ⟨a, f, n, rfl, _⟩ := h
    rfl
  · obtain ⟨a, f, n, rfl, ha, hf, h0, hn, q⟩ := h

    refine ⟨_, pss_cons (ps_asg (pe_tup (pa_cons (pe_op op_fdiv (pe_callB call_len_seq (by rfl) T.n_len PySem.boot_len (pa_cons (pv 0) pa_nil)) pe_int) (pa_cons (pe_lst pa_nil) (pa_cons (pe_lst pa_nil) pa_nil)))) (pg_tup rfl (pgs_cons (pg_name (i := 1) sc_loops.nd rfl (.inr rfl)) (pgs_cons (pg_name (i := 2) sc_loops.nd rfl (.inl rfl)) (pgs_cons (pg_name (i := 3) sc_loops.nd rfl (.inl rfl)) (pgs_nil)))))) <|
      pss_cons (ps_for PassesOwn.never rfl (pi_range1 (by rfl) T.n_range (pa_cons (pv 1) pa_nil)) (pg_name (i := 4) sc_loops.nd rfl (.inl rfl))
        (pss_cons (ps_asg (pe_tup (pa_cons (pe_lst (pa_cons (pv 4) pa_nil)) (pa_cons (pe_ix ix_tup (pv 0) (pv 4) (fun _ _ => rfl)) pa_nil))) (pg_tup rfl (pgs_cons (pg_name (i := 5) sc_loops.nd rfl (.inr rfl)) (pgs_cons (pg_name (i := 6) sc_loops.nd rfl (.inl rfl)) (pgs_nil))))) <|
      pss_cons (ps_while PassesOwn.never (pt_cmpR op_ne (pe_op op_mod (pv 6) (pv 1)) (pv 4) (nomark _)) (pss_cons (ps_expr (pe_bm PySem.F.plainAttrs_list PySem.F.slot_list_append PySem.F.type_list_append mt_append (pv 5) (pa_cons (pe_op op_mod (pv 6) (pv 1)) pa_nil))) <|
      pss_one (ps_set (i := 6) sc_loops.nd rfl (.inl rfl) (pe_ix ix_tup (pv 0) (pe_op op_mod (pe_op op_add (pv 6) (pv 1)) (pe_op op_mul pe_int (pv 1))) (fun _ _ => rfl))))) <|
      pss_one (ps_if (pt_cmpR op_eq (pe_callB (cr_min rfl) (by rfl) T.n_min (by decide +kernel) (pa_cons (pv 5) pa_nil)) (pv 4) (nomark _)) (pss_cons (ps_expr (pe_bm PySem.F.plainAttrs_list PySem.F.slot_list_append PySem.F.type_list_append mt_append (pv 2) (pa_cons (pe_callTy call_tuple_of (by rfl) T.n_tuple (by decide +kernel) (pa_cons (pe_callB cr_sorted (by rfl) T.n_sorted (by decide +kernel) (pa_cons (pv 5) pa_nil)) pa_nil)) pa_nil))) <|
      pss_cons (ps_setLc (i := 7) (own := [("_law_end", 9)]) (g := gName 9) (tt := tTest (tOp (rIn K false) (tOp (rI (fun _ j => 0 < j) fun i j => .int (i % j)) (tVar 9) (tVar 1)) (tVar 5))) (te := tVar 9) rfl sc_loops.nd rfl rfl (sw_true rfl rfl rfl (by decide +kernel)) (pi_range1 (by rfl) T.n_range (pa_cons (pe_op op_mul pe_int (pv 1)) pa_nil)) (blkOk_by (N := N_loops) (sc := (defScope s_loops)) (by decide +kernel)) (fun _ _ _ _ _ => (pg_name (i := 9) sc_loops.nd rfl (.inl rfl))) (fun _ _ _ _ _ => pts_one (pt_cmpR op_in_seq (pe_op op_mod (pv 9) (pv 1)) (pv 5) (by rfl))) (fun _ _ _ _ _ => pv 9)) <|
      pss_cons (ps_setLc (i := 8) (own := [("_law_end", 9)]) (g := gName 9) (tt := tYes) (te := tOp rNe (tOp (rI0 fun i j => .bl (decide (j ≤ i))) (tOp (rIxT K) (tVar 0) (tVar 9)) (tVar 1)) (tOp (rI0 fun i j => .bl (decide (j ≤ i))) (tVar 9) (tVar 1))) rfl sc_loops.nd rfl rfl (sw_true rfl rfl rfl (by decide +kernel)) (pi_list (pv 7)) (blkOk_by (N := N_loops) (sc := (defScope s_loops)) (by decide +kernel)) (fun _ _ _ _ _ => (pg_name (i := 9) sc_loops.nd rfl (.inl rfl))) (fun _ _ _ _ _ => pts_nil) (fun _ _ _ _ _ => pe_cmpR op_ne (pe_cmpR op_ge (pe_ix ix_tup (pv 0) (pv 9) (fun _ _ => rfl)) (pv 1) (nomark _)) (pe_cmpR op_ge (pv 9) (pv 1) (nomark _)) (nomark _))) <|
      pss_one (ps_if (PW.pt (pw_and (pt_cmpR op_gt (pe_callB call_len_seq (by rfl) T.n_len PySem.boot_len (pa_cons (pv 5) pa_nil)) pe_int (nomark _)) (pw_and1 (pt_val (pe_callB (cr_all rfl) (by rfl) T.n_all (by decide +kernel) (pa_cons (pv 8) pa_nil)))))) (pss_one (ps_expr (pe_bm PySem.F.plainAttrs_list PySem.F.slot_list_append PySem.F.type_list_append mt_append (pv 3) (pa_cons (pe_callTy call_tuple_of (by rfl) T.n_tuple (by decide +kernel) (pa_cons (pe_callB cr_sorted (by rfl) T.n_sorted (by decide +kernel) (pa_cons (pv 5) pa_nil)) pa_nil)) pa_nil)))) pss_nil)) pss_nil))) <|
      pss_one (ps_ret (pe_tup (pa_cons (pe_callB (cr_sortTX (units66 hr)) (by rfl) T.n_sorted (by decide +kernel) (pa_cons (pv 2) pa_nil)) (pa_cons (pe_callB (cr_sortTX (units66 hr)) (by rfl) T.n_sorted (by decide +kernel) (pa_cons (pv 3) pa_nil)) pa_nil)))), ?_⟩
    have hla : ((nv f).length : Int) / 2 = (n : Nat) := by rw [nv_length, hf.len]; omega
    refine ⟨_, rfl, a, _, rfl, .inr (.inl (.inl ha)), _, 2, rfl, rfl, ⟨by decide, by decide⟩, by show 0 ≤ sizeLine; decide, fun fo nfo => ⟨by show 0 ≤ sizeLine; decide, fun pu npu => ⟨by show 3 ≤ sizeLine; decide, fun tp ntp => ?_⟩⟩⟩
    have fp : fo ≠ pu := ne_of_none upd_same npu
    have s1 : Same H (upd (upd H fo (.lst [])) pu (.lst [])) := (same_new nfo).trans (same_new npu)
    have ef0 : (upd (upd H fo (.lst [])) pu (.lst [])) fo = some (.lst (([] : List Addr).map V.ref)) := by rw [upd_ne fp]; exact upd_same
    have ep0 : (upd (upd H fo (.lst [])) pu (.lst [])) pu = some (.lst (([] : List Addr).map V.ref)) := upd_same
    have npu0 : H pu = none := (same_new nfo).free npu
    have sT := same_new (o := .tup [V.int (((nv f).length : Int) / 2), V.ref fo, V.ref pu]) ntp
    refine ⟨tp, _, rfl, .inl (.inl upd_same), rfl, _, _, rfl, _, _, rfl, _, _, rfl, rfl, ?_⟩
    replace s1 := s1.trans sT
    replace ef0 := sT _ _ ef0
    replace ep0 := sT _ _ ep0
    revert s1 ef0 ep0
    generalize upd (upd (upd H fo (.lst [])) pu (.lst [])) tp (.tup [V.int (((nv f).length : Int) / 2), V.ref fo, V.ref pu]) = H1
    intro s1 ef0 ep0
    refine st_eq (t := tSeq _ _) [some (.ref a), some (.int (n : Nat)), some (.ref fo), some (.ref pu), none, none, none, none, none, none] ?_ (by rw [← hla]; rfl)
    refine ⟨_, rfl, _, rfl, by omega, by omega, ?_⟩
    rw [show ((n : Nat) : Int).toNat = n by omega]
    refine for_range (n := n) (fun i σ J => Same H J ∧ ∃ (y4 y5 y6 y7 y8 : Option V) (as bs : List Addr) (ls : List (List Nat)), σ = [some (.ref a), some (.int (n : Nat)), some (.ref fo), some (.ref pu), y4, y5, y6, y7, y8, none] ∧ Lo f n i ls ∧ J fo = some (.lst (as.map V.ref)) ∧ Tups J as ls ∧ J pu = some (.lst (bs.map V.ref)) ∧ Tups J bs (ls.filter (pureB f n)))
      ⟨s1, none, none, none, none, none, [], [], [], rfl, .zero, ef0, .nil, ep0, .nil⟩ (fun i σ Hi hi hPv => ?_) (fun σ Hi hPv => ?_)
    · obtain ⟨sm, y4, y5, y6, y7, y8, as, bs, ls, rfl, hR, ef, hT, ep, hP⟩ := hPv
      have hbd := hR.bound
      have hal : as.length ≤ n := by rw [hT.length]; omega
      have hbl : bs.length ≤ n := by rw [hP.length]; exact Nat.le_trans (List.length_filter_le _ _) (by omega)
      refine st_set [some (.ref a), some (.int (n : Nat)), some (.ref fo), some (.ref pu), some (.int ((0 : Int) + (i : Nat))), y5, y6, y7, y8, none] ?_ rfl
      rw [show (0 : Int) + (i : Nat) = ((i : Nat) : Int) by omega]
      obtain ⟨a1, a2, a3, a4⟩ := hf.d (show i < 2 * n by omega)
      -- the walk
      refine ⟨_, rfl, by show 1 ≤ sizeLine; decide, fun p np => ⟨_, rfl, _, rfl, a, _, _, _, rfl, rfl, .inl (.inl (same_new np _ _ (sm _ _ ha))), nv_at a4, by show 2 ≤ sizeLine; decide, fun t2 nt2 => ?_⟩⟩
      have e0 : (upd Hi p (.lst [.int (i : Int)])) p = some (.lst (nv ([i].map (· % n)))) := by rw [upd_same]; show _ = some (HO.lst [V.int ((i % n : Nat) : Int)]); rw [Nat.mod_eq_of_lt hi]
      have s0 : Same Hi (upd Hi p (.lst [.int (i : Int)])) := same_new np
      have sT := same_new (o := .tup [V.ref p, V.int ((f.getD i 0 : Nat) : Int)]) nt2
      refine ⟨t2, _, rfl, .inl (.inl upd_same), rfl, _, _, rfl, _, _, rfl, rfl, ?_⟩
      replace e0 := sT _ _ e0
      replace s0 := s0.trans sT
      have np0 : Hi p = none := np
      revert e0 s0
      clear sT
      generalize upd (upd Hi p (.lst [.int (i : Int)])) t2 (.tup [V.ref p, V.int ((f.getD i 0 : Nat) : Int)]) = H0
      intro e0 s0
      refine st_eq (t := tSeq _ _) [some (.ref a), some (.int (n : Nat)), some (.ref fo), some (.ref pu), some (.int ((i : Nat) : Int)), some (.ref p), some (.int ((f.getD i 0 : Nat) : Int)), y7, y8, none] ?_ rfl
      have i0 := (EvI.start (f := f) hi).step hf h0 List.not_mem_nil
      refine ⟨fun m σ J => ∃ (l es : List Nat) (e : Nat), σ = [some (.ref a), some (.int (n : Nat)), some (.ref fo), some (.ref pu), some (.int ((i : Nat) : Int)), some (.ref p), some (.int ((f.getD e 0 : Nat) : Int)), y7, y8, none] ∧ Same Hi J ∧ J p = some (.lst (nv (es.map (· % n)))) ∧ EvI f n i l es (oth n (f.getD e 0)) ∧ e ∈ es ∧ 2 * n - l.length = m,
        ⟨_, _, [i], i, rfl, s0, e0, i0, List.mem_singleton.mpr rfl, rfl⟩, fun m σ J hW => ?_⟩
      obtain ⟨l, es, e, rfl, sj, ee, hi2, he, hm⟩ := hW
      have hel : e < 2 * n := hi2.lp.lt e (hi2.ev.sub e he).1
      obtain ⟨f1, _, f3, _⟩ := hf.d hel
      have hesn : es ≠ [] := fun z => by rw [z] at he; exact absurd he List.not_mem_nil
      have hel2 : (es.map (· % n)).length ≤ n := nd_len n _ hi2.pn (fun y hy => by obtain ⟨z, _, rfl⟩ := List.mem_map.mp hy; exact Nat.mod_lt _ h0)
      have emod : ((f.getD e 0 : Nat) : Int) % (n : Int) = ((f.getD e 0 % n : Nat) : Int) := rfl
      have hstop : f.getD e 0 % n = i ↔ oth n (f.getD e 0) = i := by
        constructor
        · intro z
          rcases mod_two f1 (show i < 2 * n by omega) (by rw [z, Nat.mod_eq_of_lt hi]) with w | w
          · exact absurd w.symm (hi2.dj i (hi2.xm hesn) e he)
          · rw [w, oth_oth (by omega)]
        · intro z
          rw [← oth_mod f1, z, Nat.mod_eq_of_lt hi]
      refine ⟨_, rfl, _, rfl, _, _, rfl, rfl, (by show (0 : Int) < (n : Int); omega), _, rfl, rfl, _, rfl, ?_⟩
      refine ite2 (fun c => ?_) (fun c => ?_)
      · have hne : oth n (f.getD e 0) ≠ i := fun z => by
          have c' : (!decide (V.int ((f.getD e 0 % n : Nat) : Int) = V.int ((i : Nat) : Int))) = true := c
          rw [hstop.mpr z, decide_eq_true rfl] at c'
          exact absurd c' (by decide)
        have hz : oth n (f.getD e 0) ∉ l := fun hm => hne (hi2.lp.done (emp_pair h0) hm)
        have hroom := hi2.lp.room hf (emp_pair h0) hz
        have hi3 := hi2.step hf h0 hz
        obtain ⟨g1, _, _, g4⟩ := hf.d (oth_lt f1)
        refine ⟨fun σ' J2 => ∃ (l es : List Nat) (e : Nat), σ' = [some (.ref a), some (.int (n : Nat)), some (.ref fo), some (.ref pu), some (.int ((i : Nat) : Int)), some (.ref p), some (.int ((f.getD e 0 : Nat) : Int)), y7, y8, none] ∧ Same Hi J2 ∧ J2 p = some (.lst (nv (es.map (· % n)))) ∧ EvI f n i l es (oth n (f.getD e 0)) ∧ e ∈ es ∧ 2 * n - l.length < m,
          fun σ' J2 h2 => ?_, ?_⟩
        · obtain ⟨l', es', e', g1, g2, g3, g4, g5, g6⟩ := h2
          exact ⟨_, g6, l', es', e', g1, g2, g3, g4, g5, rfl⟩
        · refine ⟨_, rfl, .inl ⟨rfl, _, .inl (.inl ee)⟩, _, rfl, _, rfl, _, _, rfl, rfl, (by show (0 : Int) < (n : Int); omega), p, _, _, rfl, rfl, ee, line_big (by rw [nv_length]; omega), ?_⟩
          have em : ((f.getD e 0 : Nat) : Int) % (n : Int) = ((oth n (f.getD e 0) % n : Nat) : Int) := by rw [oth_mod f1]; rfl
          have e1 : (upd J p (.lst (nv (es.map (· % n)) ++ [V.int (((f.getD e 0 : Nat) : Int) % (n : Int))]))) p = some (.lst (nv ((es ++ [oth n (f.getD e 0)]).map (· % n)))) := by rw [upd_same, em, nv_snoc', List.map_append]; rfl
          have s1 : Same Hi (upd J p (.lst (nv (es.map (· % n)) ++ [V.int (((f.getD e 0 : Nat) : Int) % (n : Int))]))) := fun b o hb => by rw [upd_ne (ne_of_none hb np0)]; exact sj _ _ hb
          revert e1 s1
          generalize upd J p (.lst (nv (es.map (· % n)) ++ [V.int (((f.getD e 0 : Nat) : Int) % (n : Int))])) = J1
          intro e1 s1
          have eix : (((f.getD e 0 : Nat) : Int) + (n : Int)) % (2 * (n : Int)) = ((oth n (f.getD e 0) : Nat) : Int) := by
            unfold oth
            split
            · rw [Int.emod_eq_of_lt (by omega) (by omega)]; omega
            · rw [show ((f.getD e 0 : Nat) : Int) + (n : Int) = ((f.getD e 0 - n : Nat) : Int) + 2 * (n : Int) by omega, Int.add_emod_right, Int.emod_eq_of_lt (by omega) (by omega)]
          refine ⟨_, rfl, _, rfl, _, rfl, _, _, rfl, rfl, _, rfl, 2, _, rfl, rfl, .inl ⟨by decide, by decide⟩, _, _, rfl, rfl, (by show (0 : Int) < 2 * (n : Int); omega), a, _, _, .int ((f.getD (oth n (f.getD e 0)) 0 : Nat) : Int), rfl, rfl, .inl (.inl (s1 _ _ (sm _ _ ha))), ?_, ?_⟩
          · show atI (nv f) ((((f.getD e 0 : Nat) : Int) + (n : Int)) % (2 * (n : Int))) = _
            rw [eix]; exact nv_at g4
          refine st_set [some (.ref a), some (.int (n : Nat)), some (.ref fo), some (.ref pu), some (.int ((i : Nat) : Int)), some (.ref p), some (.int ((f.getD (oth n (f.getD e 0)) 0 : Nat) : Int)), y7, y8, none] ?_ rfl
          exact ⟨_, _, oth n (f.getD e 0), rfl, s1, e1, hi3, List.mem_append.mpr (.inr (List.mem_singleton.mpr rfl)), by rw [List.length_append, ← hm]; show 2 * n - (l.length + 2) < 2 * n - l.length; omega⟩
      have hzi : oth n (f.getD e 0) = i := hstop.mp (by
        by_cases e' : f.getD e 0 % n = i
        · exact e'
        · exact absurd (show (!decide (V.int ((f.getD e 0 % n : Nat) : Int) = V.int ((i : Nat) : Int))) = true by rw [decide_eq_false (fun z' => e' (by have := V.int.inj z'; omega))]; rfl) c)
      rw [hzi] at hi2
      have hL := hi2.loop hf hi hesn
      have hmin := lo_min hf hR hi hL
      obtain ⟨ts, t1, t2⟩ := sorted_of hL.nd
      have pfo : p ≠ fo := (ne_of_none ef np0).symm
      have efj := sj _ _ ef
      have hTj := tups_same sj hT
      have epj := sj _ _ ep
      have hPj := tups_same sj hP
      have smj := sm.trans sj
      clear ef hT ep hP sm sj i0 e0 s0 c hstop
      -- the least one
      refine ⟨_, rfl, p, (es.map (· % n)).map (fun x : Nat => (x : Int)), rfl, by rw [List.map_map]; exact .inl (.inl ee), by rw [List.length_map, List.length_map]; exact List.length_pos_iff.mpr hesn, fun mi hm1 hm2 => ?_⟩
      obtain ⟨mn, hmn, emn⟩ := List.mem_map.mp hm1
      have hmi : mi = i ↔ ¬ ∃ q ∈ es.map (· % n), q < i := by
        constructor
        · rintro rfl ⟨q, hq, hlt⟩
          have := hm2 _ (List.mem_map_of_mem (f := fun x : Nat => (x : Int)) hq)
          omega
        · intro h
          have h1 := hm2 _ (List.mem_map_of_mem (f := fun x : Nat => (x : Int)) hL.mem)
          have h2 : ¬ mn < i := fun z => h ⟨mn, hmn, z⟩
          omega
      refine ⟨_, rfl, rfl, _, rfl, ite2 (fun c => ?_) (fun c => ?_)⟩
      · have hmie : mi = i := V.int.inj (of_decide_eq_true c)
        have hfl : i ∉ ls.flatten := fun z => hmi.mp hmie (hmin.mp z)
        have hLo := Lo.new hR hfl hL t1 t2
        -- found
        refine ⟨_, rfl, .inl ⟨rfl, _, .inl (.inl efj)⟩, ?_⟩
        refine ⟨_, rfl, ?_⟩
        refine sort_natsN (t := ts) (.inl (.inl ee)) (by omega) t1 t2 fun l2 nl2 => ?_
        have u1 : Same J (upd J l2 (.lst (nv ts))) := same_new nl2
        have el3 : (upd J l2 (.lst (nv ts))) l2 = some (.lst (nv ts)) := upd_same
        revert u1 el3
        generalize upd J l2 (.lst (nv ts)) = J5
        intro u1 el3
        refine ⟨l2, _, rfl, .inl ⟨.inl (.inl el3), fun t nt => ?_⟩⟩
        have s6 : Same J5 (upd J5 t (.tup (nv ts))) := same_new nt
        have ef6 := s6 _ _ (u1 _ _ efj)
        have tf : t ≠ fo := fun z => by rw [z, u1 _ _ efj] at nt; cases nt
        have tpu : pu ≠ fo := fp.symm
        refine ⟨fo, _, _, rfl, rfl, ef6, line_big (by rw [List.length_map]; omega), ?_⟩
        have k7 : Keep fo (upd J5 t (.tup (nv ts))) (upd (upd J5 t (.tup (nv ts))) fo (.lst (as.map V.ref ++ [.ref t]))) := keep_upd
        have ef7 : (upd (upd J5 t (.tup (nv ts))) fo (.lst (as.map V.ref ++ [.ref t]))) fo = some (.lst ((as ++ [t]).map V.ref)) := by rw [upd_same, List.map_append]; rfl
        have hT7 := tups_append (tups_keep k7 ef6 (tups_same (u1.trans s6) hTj)) (.cons (k7 _ _ tf upd_same) .nil : Tups _ [t] [ts])
        have ep7 := k7 _ _ tpu (s6 _ _ (u1 _ _ epj))
        have hP7 := tups_keep k7 ef6 (tups_same (u1.trans s6) hPj)
        have nfo0 : H fo = none := nfo
        have ee7 := k7 _ _ pfo (s6 _ _ (u1 _ _ ee))
        have sm7 : Same H (upd (upd J5 t (.tup (nv ts))) fo (.lst (as.map V.ref ++ [.ref t]))) := fun b o hb => by
          rw [upd_ne (ne_of_none hb nfo0)]; exact s6 _ _ (u1 _ _ (smj _ _ hb))
        revert ef7 hT7 ep7 hP7 ee7 sm7
        clear u1 el3 s6 ef6 k7 nt nl2 tf
        generalize upd (upd J5 t (.tup (nv ts))) fo (.lst (as.map V.ref ++ [.ref t])) = J7
        intro ef7 hT7 ep7 hP7 ee7 sm7
        -- the crew
        refine ⟨_, rfl, 2, _, rfl, rfl, .inl ⟨by decide, by decide⟩, _, rfl, by omega, by omega, fun D nD => ?_⟩
        rw [show (2 * (n : Int)).toNat = 2 * n by omega]
        refine lc_range (n := 2 * n) (fun j J' => Same J7 J' ∧ J' D = some (.lst (nv (((List.range (2 * n)).take j).filter fun e => decide (e % n ∈ es.map (· % n)))))) ⟨same_new nD, upd_same⟩ (fun j J' hj h => ?_) (fun J8 h => ?_)
        · obtain ⟨sj, eD⟩ := h
          rw [show ((0 : Int) + (j : Nat)) = ((j : Nat) : Int) from Int.zero_add _]
          refine ⟨rfl, _, rfl, _, rfl, _, _, rfl, rfl, (by show (0 : Int) < (n : Int); omega), _, rfl, p, _, rfl, .inl (.inl (.inl (sj _ _ ee7))), rfl, flat_nat _, _, rfl, ?_⟩
          have htk : (List.range (2 * n)).take (j + 1) = (List.range (2 * n)).take j ++ [j] := by rw [List.take_add_one, List.getElem?_range hj]; rfl
          refine ite2 (fun c => ?_) (fun c => ?_)
          · have c0 : inV (.int ((j % n : Nat) : Int)) (nv (es.map (· % n))) = true := c
            rw [in_nat] at c0
            refine ⟨_, rfl, _, eD, ?_, fun z o hz => ?_, ?_⟩
            · rw [nv_length]; exact small1000 (Nat.le_trans (List.length_filter_le _ _) (Nat.le_trans (List.length_take_le' _ _) (by rw [List.length_range]; omega)))
            · rw [upd_ne (ne_of_none hz nD)]; exact sj _ _ hz
            · rw [upd_same, htk, List.filter_append, List.filter_cons_of_pos (p := fun e => decide (e % n ∈ es.map (· % n))) (a := j) (l := []) c0, nv_snoc']; rfl
          · have c0 : ¬ inV (.int ((j % n : Nat) : Int)) (nv (es.map (· % n))) = true := c
            rw [in_nat] at c0
            refine ⟨sj, ?_⟩
            rw [htk, List.filter_append, List.filter_cons_of_neg (p := fun e => decide (e % n ∈ es.map (· % n))) (a := j) (l := []) c0, List.filter_nil, List.append_nil]; exact eD
        obtain ⟨s8, eD⟩ := h
        rw [show (List.range (2 * n)).take (2 * n) = List.range (2 * n) from List.take_of_length_le (by rw [List.length_range]; exact Nat.le_refl _)] at eD
        have eD : J8 D = some (.lst (nv (crw n (es.map (· % n))))) := eD
        have crl : ∀ e ∈ crw n (es.map (· % n)), e < 2 * n := fun e he => List.mem_range.mp (List.mem_filter.mp he).1
        have crn : (crw n (es.map (· % n))).length ≤ 2 * n := Nat.le_trans (List.length_filter_le _ _) (by rw [List.length_range]; exact Nat.le_refl _)
        refine st_nx ?_
        refine st_set [some (.ref a), some (.int (n : Nat)), some (.ref fo), some (.ref pu), some (.int ((i : Nat) : Int)), some (.ref p), some (.int ((f.getD e 0 : Nat) : Int)), some (.ref D), y8, none] ?_ rfl
        -- the flags
        refine ⟨_, rfl, D, rfl, ⟨_, .inl (.inl eD)⟩, fun G nG => ?_⟩
        have ha8 := s8 _ _ (sm7 _ _ ha)
        refine lc_list (xs := nv (crw n (es.map (· % n)))) (fun j J' => Same J8 J' ∧ J' G = some (.lst ((((crw n (es.map (· % n))).map (flB f n)).take j).map V.bl))) ⟨same_new nG, upd_same⟩ (fun j J' _ h => .inl (.inl (h.1 _ _ eD))) (fun j v J' hv h => ?_) (fun J9 h => ?_)
        · obtain ⟨sj, eG⟩ := h
          obtain ⟨x, ex, rfl⟩ := nv_get' hv
          have hx := crl x (List.mem_of_getElem? ex)
          refine ⟨rfl, yes_if ⟨_, rfl, _, rfl, a, _, _, _, rfl, rfl, .inl (.inl (sj _ _ ha8)), nv_at (hf.d hx).2.2.2, _, rfl, _, _, rfl, rfl, _, rfl, _, rfl, _, _, rfl, rfl, rfl, ?_⟩⟩
          exact bls_next nG sj eG (x := flB f n x) (by rw [List.getElem?_map, ex]; rfl) (by rw [List.length_map]; omega) (fun _ _ h => h)
        obtain ⟨s9, eG⟩ := h
        rw [nv_length, ← List.length_map (f := flB f n), List.take_length] at eG
        refine st_set [some (.ref a), some (.int (n : Nat)), some (.ref fo), some (.ref pu), some (.int ((i : Nat) : Int)), some (.ref p), some (.int ((f.getD e 0 : Nat) : Int)), some (.ref D), some (.ref G), none] ?_ rfl
        have s79 := s8.trans s9
        have ee9 := s79 _ _ ee7
        have hpl := flags_pure hf hi hL t1
        have hfl2 : (ls ++ [ts]).filter (pureB f n) = ls.filter (pureB f n) ++ (if pureB f n ts = true then [ts] else []) := by
          rw [List.filter_append]
          congr 1
          by_cases w : pureB f n ts = true
          · rw [if_pos w, List.filter_cons_of_pos w]; rfl
          · rw [if_neg w, List.filter_cons_of_neg w]; rfl
        have fin0 : ∀ (y7 y8 : Option V), pureB f n ts = false → Same H J9 ∧ ∃ (z4 z5 z6 z7 z8 : Option V) (as bs : List Addr) (ls : List (List Nat)), ([some (.ref a), some (.int (n : Nat)), some (.ref fo), some (.ref pu), some (.int ((i : Nat) : Int)), some (.ref p), some (.int ((f.getD e 0 : Nat) : Int)), y7, y8, none] : L2.St) = [some (.ref a), some (.int (n : Nat)), some (.ref fo), some (.ref pu), z4, z5, z6, z7, z8, none] ∧ Lo f n (i + 1) ls ∧ J9 fo = some (.lst (as.map V.ref)) ∧ Tups J9 as ls ∧ J9 pu = some (.lst (bs.map V.ref)) ∧ Tups J9 bs (ls.filter (pureB f n)) := fun y7 y8 w =>
          ⟨sm7.trans s79, _, _, _, _, _, as ++ [t], bs, ls ++ [ts], rfl, hLo, s79 _ _ ef7, tups_same s79 hT7, s79 _ _ ep7, by rw [hfl2, if_neg (by rw [w]; decide), List.append_nil]; exact tups_same s79 hP7⟩
        refine ⟨_, rfl, p, _, rfl, .inl (.inl (.inl ee9)), _, 1, rfl, rfl, _, rfl, ite2 (fun c => ?_) (fun c => ?_)⟩
        · have c1 : 1 < (es.map (· % n)).length := by have := of_decide_eq_true c; rw [nv_length] at this; omega
          rw [decide_eq_true c1, Bool.true_and] at hpl
          refine ⟨_, rfl, G, _, rfl, .inl (.inl eG), ?_⟩
          rw [List.all_map, show (id ∘ flB f n) = flB f n from rfl, ← hpl]
          refine ⟨_, rfl, ite2 (fun w => ?_) (fun w => fin0 _ _ (Bool.eq_false_iff.mpr w))⟩
          refine ⟨_, rfl, .inl ⟨rfl, _, .inl (.inl (s79 _ _ ep7))⟩, ?_⟩
          refine ⟨_, rfl, ?_⟩
          refine sort_natsN (t := ts) (.inl (.inl ee9)) (by omega) t1 t2 fun l3 nl3 => ?_
          have u1 : Same J9 (upd J9 l3 (.lst (nv ts))) := same_new nl3
          have el3 : (upd J9 l3 (.lst (nv ts))) l3 = some (.lst (nv ts)) := upd_same
          revert u1 el3
          generalize upd J9 l3 (.lst (nv ts)) = Ja
          intro u1 el3
          refine ⟨l3, _, rfl, .inl ⟨.inl (.inl el3), fun t' nt' => ?_⟩⟩
          have s6 : Same Ja (upd Ja t' (.tup (nv ts))) := same_new nt'
          have S := (s79.trans u1).trans s6
          have epa := S _ _ ep7
          have tpu' : t' ≠ pu := fun z => by rw [z, (s79.trans u1) _ _ ep7] at nt'; cases nt'
          refine ⟨pu, _, _, rfl, rfl, epa, line_big (by rw [List.length_map]; omega), ?_⟩
          have k7 : Keep pu (upd Ja t' (.tup (nv ts))) (upd (upd Ja t' (.tup (nv ts))) pu (.lst (bs.map V.ref ++ [.ref t']))) := keep_upd
          refine ⟨fun b o hb => by rw [upd_ne (ne_of_none hb npu0)]; exact S _ _ (sm7 _ _ hb), _, _, _, _, _, as ++ [t], bs ++ [t'], ls ++ [ts], rfl, hLo, k7 _ _ fp (S _ _ ef7), tups_keep k7 epa (tups_same S hT7), ?_, ?_⟩
          · rw [upd_same, List.map_append]; rfl
          · rw [hfl2, if_pos w]
            exact tups_append (tups_keep k7 epa (tups_same S hP7)) (.cons (k7 _ _ tpu' upd_same) .nil)
        · refine fin0 _ _ ?_
          rw [hpl, decide_eq_false (fun z => c (decide_eq_true (by rw [nv_length]; omega))), Bool.false_and]
      · have hfl : i ∈ ls.flatten := hmin.mpr (by
          apply Classical.byContradiction
          intro z
          exact c (decide_eq_true (congrArg V.int (hmi.mpr z))))
        exact ⟨smj, _, _, _, _, _, as, bs, ls, rfl, .skip hR hfl, efj, hTj, epj, hPj⟩
    · obtain ⟨sm, y4, y5, y6, y7, y8, as, bs, ls, rfl, hR, ef, hT, ep, hP⟩ := hPv
      obtain ⟨hd, hne⟩ := lo_heads hf hR (Nat.le_refl _)
      have tx : ∀ {J' : Hp} {cs : List Addr} {ms : List (List Nat)}, Tups J' cs ms → (∀ t ∈ ms, t ≠ []) → ∀ x ∈ cs.map V.ref, ∃ ns, TupI K J' x ns ∧ ns ≠ [] := fun {J' cs ms} h hne x hx => by
        obtain ⟨c, hc, rfl⟩ := List.mem_map.mp hx
        obtain ⟨k, hk, ek⟩ := List.getElem_of_mem hc
        obtain ⟨l, hl, el⟩ := tups_get h (show cs[k]? = some c by rw [List.getElem?_eq_getElem hk, ek])
        refine ⟨l.map fun i : Nat => (i : Int), ⟨c, rfl, by rw [List.map_map]; exact .inl (.inl el)⟩, fun z => hne l (List.mem_of_getElem? hl) (List.map_eq_nil_iff.mp z)⟩
      have hneF : ∀ t ∈ ls.filter (pureB f n), t ≠ [] := fun t ht => (hne t (List.mem_filter.mp ht).1).1
      refine ⟨_, rfl, fo, _, rfl, .inl (.inl ef), tx hT fun t ht => (hne t ht).1, fun ys l1 hp1 hs1 nl1 => ?_⟩
      have e1 := sorted_sameX hT hd (fun t ht => (hne t ht).1) hp1 hs1
      subst e1
      have s1 : Same Hi (upd Hi l1 (.lst (as.map V.ref))) := same_new nl1
      have el1 : (upd Hi l1 (.lst (as.map V.ref))) l1 = some (.lst (as.map V.ref)) := upd_same
      have hPa := tups_same s1 hP
      refine ⟨_, rfl, pu, _, rfl, .inl (.inl (s1 _ _ ep)), tx hPa hneF, fun ys l2 hp2 hs2 nl2 => ?_⟩
      have e2 := sorted_sameX hPa (List.Pairwise.filter _ hd) hneF hp2 hs2
      subst e2
      have s2 := s1.trans (same_new (o := .lst (bs.map V.ref)) nl2)
      refine ⟨by show 2 ≤ sizeLine; decide, fun t nt => ?_⟩
      have s3 := same_new (o := .tup [V.ref l1, V.ref l2]) nt
      have S := s2.trans s3
      exact q _ t l1 l2 as bs ls hR (sm.trans S) upd_same (s3 _ _ (same_new nl2 _ _ el1)) (tups_same S hT) (s3 _ _ upd_same) (tups_same S hP)
end
end Pc
namespace Pc
open PySem PySem.Spec PyProof.Rows L2 RZ
section
variable {P : Program} {w : World} {K : PySem.W.Frag} {mg : Str → Option Value} {base : Heap}
/-! ### all sheets of words, by the law -/
def spLayers : Sp := fun vs H Q _ => ∃ n : Nat, vs = [.int n] ∧ n ∈ n24 ∧ ∀ (H' : Hp) (a : Addr), Same H H' → H a = none → H' a = some (.dT (dkI (TB n))) → Q (.ref a) H'
theorem ok_layers (T : Env K mg) : FnOk P w K mg base CX0 6 T.f_layers T.d_layers ["_law_crowd"] spLayers := by
  have GJ : FnOk P w K mg base CX0 1 T.f_joined_ends T.d_joined_ends ["_law_crowd", "_law_tape"] (spJEnds K) := ok_joined_ends T
  have GC : FnOk P w K mg base CX0 1 T.f_all_calls T.d_all_calls ["_law_crowd"] spCalls := ok_calls T
  have GW : FnOk P w K mg base CX0 5 T.f_p_with_call T.d_p_with_call ["sheet", "call"] (spWithCall K) := ok_p_with_call T
  refine T.F_layers.ok sc_layers (fun vs H Q E h => ?_) (fun cdv A outer s H vs Q E hr h => ?_)
  · obtain ⟨n, rfl, _⟩ := h
    rfl
  · obtain ⟨n, rfl, hn, q⟩ := h
    have h1 := hr.mono (show 1 ≤ 5 by decide)
    refine ⟨_, pss_cons (ps_set (i := 1) sc_layers.nd rfl (.inl rfl) (pe_call GC h1 (by rfl) T.g_all_calls T.F_all_calls.kp T.b_all_calls .nil pass0 (pa_cons (pv 0) pa_nil))) <|
      pss_cons (ps_par3 (i := 2) (j := 3) (l := 4) (by rfl) sc_layers.nd rfl rfl rfl (by decide) (by decide) (by decide) rfl rfl rfl (pa_cons (pe_dispT1 (units1L hr) (pe_call GJ h1 (by rfl) T.g_joined_ends T.F_joined_ends.kp T.b_joined_ends .nil pass0 (pa_cons (pv 0) (pa_cons (pe_lst pa_nil) pa_nil))) pe_int) (pa_cons (pe_lst (pa_cons (pe_call GJ h1 (by rfl) T.g_joined_ends T.F_joined_ends.kp T.b_joined_ends .nil pass0 (pa_cons (pv 0) (pa_cons (pe_lst pa_nil) pa_nil))) pa_nil)) (pa_cons pe_int pa_nil))) (by rfl)) <|
      pss_cons (ps_while PassesOwn.never (pt_cmpR (op_neNil hr.units) (pv 3) (pe_lst pa_nil) (nomark _)) (pss_cons (ps_par (i := 5) (j := 4) (by rfl) sc_layers.nd rfl rfl (by decide) rfl rfl (pa_cons (pe_lst pa_nil) (pa_cons (pe_op op_add (pv 4) pe_int) pa_nil)) (by rfl)) <|
      pss_cons (ps_for PassesOwn.never rfl (pi_list (pv 3)) (pg_name (i := 6) sc_layers.nd rfl (.inl rfl))
        (pss_one (ps_for PassesOwn.never rfl (pi_list (pv 1)) (pg_name (i := 7) sc_layers.nd rfl (.inl rfl))
        (pss_cons (ps_set (i := 8) sc_layers.nd rfl (.inl rfl) (pe_call GW hr (by rfl) T.g_p_with_call T.F_p_with_call.kp T.b_p_with_call .nil pass0 (pa_cons (pv 6) (pa_cons (pv 7) pa_nil)))) <|
      pss_one (ps_if (pt_cmp (pc_dnotin (units1L hr) (pv 8) (pv 2))) (pss_cons (ps_dput (units1L hr) (pv 2) (pv 8) (pv 4) (by rfl)) <|
      pss_one (ps_expr (pe_bm PySem.F.plainAttrs_list PySem.F.slot_list_append PySem.F.type_list_append mt_append (pv 5) (pa_cons (pv 8) pa_nil)))) pss_nil))))) <|
      pss_one (ps_set (i := 3) sc_layers.nd rfl (.inl rfl) (pv 5)))) <|
      pss_one (ps_ret (pv 2)), ?_⟩
    have hn4 : n ≤ 4 := by rcases List.mem_cons.mp hn with e | e; omega; rw [List.mem_singleton.mp e]; decide
    have hn2 : 2 ≤ n := by rcases List.mem_cons.mp hn with e | e; omega; rw [List.mem_singleton.mp e]; decide
    have hn0 : 0 < n := by omega
    -- the calls
    refine ⟨_, rfl, n, rfl, by omega, fun H0 aC cs s0 nC eC hC => ?_⟩
    refine st_set [some (.int (n : Nat)), some (.ref aC), none, none, none, none, none, none, none] ?_ rfl
    -- the empty sheet
    refine fun aF nF => ⟨_, rfl, by show 0 ≤ sizeLine; decide, fun l nl => ?_⟩
    have sF : Same H0 (upd H0 aF (.dT [])) := same_new nF
    have sl : Same (upd H0 aF (.dT [])) (upd (upd H0 aF (.dT [])) l (.lst [])) := same_new nl
    refine ⟨n, l, [], [], [], rfl, .inl (.inl upd_same), rfl, .nil, fun p h => absurd h List.not_mem_nil, hn2, by omega, fun H1 t s1 nt et => ?_⟩
    have et : H1 t = some (.tup (nv (emp n))) := et
    have eF1 : H1 aF = some (.dT []) := s1 _ _ (sl _ _ upd_same)
    have s01 : ∀ a o, H0 a = some o → H1 a = some o := fun a o h => s1 _ _ (sl _ _ (sF _ _ h))
    have tF : t ≠ aF := fun z => by rw [z, eF1] at et; cases et
    have nF0 : H aF = none := s0.free nF
    refine ⟨eF1, t, ky (emp n), rfl, by rw [ky_kV]; exact et, ?_⟩
    have eFF : upd H1 aF (.dT [(ky (emp n), V.int 0)]) aF = some (.dT (dkI (bfs n 0).1)) := upd_same
    have sF2 : Same H0 (upd H1 aF (.dT [(ky (emp n), V.int 0)])) := fun a o h => by
      rw [upd_ne (ne_of_none h nF)]; exact s01 _ _ h
    clear sF sl s1 nt nl et eF1 s01 tF
    revert eFF sF2
    generalize upd H1 aF (.dT [(ky (emp n), V.int 0)]) = H2
    intro eFF sF2
    refine ⟨_, rfl, by show 0 ≤ sizeLine; decide, fun l nl => ?_⟩
    have sl : Same H2 (upd H2 l (.lst [])) := same_new nl
    refine ⟨n, l, [], [], [], rfl, .inl (.inl upd_same), rfl, .nil, fun p h => absurd h List.not_mem_nil, hn2, by omega, fun H3 t s3 nt et => ?_⟩
    have et : H3 t = some (.tup (nv (emp n))) := et
    refine ⟨by show 1 ≤ sizeLine; decide, fun aL nL => ⟨_, _, _, rfl, ?_⟩⟩
    have sL : Same H3 (upd H3 aL (.lst [V.ref t])) := same_new nL
    have eL : (upd H3 aL (.lst [V.ref t])) aL = some (.lst ([t].map V.ref)) := upd_same
    have s23 := (sl.trans s3).trans sL
    have eF := s23 _ _ eFF
    have et3 := sL _ _ et
    have s03 := (s0.trans sF2).trans s23
    have eC3 := s23 _ _ (sF2 _ _ eC)
    have hC3 := prs_same s23 (prs_same sF2 hC)
    clear sF2 eFF nF et sL sl s3 nl nt nL s23 s0 nC eC hC
    revert eL eF et3 s03 eC3 hC3
    generalize upd H3 aL (.lst [V.ref t]) = H4
    intro eL eF et3 s03 eC hC
    refine st_eq (t := tSeq _ _) [some (.int (n : Nat)), some (.ref aC), some (.ref aF), some (.ref aL), some (.int 0), none, none, none, none] ?_ rfl
    -- the layers
    refine ⟨fun m σ J => ∃ (d : Nat) (aL : Addr) (us : List Addr) (y5 y6 y7 y8 : Option V), d ≤ dep n ∧ m = dep n - d ∧ σ = [some (.int (n : Nat)), some (.ref aC), some (.ref aF), some (.ref aL), some (.int (d : Nat)), y5, y6, y7, y8] ∧ Same H J ∧ J aF = some (.dT (dkI (bfs n d).1)) ∧ J aL = some (.lst (us.map V.ref)) ∧ Tups J us (bfs n d).2 ∧ J aC = some (.lst (cs.map V.ref)) ∧ Prs J cs (allC n n),
      ⟨dep n, 0, aL, [t], none, none, none, none, Nat.zero_le _, rfl, rfl, s03, eF, eL, .cons et3 .nil, eC, hC⟩, fun m σ J hW => ?_⟩
    clear s03 eF eL et3 eC hC
    obtain ⟨d, aL, us, y5, y6, y7, y8, hd, rfl, rfl, sJ, eF, eL, hL, eC, hC⟩ := hW
    have hB := bfs_ok hn0 d
    refine ⟨.ref aL, rfl, Nat.zero_le _, fun e ne => ⟨aL, e, us.map V.ref, rfl, rfl, .inl (.inl ?_), .inl (.inl upd_same), _, rfl, ite2 (fun c => ?_) (fun c => ?_)⟩⟩
    · rw [upd_ne (ne_of_none eL ne)]; exact eL
    · -- a layer more
      have hLne : (bfs n d).2 ≠ [] := fun z => by
        rw [z] at hL
        cases hL
        exact absurd c (by decide)
      have hlt : d < dep n := by
        rcases Nat.lt_or_ge d (dep n) with z | z
        · exact z
        · exact absurd (by rw [show d = dep n by omega]; exact bfs_end n hn) hLne
      have s2 : Same J (upd J e (.lst [])) := same_new ne
      replace sJ := sJ.trans s2
      replace eF := s2 _ _ eF
      replace eL := s2 _ _ eL
      replace hL := tups_same s2 hL
      replace eC := s2 _ _ eC
      replace hC := prs_same s2 hC
      clear c ne s2
      revert sJ eF eL hL eC hC
      generalize upd J e (.lst []) = J2
      intro sJ eF eL hL eC hC
      refine ⟨fun σ J => ∃ (aL : Addr) (us : List Addr) (y5 y6 y7 y8 : Option V), σ = [some (.int (n : Nat)), some (.ref aC), some (.ref aF), some (.ref aL), some (.int ((d + 1 : Nat) : Int)), y5, y6, y7, y8] ∧ Same H J ∧ J aF = some (.dT (dkI (bfs n (d + 1)).1)) ∧ J aL = some (.lst (us.map V.ref)) ∧ Tups J us (bfs n (d + 1)).2 ∧ J aC = some (.lst (cs.map V.ref)) ∧ Prs J cs (allC n n), fun σ' J' h => by
        obtain ⟨aL, us, y5, y6, y7, y8, h1, h2, h3, h4, h5, h6, h7⟩ := h
        exact ⟨dep n - (d + 1), by omega, d + 1, aL, us, y5, y6, y7, y8, by omega, rfl, h1, h2, h3, h4, h5, h6, h7⟩, ?_⟩
      refine ⟨by show 0 ≤ sizeLine; decide, fun aU nU => ?_⟩
      have sU : Same J2 (upd J2 aU (.lst [])) := same_new nU
      have S0 : Srch H (upd J2 aU (.lst [])) aF aL aU us [] (bfs n d).2 ((bfs n d).1, []) := ⟨sJ.trans sU, sU _ _ eF, sU _ _ eL, tups_same sU hL, upd_same, .nil, nF0, sJ.free nU, ne_of_none eL nU⟩
      have cU : aC ≠ aU := ne_of_none eC nU
      replace eC := sU _ _ eC
      replace hC := prs_same sU hC
      clear sJ eF eL hL sU
      revert S0 eC hC
      generalize upd J2 aU (.lst []) = J3
      intro S0 eC hC
      have cF : aC ≠ aF := fun z => by have := S0.eF; rw [← z, eC] at this; cases this
      refine ⟨_, rfl, _, _, rfl, rfl, _, _, rfl, ?_⟩
      refine st_eq (t := tSeq _ _) [some (.int (n : Nat)), some (.ref aC), some (.ref aF), some (.ref aL), some (.int ((d + 1 : Nat) : Int)), some (.ref aU), y6, y7, y8] ?_ rfl
      refine ⟨_, rfl, aL, rfl, ⟨_, .inl (.inl S0.eL)⟩, for_list (xs := us.map V.ref) (fun i σ J => ∃ (ws : List Addr) (y6 y7 y8 : Option V), σ = [some (.int (n : Nat)), some (.ref aC), some (.ref aF), some (.ref aL), some (.int ((d + 1 : Nat) : Int)), some (.ref aU), y6, y7, y8] ∧ Srch H J aF aL aU us ws (bfs n d).2 (((bfs n d).2.take i).foldl (hrB n d) ((bfs n d).1, [])) ∧ J aC = some (.lst (cs.map V.ref)) ∧ Prs J cs (allC n n)) ⟨[], y6, y7, y8, rfl, S0, eC, hC⟩ (fun i σ J _ h => by obtain ⟨_, _, _, _, _, h, _⟩ := h; exact .inl (.inl h.eL)) (fun i x σ J hx h => ?_) (fun σ J h => ?_)⟩
      · obtain ⟨ws, y6, y7, y8, rfl, S, eC, hC⟩ := h
        clear S0
        rw [List.getElem?_map] at hx
        obtain ⟨u, eu, rfl⟩ := Option.map_eq_some_iff.mp hx
        obtain ⟨f, ef, _⟩ := tups_get S.hL eu
        have hfp : IsPair (2 * n) f := hB.pair f (List.mem_of_getElem? ef)
        refine st_set [some (.int (n : Nat)), some (.ref aC), some (.ref aF), some (.ref aL), some (.int ((d + 1 : Nat) : Int)), some (.ref aU), some (.ref u), y7, y8] ?_ rfl
        refine ⟨_, rfl, aC, rfl, ⟨_, .inl (.inl eC)⟩, for_list (xs := cs.map V.ref) (fun j σ J => ∃ (ws : List Addr) (y7 y8 : Option V), σ = [some (.int (n : Nat)), some (.ref aC), some (.ref aF), some (.ref aL), some (.int ((d + 1 : Nat) : Int)), some (.ref aU), some (.ref u), y7, y8] ∧ J aC = some (.lst (cs.map V.ref)) ∧ Prs J cs (allC n n) ∧
          Srch H J aF aL aU us ws (bfs n d).2 (((allC n n).take j).foldl (stB n d f) (((bfs n d).2.take i).foldl (hrB n d) ((bfs n d).1, [])))) ⟨ws, y7, y8, rfl, eC, hC, S⟩ (fun j σ J _ h => by obtain ⟨_, _, _, _, h, _⟩ := h; exact .inl (.inl h)) (fun j x σ J hx h => ?_) (fun σ J h => ?_)⟩
        · obtain ⟨ws, y7, y8, rfl, eC, hC, S⟩ := h
          rw [List.getElem?_map] at hx
          obtain ⟨c, ec, rfl⟩ := Option.map_eq_some_iff.mp hx
          obtain ⟨p, ep, hp⟩ := prs_get hC ec
          have hpm := allC_calls n n p (List.mem_of_getElem? ep)
          obtain ⟨f', ef', hu⟩ := tups_get S.hL eu
          rw [ef] at ef'
          cases ef'
          have hlen : (((allC n n).take j).foldl (stB n d f) (((bfs n d).2.take i).foldl (hrB n d) ((bfs n d).1, []))).1.length ≤ 82 := Nat.le_trans (mid_len ef) (bfs_len n hn (d + 1) hlt)
          have hB2 : BOk n d (bfs n d).2 (((allC n n).take j).foldl (stB n d f) (((bfs n d).2.take i).foldl (hrB n d) ((bfs n d).1, []))) := BOk.calls hfp (fun r hr => allC_calls n n r (List.mem_of_mem_take hr)) (BOk.lay (fun g hg => hB.pair g (List.mem_of_mem_take hg)) hB)
          have hnx : ((allC n n).take (j + 1)).foldl (stB n d f) (((bfs n d).2.take i).foldl (hrB n d) ((bfs n d).1, [])) = stB n d f (((allC n n).take j).foldl (stB n d f) (((bfs n d).2.take i).foldl (hrB n d) ((bfs n d).1, []))) p := fold_snoc ep
          rw [hnx]
          clear hnx
          revert hlen hB2 S
          generalize ((allC n n).take j).foldl (stB n d f) (((bfs n d).2.take i).foldl (hrB n d) ((bfs n d).1, [])) = ss
          intro S hlen hB2
          obtain ⟨TT, MM⟩ := ss
          refine st_set [some (.int (n : Nat)), some (.ref aC), some (.ref aF), some (.ref aL), some (.int ((d + 1 : Nat) : Int)), some (.ref aU), some (.ref u), some (.ref c), y8] ?_ rfl
          refine ⟨_, rfl, _, rfl, u, c, f, p.1, p.2, n, rfl, .inr (.inl (.inl hu)), hfp, .inr (.inl (.inl hp)), hpm.1, hpm.2, by omega, fun J6 tt s6 ntt ett => ?_⟩
          replace S := S.same s6
          replace eC := s6 _ _ eC
          replace hC := prs_same s6 hC
          clear s6 hp ntt
          refine st_set [some (.int (n : Nat)), some (.ref aC), some (.ref aF), some (.ref aL), some (.int ((d + 1 : Nat) : Int)), some (.ref aU), some (.ref u), some (.ref c), some (.ref tt)] ?_ rfl
          have ek : J6 tt = some (.tup ((ky (jn f (n + p.1) (n + p.2))).map kV)) := by rw [ky_kV]; exact ett
          refine ⟨_, rfl, _, rfl, aF, _, rfl, DGet.t S.eF ek, _, rfl, ?_⟩
          unfold stB
          show if (!(valV (dkI TT) (ky (jn f (n + p.1) (n + p.2)))).isSome) = true then _ else _
          by_cases hk : hasK TT (jn f (n + p.1) (n + p.2)) = true
          · obtain ⟨k, hk'⟩ := hasK_iff.mp hk
            rw [val_dkI hB2.nd hk', if_pos hk]
            exact iteX rfl ⟨ws, _, _, rfl, eC, hC, S⟩
          · have hk' : hasK TT (jn f (n + p.1) (n + p.2)) = false := Bool.eq_false_iff.mpr hk
            rw [val_dkI_no hk', if_neg hk]
            refine iteY rfl ?_
            refine ⟨_, rfl, _, rfl, _, rfl, aF, _, rfl, DPut.t S.eF ek (Nat.lt_of_le_of_lt (Nat.le_of_eq (List.length_map _)) (small1000 (by show TT.length ≤ 1000; have : TT.length ≤ 82 := hlen; omega))), ?_⟩
            rw [put_dkI hk']
            have fu : aU ≠ aF := fun e => by have := S.eF; rw [← e, S.eU] at this; cases this
            have hwl : ws.length ≤ 82 := by have h1 := hB2.ln; rw [S.hU.length]; exact Nat.le_trans h1 hlen
            have eU2 : upd J6 aF (.dT (dkI (TT ++ [(jn f (n + p.1) (n + p.2), d + 1)]))) aU = some (.lst (ws.map V.ref)) := by rw [upd_ne fu]; exact S.eU
            refine ⟨_, rfl, .inl ⟨rfl, _, .inl (.inl eU2)⟩, _, rfl, aU, ws.map V.ref, _, rfl, rfl, eU2, small1000 (by rw [List.length_map]; omega), ?_⟩
            have S7 := S.add (k := d + 1) ett
            refine ⟨ws ++ [tt], _, _, rfl, ?_, prs_mv (fun a vs h => ?_) hC, S7⟩
            · rw [upd_ne cU, upd_ne cF]; exact eC
            · rw [upd_ne (fun z => by rw [z, S.eU] at h; cases h), upd_ne (fun z => by rw [z, S.eF] at h; cases h)]; exact h
        · obtain ⟨ws, y7, y8, rfl, eC, hC, S⟩ := h
          rw [List.length_map, hC.length, List.take_length] at S
          exact ⟨ws, _, _, _, rfl, by rw [fold_snoc ef]; exact S, eC, hC⟩
      · obtain ⟨ws, y6, y7, y8, rfl, S, eC, hC⟩ := h
        rw [List.length_map, S.hL.length, List.take_length] at S
        refine ⟨_, rfl, ?_⟩
        refine st_set [some (.int (n : Nat)), some (.ref aC), some (.ref aF), some (.ref aU), some (.int ((d + 1 : Nat) : Int)), some (.ref aU), y6, y7, y8] ?_ rfl
        exact ⟨aU, ws, _, _, _, _, rfl, S.sm, S.eF, S.eU, S.hU, eC, hC⟩
    · -- the end
      have hLe : (bfs n d).2 = [] := by
        have : us = [] := by
          cases us with
          | nil => rfl
          | cons a r => exact absurd rfl c
        rw [this] at hL
        cases hL' : (bfs n d).2 with
        | nil => rfl
        | cons a r => rw [hL'] at hL; cases hL
      have hde : d = dep n := by
        rcases Nat.lt_or_ge d (dep n) with z | z
        · exact absurd hLe (bfs_go n hn d z)
        · omega
      subst hde
      have s2 : Same J (upd J e (.lst [])) := same_new ne
      exact ⟨_, rfl, q _ aF (sJ.trans s2) nF0 (s2 _ _ eF)⟩
end
end Pc
namespace Pc
open PySem PySem.Spec PyProof.Rows L2 RZ
section
variable {P : Program} {w : World} {K : PySem.W.Frag} {mg : Str → Option Value} {base : Heap}
/-! ### sheets without a word, by the law -/
def spIsN80 : Sp := fun vs H Q _ => ∃ (a : Addr) (f : List Nat) (n : Nat), vs = [.ref a] ∧ H a = some (.tup (nv f)) ∧ IsPair (2 * n) f ∧ 0 < n ∧ n ≤ 50 ∧ hasW f n = false ∧ ∀ H', Same H H' → Q (.bl true) H'
theorem ok_is_none (T : Env K mg) : FnOk P w K mg base CX0 6 T.f_is_none T.d_is_none ["_law_page"] spIsN80 := by

  have GX : FnOk P w K mg base (L2.CX P w) 5 T.f_p_fewest_calls T.d_p_fewest_calls ["sheet"] (spFewX K T.C_NoWord) := okx_p_fewest_calls T
  have GY : FnOk P w K mg base (L2.CX P w) 5 T.f_p_word_for T.d_p_word_for ["sheet"] (spFewX K T.C_NoWord) := okx_p_word_for T
  refine T.F_is_none.ok sc_is_none (fun vs H Q E h => ?_) (fun cdv A outer s H vs Q E hr h => ?_)
  · obtain ⟨a, f, n, rfl, _⟩ := h
    rfl
  · obtain ⟨a, f, n, rfl, ha, hf, h0, hn, hw, q⟩ := h
    have h5 := hr.mono (show 5 ≤ 5 by decide)
    refine ⟨_, pss_cons (ps_set (i := 1) sc_is_none.nd rfl (.inl rfl) (pe_lst pa_nil)) <|
      pss_cons (ps_for PassesOwn.never rfl (pi_range1 (by rfl) T.n_range (pa_cons pe_int pa_nil)) (pg_name (i := 2) sc_is_none.nd rfl (.inl rfl))
        (pss_cons (ps_set (i := 3) sc_is_none.nd rfl (.inl rfl) pe_non) <|
      pss_cons (ps_try_kept (i := 4) (cs := [.ref T.C_NoNumber, .ref T.C_NoWord]) rfl rfl rfl sc_is_none.nd rfl rfl (.cons ⟨_, _, rfl, by rfl, by decide, .inl T.gC_NoNumber⟩ (.cons ⟨_, _, rfl, by rfl, by decide, .inl T.gC_NoWord⟩ .nil)) (by show 2 ≤ 1000; decide)
        (fun W pn xe tk _ => pss_one (ps_if (pt_cmpR op_eq (pv 2) pe_int (nomark _)) (pss_one (ps_expr (pe_callS GX h5 (by rfl) T.g_p_fewest_calls T.F_p_fewest_calls.kp T.b_p_fewest_calls (fun σ => passAt tk σ) (pa_cons (pv 0) pa_nil)))) (pss_one (ps_expr (pe_callS GY h5 (by rfl) T.g_p_word_for T.F_p_word_for.kp T.b_p_word_for (fun σ => passAt tk σ) (pa_cons (pv 0) pa_nil))))))
        (fun a oe pn => pss_one (ps_set (i := 3) sc_is_none.nd rfl (.inl rfl) (pv 4)))) <|
      pss_one (ps_expr (pe_bm PySem.F.plainAttrs_list PySem.F.slot_list_append PySem.F.type_list_append mt_append (pv 1) (pa_cons (pe_and (pe_callB call_isk (by rfl) T.n_isinstance (by decide +kernel) (pa_cons (pv 3) (pa_cons (pe_glob (v := .ref T.C_NoWord) (by rfl) T.gC_NoWord rfl) pa_nil))) (pe_one (pe_callB call_isk (by rfl) T.n_isinstance (by decide +kernel) (pa_cons (pv 3) (pa_cons (pe_bltn (v := .ty "ValueError") (by rfl) T.n_ValueError (by decide +kernel) rfl) pa_nil))))) pa_nil))))) <|
      pss_one (ps_ret (pe_cmpR (op_eqD hr.units) (pv 1) (pe_lst (pa_cons pe_bl (pa_cons pe_bl pa_nil))) (nomark _))), ?_⟩
    refine ⟨by show 0 ≤ sizeLine; decide, fun F nF => ?_⟩
    have sF : Same H (upd H F (.lst [])) := same_new nF
    refine st_set [some (.ref a), some (.ref F), none, none, none] ?_ rfl
    refine ⟨2, rfl, by decide, by decide, ?_⟩
    refine for_range (n := 2) (fun i σ J => Same H J ∧ J F = some (.lst (List.replicate i (.bl true))) ∧ ∃ (y2 y3 : Option V), σ = [some (.ref a), some (.ref F), y2, y3, none]) ⟨sF, upd_same, none, none, rfl⟩ (fun i σ J hi h => ?_) (fun σ J h => ?_)
    · obtain ⟨sm, eF, y2, y3, rfl⟩ := h
      refine st_set [some (.ref a), some (.ref F), some (.int ((0 : Int) + (i : Nat))), y3, none] ?_ rfl
      refine st_set [some (.ref a), some (.ref F), some (.int ((0 : Int) + (i : Nat))), some .non, none] ?_ rfl
      refine ⟨_, rfl, rfl, _, rfl, ite2 (fun c => ?_) (fun c => ?_)⟩
      all_goals
        refine ⟨_, rfl, a, f, n, rfl, .inr (.inl (.inl (sm _ _ ha))), hf, h0, hn, hw, kept0 (hits_of [false, true] rfl (.cons T.ex_NoWord_NoNumber (.cons T.ee_NoWord .nil))) fun J2 z s2 nx => ⟨_, rfl, ?_⟩⟩
        have hK : Kept (upd J2 z (exk z (.ref T.C_NoWord) none)) z T.C_NoWord none := .mk0
        have s3 : Same J (upd J2 z (exk z (.ref T.C_NoWord) none)) := s2.trans (same_new nx)
        refine st_set [some (.ref a), some (.ref F), some (.int ((0 : Int) + (i : Nat))), some (.ref z), some (.ref z)] ?_ rfl
        refine st_kept0 [some (.ref a), some (.ref F), some (.int ((0 : Int) + (i : Nat))), some (.ref z), none] ?_ rfl
        have eF3 := s3 _ _ eF
        refine ⟨_, rfl, .inl ⟨rfl, _, .inl (.inl eF3)⟩, ?_⟩
        refine ⟨_, rfl, z, _, _, _, _, _, rfl, hK, T.kpt_NoWord, .own _, T.kk_NoWord, _, rfl, iteY rfl ?_⟩
        refine ⟨_, rfl, z, _, _, _, _, _, rfl, hK, T.kpt_NoWord, .ty _, T.kb_NoWord_ValueError, ?_⟩
        refine ⟨F, _, _, rfl, rfl, eF3, small1000 (by rw [List.length_replicate]; omega), fun b o hb => ?_, ?_, _, _, rfl⟩
        · rw [upd_ne (ne_of_none hb nF)]; exact s3 _ _ (sm _ _ hb)
        · rw [upd_same, List.replicate_succ']
    · obtain ⟨sm, eF, y2, y3, rfl⟩ := h
      refine ⟨_, rfl, by show 2 ≤ sizeLine; decide, fun l nl => ?_⟩
      have sl : Same J (upd J l (.lst [.bl true, .bl true])) := same_new nl
      have fb : Fi 1 (.list (([true, true] : List Bool).map PyData.bool)) := fi_bls (by decide)
      refine ⟨_, _, .lst (.inl (.inl (sl _ _ eF))) (dp_bls [true, true]), .lst (.inl (.inl upd_same)) (dp_bls [true, true]), fb.sh, fb.sh, ?_⟩
      rw [fi_eq fb]
      exact q _ (sm.trans sl)
end
end Pc
namespace Pc
open PySem PySem.Spec PyProof.Rows L2 RZ
theorem flat_nat' (l : List Nat) : (nv l).all flatV = true := by
  unfold nv
  rw [List.all_map, List.all_eq_true]
  exact fun x _ => rfl
/-- the first place of a number -/
def idx : List Nat → Nat → Nat
  | [], _ => 0
  | x :: r, y => if x = y then 0 else idx r y + 1
theorem idx_get : ∀ {l : List Nat} {y : Nat}, y ∈ l → l[idx l y]? = some y
  | [], _, h => by simp at h
  | x :: r, y, h => by
    unfold idx
    by_cases e : x = y
    · rw [if_pos e, e]; rfl
    · rw [if_neg e]
      exact idx_get ((List.mem_cons.mp h).resolve_left (fun z => e z.symm))
theorem idx_none : ∀ {l : List Nat} {y m : Nat}, m < idx l y → l[m]? ≠ some y
  | [], _, _, h => absurd h (Nat.not_lt_zero _)
  | x :: r, y, m, h => by
    unfold idx at h
    by_cases e : x = y
    · rw [if_pos e] at h; exact absurd h (Nat.not_lt_zero _)
    · rw [if_neg e] at h
      cases m with
      | zero => exact fun z => e (Option.some.inj z)
      | succ m => exact idx_none (l := r) (by omega)
/-- strands in a drawn order -/
def wst (n : Nat) (os : List Nat) : List Nat := os.map (fun x => n + x) ++ (List.range n).map (idx os)
theorem wst_pair {n : Nat} {os : List Nat} (hn : 0 < n) (hp : os.Perm (List.range n)) : IsPair (2 * n) (wst n os) := by
  have hl : os.length = n := by rw [hp.length_eq, List.length_range]
  have hnd : os.Nodup := hp.nodup_iff.mpr List.nodup_range
  have lo : ∀ {x y : Nat}, os[x]? = some y → (wst n os)[x]? = some (n + y) := fun {x y} h => by
    have := get_lt h
    unfold wst
    rw [List.getElem?_append_left (by rw [List.length_map]; omega), List.getElem?_map, h]; rfl
  have hi : ∀ {y : Nat}, y < n → (wst n os)[n + y]? = some (idx os y) := fun {y} h => by
    unfold wst
    rw [List.getElem?_append_right (by rw [List.length_map]; omega), List.length_map, hl, Nat.add_sub_cancel_left, List.getElem?_map, List.getElem?_range h]; rfl
  have mem : ∀ {y : Nat}, y < n → y ∈ os := fun h => hp.mem_iff.mpr (List.mem_range.mpr h)
  refine ⟨by unfold wst; rw [List.length_append, List.length_map, List.length_map, List.length_range]; omega, fun x hx => ?_⟩
  by_cases c : x < n
  · obtain ⟨y, hy⟩ := get_some (l := os) (i := x) (by omega)
    have hyn : y < n := List.mem_range.mp (hp.mem_iff.mp (List.mem_of_getElem? hy))
    refine ⟨n + y, lo hy, by omega, by omega, ?_⟩
    rw [hi hyn, nd_ix hnd (idx_get (mem hyn)) hy]
  · have h1 := hi (y := x - n) (by omega)
    rw [show n + (x - n) = x by omega] at h1
    have h2 := idx_get (mem (show x - n < n by omega))
    have h3 := get_lt h2
    refine ⟨idx os (x - n), h1, by omega, by omega, ?_⟩
    rw [lo h2, show n + (x - n) = x by omega]
end Pc
namespace Pc
open PySem PySem.Spec PyProof.Rows L2 RZ
/-! ### one call more, plain sheets -/
theorem near_le {n x y : Nat} {f : List Nat} (hf : IsPair (2 * n) f) (hn : 0 < n) (hx : x < n) (hy : y < n) (h : x ≠ y) : fwC n (jn f (n + x) (n + y)) ≤ fwC n f + 1 := by
  by_cases c : f.getD (n + x) 0 = n + y
  · rw [jn_same (hf.ofd (by omega) c)]; omega
  · have C := jn_cald hf (show n + x ≠ n + y by omega) (by omega) (by omega) c
    have := call_fewest hf (jn_pair hf (show n + x ≠ n + y by omega) (by omega) (by omega)) hn (by omega) (by omega) C
    unfold fwC
    omega
theorem los_of_hi {f : List Nat} {n x : Nat} (hf : IsPair (2 * n) f) (hx : x < n) (h : n ≤ f.getD (n + x) 0) : los f n ≠ [] := by
  obtain ⟨a1, a2, a3, _⟩ := hf.d (show n + x < 2 * n by omega)
  intro e
  rcases Nat.lt_trichotomy x (f.getD (n + x) 0 - n) with c | c | c
  · have := los_in hf hx (show f.getD (n + x) 0 = n + (f.getD (n + x) 0 - n) by omega) c
    rw [e] at this; cases this
  · omega
  · have := los_in hf (x := f.getD (n + x) 0 - n) (y := x) (by omega) (by rw [show n + (f.getD (n + x) 0 - n) = f.getD (n + x) 0 by omega]; exact a3) c
    rw [e] at this; cases this
theorem plain_los {f : List Nat} {n : Nat} (hf : IsPair (2 * n) f) : ((List.range n).all fun x => decide (f.getD (n + x) 0 < n)) = (los f n).isEmpty := by
  rw [Bool.eq_iff_iff, List.all_eq_true, List.isEmpty_iff]
  constructor
  · intro h
    cases e : los f n with
    | nil => rfl
    | cons p l =>
      obtain ⟨a, b, c⟩ := los_mem hf (show p ∈ los f n by rw [e]; exact List.mem_cons_self)
      have := of_decide_eq_true (h p.1 (List.mem_range.mpr (by omega)))
      rw [getD_of a] at this; omega
  · intro h x hx
    refine decide_eq_true (Nat.lt_of_not_le fun c => ?_)
    exact los_of_hi hf (List.mem_range.mp hx) c h
theorem hasW_near {n x y : Nat} {f : List Nat} (hf : IsPair (2 * n) f) (hx : x < n) (hy : y < n) (h : x ≠ y) : hasW (jn f (n + x) (n + y)) n = true := by
  have hp := jn_pair hf (show n + x ≠ n + y by omega) (show n + x < 2 * n by omega) (show n + y < 2 * n by omega)
  have g : (jn f (n + x) (n + y)).getD (n + x) 0 = n + y := by
    by_cases c : f.getD (n + x) 0 = n + y
    · rw [jn_same (hf.ofd (by omega) c), c]
    · rw [jn_getD hf (show n + x ≠ n + y by omega) (by omega) (by omega) c (by omega), if_pos rfl]
  have l := los_of_hi hp hx (by rw [g]; omega)
  unfold hasW
  cases e : los (jn f (n + x) (n + y)) n with
  | nil => exact absurd e l
  | cons p r => rfl
theorem loop_bounds {f : List Nat} {n : Nat} {ls : List (List Nat)} (hn : n ≤ 50) (h : Lo f n n ls) : Fi 2 (.list (ls.map td)) ∧ ∀ p, Fi 2 (.list ((ls.filter p).map td)) :=
  ⟨fi_tups (lo_bound (by omega) h), fun p => fi_tups (lo_boundF (by omega) h)⟩
end Pc
namespace Pc
open PySem PySem.Spec PyProof.Rows L2 RZ
/-! ### ways that come together; a step of a comprehension (of snip_ends39, alone) -/
theorem tups_nextT {H1 H' H2 : Hp} {D t : Addr} {us : List Addr} {QS : List (List Nat)} {i : Nat} {l : List Nat} (nD : H1 D = none) (sm : Same H1 H') (eD : H' D = some (.lst (us.map V.ref))) (hU : Tups H' us (QS.take i)) (hk : QS[i]? = some l) (hb : QS.length ≤ 100000)
    (s2 : Same H' H2) (et : H2 t = some (.tup (nv l))) : ∃ acc, H2 D = some (.lst acc) ∧ acc.length < sizeLine ∧
      (Same H1 (upd H2 D (.lst (acc ++ [.ref t]))) ∧ ∃ us' : List Addr, (upd H2 D (.lst (acc ++ [.ref t]))) D = some (.lst (us'.map V.ref)) ∧ Tups (upd H2 D (.lst (acc ++ [.ref t]))) us' (QS.take (i + 1))) := by
  have eD2 := s2 _ _ eD
  have tD : t ≠ D := fun z => by rw [z, eD2] at et; cases et
  refine ⟨_, eD2, ?_, fun b' o hb' => ?_, us ++ [t], ?_, ?_⟩
  · rw [List.length_map, hU.length]; exact line_big (Nat.le_trans (List.length_take_le' _ _) hb)
  · rw [upd_ne (ne_of_none hb' nD)]; exact s2 _ _ (sm _ _ hb')
  · rw [upd_same, List.map_append]; rfl
  · rw [List.take_add_one, hk]
    exact tups_append (tups_keep (b := D) keep_upd eD2 (tups_same s2 hU)) (.cons (by rw [upd_ne tD]; exact et) .nil)
theorem tjoinR {t v : TS} {D : L2.Ends} {σ : L2.St} {H : Hp} (J : L2.St → Hp → Prop) (h : ∀ N : L2.St → Hp → Prop, (∀ σ' H', J σ' H' → N σ' H') → t { D with nx := N } σ H) (k : ∀ σ' H', J σ' H' → v D σ' H') : tSeq t v D σ H := h (v D) k
end Pc
namespace Pc
open PySem PySem.Spec PyProof.Rows L2 RZ
section
variable {P : Program} {w : World} {K : PySem.W.Frag} {mg : Str → Option Value} {base : Heap}
/-! ### a sheet, by the law -/
def spPageR : Sp := fun vs H Q _ => ∃ (b a : Addr) (k n : Nat) (f : List Nat), vs = [.ref b, .ref a] ∧ Box (k + n) H b ∧ H a = some (.tup (nv f)) ∧ IsPair (2 * n) f ∧ 2 ≤ n ∧ n ≤ 20 ∧
  ∀ H', Keep b H H' → Box k H' b → Q (.bl true) H'
theorem ok_page_right (T : Env K mg) : FnOk P w K mg base CX0 7 T.f_page_right T.d_page_right ["_law_source", "_law_page"] spPageR := by
  have GF : FnOk P w K mg base CX0 5 T.f_p_fewest_calls T.d_p_fewest_calls ["sheet"] (spFewest K) := ok_p_fewest_calls T
  have GJ : FnOk P w K mg base CX0 1 T.f_joined_ends T.d_joined_ends ["_law_crowd", "_law_tape"] (spJEnds K) := ok_joined_ends T
  have GS : FnOk P w K mg base CX0 4 T.f_same T.d_same ["_law_found", "_law_due"] (spSame K 4) := ok_same T 4
  have GL : FnOk P w K mg base CX0 1 T.f_loops T.d_loops ["_law_page"] spLoops80 := ok_loops T
  have Gl : FnOk P w K mg base CX0 3 T.f_p_loops T.d_p_loops ["sheet"] (spLoops K) := ok_p_loops T
  have Gp : FnOk P w K mg base CX0 4 T.f_p_pure_loops T.d_p_pure_loops ["sheet"] (spPureL K) := ok_p_pure_loops T
  have GN : FnOk P w K mg base CX0 6 T.f_is_none T.d_is_none ["_law_page"] spIsN80 := ok_is_none T
  have GW : FnOk P w K mg base CX0 5 T.f_p_word_for T.d_p_word_for ["sheet"] (spWordFor K) := ok_p_word_for T
  have GC : FnOk P w K mg base CX0 5 T.f_p_with_call T.d_p_with_call ["sheet", "call"] (spWithCall K) := ok_p_with_call T
  have Gc : FnOk P w K mg base CX0 3 T.f_random_call T.d_random_call ["_law_source", "_law_some"] (spCallOf K) := ok_call_of T
  refine T.F_page_right.ok sc_page_right (fun vs H Q E h => ?_) (fun cdv A outer s H vs Q E hr h => ?_)
  · obtain ⟨b, a, k, n, f, rfl, _⟩ := h
    rfl
  · obtain ⟨b, a, k, n, f, rfl, hB, ha, hf, h2, hn, q⟩ := h
    have h1 := hr.mono (show 1 ≤ 6 by decide)
    have h3 := hr.mono (show 3 ≤ 6 by decide)
    have h4 := hr.mono (show 4 ≤ 6 by decide)
    have h5 := hr.mono (show 5 ≤ 6 by decide)
    refine ⟨_, pss_cons (ps_set (i := 2) sc_page_right.nd rfl (.inr rfl) (pe_op op_fdiv (pe_callB call_len_seq (by rfl) T.n_len PySem.boot_len (pa_cons (pv 1) pa_nil)) pe_int)) <|
      pss_cons (ps_asg (pe_call GL h1 (by rfl) T.g_loops T.F_loops.kp T.b_loops .nil pass0 (pa_cons (pv 1) pa_nil)) (pg_tup rfl (pgs_cons (pg_name (i := 3) sc_page_right.nd rfl (.inl rfl)) (pgs_cons (pg_name (i := 4) sc_page_right.nd rfl (.inl rfl)) pgs_nil)))) <|
      pss_cons (ps_if (pt_not (pt_val (pe_call GS h4 (by rfl) T.g_same T.F_same.kp T.b_same .nil pass0 (pa_cons (pe_lst (pa_cons (pe_call Gl h3 (by rfl) T.g_p_loops T.F_p_loops.kp T.b_p_loops .nil pass0 (pa_cons (pv 1) pa_nil)) (pa_cons (pe_call Gp h4 (by rfl) T.g_p_pure_loops T.F_p_pure_loops.kp T.b_p_pure_loops .nil pass0 (pa_cons (pv 1) pa_nil)) pa_nil))) (pa_cons (pe_lst (pa_cons (pv 3) (pa_cons (pv 4) pa_nil))) pa_nil))))) (pss_one (ps_ret pe_bl)) pss_nil) <|
      pss_cons (ps_set (i := 5) sc_page_right.nd rfl (.inl rfl) (pe_callB (cr_all rfl) (by rfl) T.n_all (by decide +kernel) (pa_cons (pe_lc (own := [("_law_end", 9)]) (g := gName 9) (tt := tYes) (te := tOp (rI0 fun i j => .bl (decide (i < j))) (tOp (rIxT K) (tVar 1) (tVar 9)) (tVar 2)) rfl sc_page_right.nd (pi_range2 (by rfl) T.n_range (pa_cons (pv 2) (pa_cons (pe_op op_mul pe_int (pv 2)) pa_nil))) (blkOk_by (N := N_page_right) (sc := (defScope s_page_right)) (by decide +kernel)) (fun _ _ _ _ _ => (pg_name (i := 9) sc_page_right.nd rfl (.inl rfl))) (fun _ _ _ _ _ => pts_nil) (fun _ _ _ _ _ => pe_cmpR op_lt (pe_ix ix_tup (pv 1) (pv 9) (fun _ _ => rfl)) (pv 2) (nomark _))) pa_nil))) <|
      pss_cons (ps_if (PW.pt (pw_and (pt_val (pv 5)) (pw_and1 (pt_cmpR (op_neD hr.units) (pv 1) (pe_call GJ h1 (by rfl) T.g_joined_ends T.F_joined_ends.kp T.b_joined_ends .nil pass0 (pa_cons (pv 2) (pa_cons (pe_lst pa_nil) pa_nil))) (nomark _))))) (pss_one (ps_ret (pe_call GN hr (by rfl) T.g_is_none T.F_is_none.kp T.b_is_none .nil pass0 (pa_cons (pv 1) pa_nil)))) pss_nil) <|
      pss_cons (ps_set (i := 6) sc_page_right.nd rfl (.inl rfl) (pe_op op_add (pe_op op_sub (pv 2) (pe_callB call_len_seq (by rfl) T.n_len PySem.boot_len (pa_cons (pv 3) pa_nil))) (pe_op op_mul pe_int (pe_callB call_len_seq (by rfl) T.n_len PySem.boot_len (pa_cons (pv 4) pa_nil))))) <|
      pss_cons (ps_set (i := 7) sc_page_right.nd rfl (.inl rfl) (pe_call GW h5 (by rfl) T.g_p_word_for T.F_p_word_for.kp T.b_p_word_for .nil pass0 (pa_cons (pv 1) pa_nil))) <|
      pss_cons (ps_if (PW.pt (pw_or (pt_not (pt_val (pe_call GS h4 (by rfl) T.g_same T.F_same.kp T.b_same .nil pass0 (pa_cons (pe_call GF h5 (by rfl) T.g_p_fewest_calls T.F_p_fewest_calls.kp T.b_p_fewest_calls .nil pass0 (pa_cons (pv 1) pa_nil)) (pa_cons (pv 6) pa_nil))))) (pw_or (pt_cmpR op_ne (pe_callB call_len_seq (by rfl) T.n_len PySem.boot_len (pa_cons (pv 7) pa_nil)) (pv 6) (nomark _)) (pw_or1 (pt_cmpR (op_neD hr.units) (pe_call GJ h1 (by rfl) T.g_joined_ends T.F_joined_ends.kp T.b_joined_ends .nil pass0 (pa_cons (pv 2) (pa_cons (pv 7) pa_nil))) (pv 1) (nomark _)))))) (pss_one (ps_ret pe_bl)) pss_nil) <|
      pss_cons (ps_set (i := 8) sc_page_right.nd rfl (.inl rfl) (pe_call GC h5 (by rfl) T.g_p_with_call T.F_p_with_call.kp T.b_p_with_call .nil pass0 (pa_cons (pv 1) (pa_cons (pe_call Gc h3 (by rfl) T.g_random_call T.F_random_call.kp T.b_random_call .nil pass0 (pa_cons (pv 0) (pa_cons (pe_listRg rfl (by rfl) T.n_list (prg_1 (by rfl) T.n_range (pv 2))) pa_nil))) pa_nil)))) <|
      pss_one (ps_ret (pe_cmpR op_le (pe_call GF h5 (by rfl) T.g_p_fewest_calls T.F_p_fewest_calls.kp T.b_p_fewest_calls .nil pass0 (pa_cons (pv 8) pa_nil)) (pe_op op_add (pv 6) pe_int) (nomark _))), ?_⟩
    have h0 : 0 < n := by omega
    have hla : ((nv f).length : Int) / 2 = (n : Nat) := by rw [nv_length, hf.len]; omega
    have ab : a ≠ b := fun z => by obtain ⟨y, hy⟩ := hB.lst; rw [z, hy] at ha; cases ha
    refine ⟨_, rfl, a, _, rfl, .inr (.inl (.inl ha)), _, 2, rfl, rfl, ⟨by decide, by decide⟩, ?_⟩
    rw [show (fun i j => V.int (i / j)) ((nv f).length : Int) 2 = V.int (n : Int) from congrArg V.int hla]
    refine st_set [some (.ref b), some (.ref a), some (.int (n : Nat)), none, none, none, none, none, none, none] ?_ rfl
    -- its loops
    refine ⟨_, rfl, a, f, n, rfl, ha, hf, h0, by omega, fun H1 t l1 l2 as bs ls hL s1 et e1 hT1 e2 hT2 => ?_⟩
    refine ⟨t, _, rfl, .inl (.inl et), rfl, _, _, rfl, _, _, rfl, rfl, ?_⟩
    obtain ⟨fb1, fb2⟩ := loop_bounds (by omega) hL
    have hll := hL.bound
    have hsq : ∀ {J : Hp}, Same H1 J → Sq K J a (nv f) := fun s => .inr (.inl (.inl (s _ _ (s1 _ _ ha))))
    refine st_at [some (.ref b), some (.ref a), some (.int (n : Nat)), some (.ref l1), some (.ref l2), none, none, none, none, none] rfl ?_
    refine tjoinR (t := tIfS _ _ _) (fun σ' J => Same H1 J ∧ σ' = [some (.ref b), some (.ref a), some (.int (n : Nat)), some (.ref l1), some (.ref l2), none, none, none, none, none]) (fun Nx hNx => ?_) (fun σ' J1 h => ?_)
    · refine ⟨_, rfl, a, f, n, rfl, hsq (fun _ _ h => h), hf, by omega, fun J2 t2 as2 ls2 hL2 s2 n2 e2' hA2 => ?_⟩
      obtain rfl := hL.det hL2
      refine ⟨_, rfl, a, f, n, rfl, hsq s2, hf, by omega, fun J3 t3 as3 ls3 hL3 s3 n3 e3 hA3 => ?_⟩
      obtain rfl := hL.det hL3
      refine ⟨by show 2 ≤ sizeLine; decide, fun L1 nL1 => ⟨_, rfl, _, rfl, by show 2 ≤ sizeLine; decide, fun L2 nL2 => ?_⟩⟩
      have S1 := same_new (o := .lst [V.ref t2, V.ref t3]) nL1
      have S2 := same_new (o := .lst [V.ref l1, V.ref l2]) nL2
      have S3 := s3.trans (S1.trans S2)
      have S := s2.trans S3
      have fk : Fi 3 (.list [.list (ls.map td), .list ((ls.filter (pureB f n)).map td)]) := fi_list (j := 2) (n := 2) (fa_cons fb1 (fa_cons (fb2 _) fa_nil)) rfl (by decide)
      refine ⟨_, _, _, rfl, .lst (.inl (.inl (S2 _ _ upd_same))) (.cons (.lst (.inl (.inl (S3 _ _ e2'))) (tups_dp (tups_same S3 hA2))) (.cons (.lst (.inl (.inl ((S1.trans S2) _ _ e3))) (tups_dp (tups_same (S1.trans S2) hA3))) .nil)),
        .lst (.inl (.inl upd_same)) (.cons (.lst (.inl (.inl (S _ _ e1))) (tups_dp (tups_same S hT1))) (.cons (.lst (.inl (.inl (S _ _ e2))) (tups_dp (tups_same S hT2))) .nil)), Nat.lt_succ_of_le fk.depth, fk.nar, fun J4 s4 => ⟨true, rfl, iteN (hNx _ _ ⟨S.trans s4, rfl⟩)⟩⟩
    obtain ⟨s2, rfl⟩ := h
    have s12 := s1.trans s2
    replace ha := s12 _ _ ha
    replace hB := hB.same s12
    have kH : Keep b H J1 := Keep.of_same s12
    have e1' := s2 _ _ e1
    have e2' := s2 _ _ e2
    have hal1 : (as.map V.ref).length = ls.length := by rw [List.length_map, hT1.length]
    have hal2 : (bs.map V.ref).length = (ls.filter (pureB f n)).length := by rw [List.length_map, hT2.length]
    clear s1 s2 s12 et e1 e2 hT1 hT2 hsq
    -- plain or not
    refine ⟨_, rfl, _, rfl, 2, _, rfl, rfl, .inl ⟨by decide, by decide⟩, _, _, rfl, ⟨by omega, by omega, by omega, by omega⟩, fun D nD => ?_⟩
    rw [show ((2 * (n : Int)) - (n : Int)).toNat = n by omega]
    refine lc_range (n := n) (fun i J => Same J1 J ∧ J D = some (.lst ((((List.range n).map fun x => decide (f.getD (n + x) 0 < n)).take i).map V.bl))) ⟨same_new nD, upd_same⟩ (fun i J hi h => ?_) (fun J2 h => ?_)
    · obtain ⟨sm, eD⟩ := h
      have a5 : atI (nv f) ((n : Int) + (i : Nat)) = some (.int ((f.getD (n + i) 0 : Nat) : Int)) := by rw [show (n : Int) + (i : Nat) = ((n + i : Nat) : Int) by omega]; exact nv_at (hf.d (show n + i < 2 * n by omega)).2.2.2
      refine ⟨rfl, yes_if ⟨_, rfl, _, rfl, a, _, _, _, rfl, rfl, .inl (.inl (sm _ _ ha)), a5, _, rfl, _, _, rfl, rfl, ?_⟩⟩
      rw [show (fun i j : Int => V.bl (decide (i < j))) ((f.getD (n + i) 0 : Nat) : Int) (n : Int) = V.bl (decide (f.getD (n + i) 0 < n)) from congrArg V.bl (decide_eq_decide.mpr (by omega))]
      exact bls_next nD sm eD (by rw [List.getElem?_map, List.getElem?_range hi]; rfl) (by rw [List.length_map, List.length_range]; omega) (fun _ _ h => h)
    obtain ⟨s2, eD⟩ := h
    rw [show ((List.range n).map fun x => decide (f.getD (n + x) 0 < n)).take n = (List.range n).map fun x => decide (f.getD (n + x) 0 < n) from List.take_of_length_le (by rw [List.length_map, List.length_range]; exact Nat.le_refl _)] at eD
    refine ⟨D, _, rfl, .inl (.inl eD), ?_⟩
    rw [List.all_map, show (id ∘ fun x : Nat => decide (f.getD (n + x) 0 < n)) = fun x => decide (f.getD (n + x) 0 < n) from rfl, plain_los hf]
    replace ha := s2 _ _ ha
    replace hB := hB.same s2
    replace kH := kH.trans (Keep.of_same s2)
    replace e1' := s2 _ _ e1'
    replace e2' := s2 _ _ e2'
    clear s2 eD nD
    refine st_set [some (.ref b), some (.ref a), some (.int (n : Nat)), some (.ref l1), some (.ref l2), some (.bl (los f n).isEmpty), none, none, none, none] ?_ rfl
    refine st_at _ rfl ?_
    have ff : Fi 1 (td f) := fi_tup hf (by omega)
    have fe : Fi 1 (td (emp n)) := fi_tup (emp_pair h0) (by omega)
    refine tjoinR (t := tIfS _ _ _) (fun σ' J => hasW f n = true ∧ Same J2 J ∧ σ' = [some (.ref b), some (.ref a), some (.int (n : Nat)), some (.ref l1), some (.ref l2), some (.bl (los f n).isEmpty), none, none, none, none]) (fun Nx hNx => ?_) (fun σ' J3 h => ?_)
    · refine ⟨_, rfl, _, rfl, ite2 (fun c => ?_) (fun c => hNx _ _ ⟨by unfold hasW; rw [Bool.eq_false_iff.mpr c]; rfl, fun _ _ h => h, rfl⟩)⟩
      have c : (los f n).isEmpty = true := c
      refine ⟨_, rfl, _, rfl, by show 0 ≤ sizeLine; decide, fun l nl => ?_⟩
      have sl : Same J2 (upd J2 l (.lst [])) := same_new nl
      refine ⟨n, l, [], [], [], rfl, .inl (.inl upd_same), rfl, .nil, fun p h => absurd h List.not_mem_nil, h2, by omega, fun J3 t3 s3 nt3 et3 => ?_⟩
      have et3 : J3 t3 = some (.tup (nv (emp n))) := et3
      have S := sl.trans s3
      refine ⟨_, _, .tup (.inl (.inl (S _ _ ha))) (dp_nats _), .tup (.inl (.inl et3)) (dp_nats _), ff.sh, fe.sh, _, rfl, ?_⟩
      rw [show PyData.eqv (.tuple (nd f)) (.tuple (nd (emp n))) = decide (f = emp n) from eqv_td f (emp n)]
      refine ite2 (fun c2 => ?_) (fun c2 => ?_)
      · have hne : ¬ f = emp n := fun z => by rw [decide_eq_true z] at c2; exact absurd c2 (by decide)
        have hw : hasW f n = false := by unfold hasW; rw [c, decide_eq_false hne]; rfl
        refine ⟨_, rfl, a, f, n, rfl, S _ _ ha, hf, h0, by omega, hw, fun J4 s4 => ?_⟩
        exact q _ (kH.trans (Keep.of_same (S.trans s4))) ((hB.same (S.trans s4)).mono (by omega))
      · have he : f = emp n := by
          apply Classical.byContradiction
          intro z
          exact c2 (by rw [decide_eq_false z]; rfl)
        exact hNx _ _ ⟨by unfold hasW; rw [decide_eq_true he, Bool.or_true], S, rfl⟩
    obtain ⟨hw, s3, rfl⟩ := h
    replace ha := s3 _ _ ha
    replace hB := hB.same s3
    replace kH := kH.trans (Keep.of_same s3)
    replace e1' := s3 _ _ e1'
    replace e2' := s3 _ _ e2'
    clear s3
    -- what is due
    refine ⟨_, rfl, _, rfl, l1, _, rfl, .inl (.inl (.inl e1')), _, _, rfl, rfl, _, rfl, l2, _, rfl, .inl (.inl (.inl e2')), 2, _, rfl, rfl, .inl ⟨by decide, by decide⟩, _, _, rfl, rfl, ?_⟩
    have hdue : ((n : Int) - ((as.map V.ref).length : Int) + 2 * ((bs.map V.ref).length : Int)) = fwC n f := by rw [hal1, hal2]; exact fw_val hf hL
    rw [show (fun i j : Int => V.int (i + j)) ((n : Int) - ((as.map V.ref).length : Int)) ((fun i j : Int => i * j) 2 ((bs.map V.ref).length : Int)) = V.int (fwC n f) from congrArg V.int hdue]
    refine st_set [some (.ref b), some (.ref a), some (.int (n : Nat)), some (.ref l1), some (.ref l2), some (.bl (los f n).isEmpty), some (.int (fwC n f)), none, none, none] ?_ rfl
    have hsq : ∀ {J : Hp}, Same J3 J → Sq K J a (nv f) := fun s => .inr (.inl (.inl (s _ _ ha)))
    refine ⟨_, rfl, a, f, n, rfl, hsq (fun _ _ h => h), hf, h0, by omega, hw, fun J4 tw cs qs hc hsh hct s4 ntw etw hPw => ?_⟩
    have hql : ((qs.length : Nat) : Int) = fwC n f := by unfold fwC; omega
    refine st_set [some (.ref b), some (.ref a), some (.int (n : Nat)), some (.ref l1), some (.ref l2), some (.bl (los f n).isEmpty), some (.int (fwC n f)), some (.ref tw), none, none] ?_ rfl
    refine ⟨_, rfl, a, f, n, rfl, hsq s4, hf, h0, by omega, hw, fun J5 ls5 hL5 s5 => ?_⟩
    rw [fw_val hf hL5]
    refine ⟨_, rfl, _, _, .int (fwC n f), rfl, .int _, .int _, by show 0 < 4; decide, trivial, fun J6 s6 => ⟨true, rfl, iteN ?_⟩⟩
    have s46 := s5.trans s6
    refine ⟨_, rfl, tw, _, rfl, .inl (.inl (.inl (s46 _ _ etw))), _, rfl, rfl, _, rfl, iteX (fi_same (congrArg V.int (by rw [List.length_map, hPw.length]; exact hql))) ?_⟩
    refine ⟨_, rfl, _, rfl, n, tw, _, cs, qs, rfl, .inl (.inl (s46 _ _ etw)), rfl, prs_same s46 hPw, hc, h2, by omega, fun J7 t7 s7 nt7 et7 => ?_⟩
    rw [hsh] at et7
    have s47 := s4.trans (s46.trans s7)
    refine ⟨_, rfl, _, _, .tup (.inl (.inl et7)) (dp_nats _), .tup (.inl (.inl (s47 _ _ ha))) (dp_nats _), ff.sh, ff.sh, _, rfl, iteX (fi_ne ff) ?_⟩
    -- one call more
    refine ⟨_, rfl, _, rfl, _, rfl, _, rfl, RgOk.of_le (by decide) (by omega) (by decide) (by omega), fun l nl => ?_⟩
    rw [rg_nv]
    have sl := same_new (o := .lst (nv (List.range n))) nl
    have S8 := s47.trans sl
    refine ⟨b, l, k, n, List.range n, rfl, (hB.same S8).mono (by rw [List.length_range]; omega), .inl (.inl upd_same), List.nodup_range, by rw [List.length_range]; omega, by rw [List.length_range]; omega, fun x hx => List.mem_range.mp hx, fun J9 tc x y hxy hy ntc etc k9 hB9 => ?_⟩
    have ha9 := k9 _ _ ab (S8 _ _ ha)
    have k09 : Keep b H J9 := (kH.trans (Keep.of_same S8)).trans k9
    refine ⟨a, tc, f, x, y, n, rfl, .inr (.inl (.inl ha9)), hf, .inr (.inl (.inl etc)), hxy, hy, by omega, fun Ja tn sa ntn etn => ?_⟩
    refine st_set [some (.ref b), some (.ref a), some (.int (n : Nat)), some (.ref l1), some (.ref l2), some (.bl (los f n).isEmpty), some (.int (fwC n f)), some (.ref tw), some (.ref tn), none] ?_ rfl
    have hnp := jn_pair hf (show n + x ≠ n + y by omega) (show n + x < 2 * n by omega) (show n + y < 2 * n by omega)
    refine ⟨_, rfl, tn, _, n, rfl, .inr (.inl (.inl etn)), hnp, h0, by omega, hasW_near hf (by omega) hy (by omega), fun Jb lsb hLb sb => ?_⟩
    rw [fw_val hnp hLb]
    refine ⟨_, rfl, _, _, rfl, rfl, _, _, rfl, rfl, ?_⟩
    rw [show (fun i j : Int => V.bl (decide (i ≤ j))) (fwC n (jn f (n + x) (n + y))) (fwC n f + 1) = V.bl true from congrArg V.bl (decide_eq_true (near_le hf h0 (by omega) hy (by omega)))]
    exact q _ (k09.trans (Keep.of_same (sa.trans sb))) (hB9.same (sa.trans sb))
end
end Pc
/-! ### sorted(d): d a dict whose keys are tuples of ints of one length -/
namespace SrtO
open PySem PySem.Spec PyProof.Rows
section
variable {prog : Program} {w : World} {A : Around} {E : Value → Shared → Prop} {s : Shared}
theorem collect_src {T : String} {r d0 : Addr} {m : Nat} {Pv : Nat → Value → Prop} {OK : Heap → Prop} {R : List Value → Shared → Prop} (Ks : PySem.W.KdlSrc prog w T r d0 m Pv OK) (nh : A.handled = none) (ok : OK s.heap) (hm : m ≤ sizeLine)
    (h : ∀ (h1 : Heap) (tk : Nat) (acc : Array Value), (∀ b o, s.heap.get? b = some o → h1.get? b = some o) → s.heap.objs.size < h1.objs.size → ItemsOf Pv acc m → R acc.toList { s with heap := h1, toks := tk }) : wpAny (model prog w) A (collect (.ref r)) R E s := by
  obtain ⟨q1, q2⟩ := Ks.there _ ok
  unfold collect
  refine wpAny_bind ?_
  refine wpAny_runValue ?_
  refine codeAny_builtin entry_proto_collect' ?_
  rw [Around.under_plainId (id := "proto.collect") PySem.F.plain_proto_collect _]
  show wpAny (model prog w) A.in1 (newList [] >>= fun l => again (Code.builtin "list.__iadd__" ⟨[l, Value.ref r], []⟩)) _ _ _
  refine wpAny_bind ?_
  refine wpAny_newObj_type ?_
  refine wpAny_pure ⟨plainId_quiet (id := "list.__iadd__") PySem.F.plain_list_iadd _, ?_⟩
  refine codeAny_builtin entry_list_iadd' ?_
  rw [Around.under_plainId (id := "list.__iadd__") PySem.F.plain_list_iadd _]
  obtain ⟨hp0, e0⟩ : ∃ z, z = s.heap.push { cls := .type "list", data := .seq ([] : List Value).toArray } := ⟨_, rfl⟩
  have at0 : hp0.get? s.heap.objs.size = some { cls := .type "list", data := .seq #[] } := by rw [e0]; exact Heap.get?_push_size _ rfl
  have kp0 : ∀ b o, s.heap.get? b = some o → hp0.get? b = some o := fun b o e => by rw [e0]; exact Heap.get?_push_of_some _ e
  show wpAny (model prog w) A.in1 (Builtin.List.listExtendWith (.ref s.heap.objs.size) (.ref r) (.ref s.heap.objs.size)) _ _ { s with heap := s.heap.push { cls := .type "list", data := .seq ([] : List Value).toArray } }
  rw [← e0]
  obtain ⟨J, hJ⟩ : ∃ J : Result → Shared → Prop, J = fun x s1 => ∃ (h1 : Heap) (tk : Nat) (acc : Array Value) (c : Nat), x = .ok (.ret (.ref s.heap.objs.size)) ∧ s1 = { s with heap := h1, toks := tk } ∧ (∀ b o, s.heap.get? b = some o → h1.get? b = some o) ∧
    h1.get? s.heap.objs.size = some { cls := .type "list", dict := none, data := .seq acc c, slots := #[] } ∧ ItemsOf Pv acc m := ⟨_, rfl⟩
  have main := PySem.W.kdl_extend (A := A) (s := { s with heap := hp0 }) (R := J) Ks nh (Ks.keep _ _ ok fun b _ o e => kp0 b o e) s.heap.objs.size (Nat.ne_of_gt q1) (Nat.ne_of_gt q2) (.ref s.heap.objs.size) 0 at0
    (fun h1 tk acc c kp at1 it => by rw [hJ]; exact ⟨h1, tk, acc, c, rfl, rfl, fun b o e => kp b o (Nat.ne_of_lt (Heap.lt_size e)) (kp0 b o e), at1, it⟩) hm
  refine wpAny_mono main (fun fin s1 x => ?_) fun v s1 x => ?_
  · cases fin with
    | done f =>
      have x : J (.ok f) s1 := x
      rw [hJ] at x
      obtain ⟨h1, tk, acc, c, ef, rfl, kp, at1, it⟩ := x
      cases ef
      refine wpAny_bind ?_
      refine wpAny_load at1 ?_
      exact wpAny_pure (h h1 tk acc kp (Heap.lt_size at1) it)
    | again c1 =>
      refine ⟨x.1, codeAny_mono x.2 fun z s2 y => ?_⟩
      rw [hJ] at y
      obtain ⟨h1, tk, acc, c, rfl, rfl, kp, at1, it⟩ := y
      refine wpAny_bind ?_
      refine wpAny_load at1 ?_
      exact wpAny_pure (h h1 tk acc kp (Heap.lt_size at1) it)
  · rw [hJ] at x
    obtain ⟨_, _, _, _, e, _⟩ := x
    cases e
theorem sorted_src {T : String} {r d0 : Addr} {m : Nat} {Pv : Nat → Value → Prop} {OK : Heap → Prop} {lv : Value → Value → Bool} {Q : Value → Shared → Prop} (O : Swo lv) (Ks : PySem.W.KdlSrc prog w T r d0 m Pv OK) (nh : A.handled = none) (ok : OK s.heap) (hm : m ≤ sizeLine)
    (h : ∀ (h1 : Heap) (tk : Nat) (acc : Array Value), (∀ b o, s.heap.get? b = some o → h1.get? b = some o) → ItemsOf Pv acc m →
      (2 ≤ acc.toList.length → ∀ h2 : Heap, h2.get? h1.objs.size = some (seqObj "list" acc.toList.toArray 0) → (∀ b o, s.heap.get? b = some o → h2.get? b = some o) → SortableO prog w A.in1.in1 { s with heap := h2, toks := tk } h1.objs.size acc.toList lv) ∧
      ∀ (h3 : Heap) (out : List Value), Srtd lv out → out.Perm acc.toList → s.heap.objs.size ≤ h1.objs.size → (∀ b o, s.heap.get? b = some o → h3.get? b = some o) → (∃ n, h3.get? h1.objs.size = some (seqObj "list" out.toArray n)) → Q (.ref h1.objs.size) { s with heap := h3, toks := tk }) :
    wpAny (model prog w) A (call (.builtin "sorted") [.ref r]) Q E s := by
  refine Calls.call_function_entry kind_sorted plain_sorted entry_sorted (args_sorted1 _) ?_
  unfold Builtin.«sorted»
  have nh1 : A.in1.handled = none := by simp [nh]
  refine wpAny_bind ?_
  refine wpAny_pure ?_
  refine wpAny_bind (collect_src (A := A.in1) Ks nh1 ok hm fun h1 tk acc kp hlt it => ?_)
  obtain ⟨g1, g2⟩ := h h1 tk acc kp it
  have hal : acc.toList.length ≤ sizeLine := by rw [Array.length_toList, it.1]; exact hm
  refine wpAny_bind (wpAny_newList (s := { s with heap := h1, toks := tk }) ?_ hal)
  have top : (h1.push (seqObj "list" acc.toList.toArray 0)).get? h1.objs.size = some (seqObj "list" acc.toList.toArray 0) := Heap.get?_push_size _ rfl
  have old : ∀ b o, s.heap.get? b = some o → (h1.push (seqObj "list" acc.toList.toArray 0)).get? b = some o := fun b o e => Heap.get?_push_of_some _ (kp b o e)
  have hle : s.heap.objs.size ≤ h1.objs.size := Nat.le_of_lt hlt
  refine wpAny_bind (wpAny_holding (wpAny_call_entry slot_list_sort ⟨_, top, rfl⟩ entry_list_sort (list_sort_ord O top hal (fun two => g1 two _ top old) fun out so st => ⟨_, rfl, ?_⟩) (args_list_sort _)))
  refine wpAny_pure ⟨_, rfl, g2 _ out so st.perm hle (fun b o e => ?_) ?_⟩
  · have hb : b < s.heap.objs.size := Heap.lt_size e
    exact (sortedHeap_old (Nat.ne_of_lt (Nat.lt_of_lt_of_le hb hle)) (Heap.lt_size (old b o e))).trans (old b o e)
  · exact sortedHeap_at (n := 0) top
end
end SrtO
namespace L2
open PySem PySem.Spec PyProof.Rows
def rSortTD (K : PySem.W.Frag) : List V → Hp → VK → Prop := fun vs H Q => ∃ (a : Addr) (kvs : List (List Key × V)) (d : Nat) (B : Int), vs = [V.ref a] ∧ H a = some (.dT kvs) ∧ 1 ≤ d ∧ (∀ p ∈ kvs, ∃ ns : List Int, p.1 = ns.map Sum.inl ∧ ns.length = d ∧ TS.Bd B ns) ∧
  ∀ bs : List Addr, IsKeys H kvs bs → ∀ (ys : List V) (p : Addr), ys.Perm (bs.map V.ref) → ys.Pairwise (fun x y => ∀ n m, TupI K H x n → TupI K H y m → TS.code B n ≤ TS.code B m) → H p = none → Q (.ref p) (upd H p (.lst ys))
theorem isKeys_at {H : Hp} : ∀ {kvs : List (List Key × V)} {bs : List Addr}, IsKeys H kvs bs → ∀ b ∈ bs, ∃ p ∈ kvs, H b = some (.tup (p.1.map kV))
  | [], _, .nil => fun b hb => absurd hb List.not_mem_nil
  | p :: kvs, c :: bs, .cons h t => fun b hb => by
    rcases List.mem_cons.mp hb with e | hb
    · rw [e]; exact ⟨p, List.mem_cons_self, h⟩
    · obtain ⟨q, hq, e⟩ := isKeys_at t b hb
      exact ⟨q, List.mem_cons_of_mem _ hq, e⟩
theorem keys_ints (ns : List Int) : (ns.map (Sum.inl : Int → Key)).map kV = ns.map V.int := by rw [List.map_map]; rfl
/-- sorted(d): the keys in ascending order, in a new list -/
theorem cr_sortTD {X : Cx} (hc : X.calm = true) : CallR X (.builtin "sorted") (rSortTD X.K) := by
  intro pins s σ H vs us Q I r h
  obtain ⟨a, kvs, d, B, rfl, ea, hd, hx, q⟩ := h
  obtain ⟨u, rfl, ru⟩ := r.one
  cases ru
  obtain ⟨hz, hs, ks, pr, o, es, ep, ho, ho2, hdt, he, hn⟩ := (show ObjOk X.prog X.w H s.heap a (.dT kvs) from I.hok a _ ea)
  have z1 : es.size = ks.length := size_of_entries he
  have z2 : kvs.length = ks.length := Paired.length pr
  obtain ⟨bs, hbs⟩ : ∃ bs : List Addr, bs = ks.map fun x => x.2.1 := ⟨_, rfl⟩
  have hk : IsKeys H kvs bs := by rw [hbs]; exact isKeys_of pr
  refine SrtO.sorted_src (SrtO.swo_code fun v => TS.code B (TS.intsOf s.heap v)) (kdl_raw hs ho2 hdt) (I.ok.hd hc) ho (by omega) fun h1 tk acc kp it => ?_
  have len : acc.toList.length = bs.length := by rw [Array.length_toList, it.1, hbs, List.length_map, z1]
  have eq : acc.toList = bs.map Value.ref := by
    refine List.ext_getElem? fun j => ?_
    rw [List.getElem?_map]
    cases hj : acc.toList[j]? with
    | none => rw [List.getElem?_eq_none (by rw [← len]; exact List.getElem?_eq_none_iff.mp hj)]; rfl
    | some v =>
      obtain ⟨en, h2, rfl⟩ := it.2 j v (by rw [← Array.getElem?_toList]; exact hj)
      have h3 := entry_at he j
      rw [h2] at h3
      rw [hbs, List.getElem?_map]
      cases hb : ks[j]? with
      | none => rw [hb] at h3; cases (show some en = none from h3)
      | some b => rw [hb] at h3; cases Option.some.inj (show some en = some _ from h3); rfl
  have raw : ∀ v ∈ acc.toList, ∃ b ns, v = Value.ref b ∧ SqT X.K H b (ns.map V.int) ∧ ns.length = d ∧ TS.Bd B ns := fun v hv => by
    rw [eq] at hv
    obtain ⟨b, hb, rfl⟩ := List.mem_map.mp hv
    obtain ⟨p, hp, e⟩ := isKeys_at hk b hb
    obtain ⟨ns, en, hl, hbd⟩ := hx p hp
    rw [en, keys_ints] at e
    exact ⟨b, ns, rfl, .inl (.inl e), hl, hbd⟩
  have tup : ∀ v ∈ acc.toList, TS.TupInts s.heap v (TS.intsOf s.heap v) ∧ (TS.intsOf s.heap v).length = d ∧ TS.Bd B (TS.intsOf s.heap v) := fun v hv => by
    obtain ⟨b, ns, rfl, e, hl, hbd⟩ := raw v hv
    have k := tupI_raw I e
    rw [k.ints]
    exact ⟨k, hl, hbd⟩
  refine ⟨fun two h2 top old => ?_, fun h3 out so pm hle old ex => ?_⟩
  · refine SrtO.tups_sortableO (s := { s with heap := h2, toks := tk }) hd (by omega) (fun v hv => ⟨(tup v hv).1.keeps fun b o e _ => old b o e, (tup v hv).2⟩) fun o e => ?_
    have e' : some o = some (seqObj "list" acc.toList.toArray 0) := e.symm.trans top
    cases e'
    exact fun c => absurd (Value.type.inj c) (by decide)
  · have rf : ∀ v ∈ out, ∃ b, v = Value.ref b := fun v hv => by
      obtain ⟨b, _, e, _⟩ := raw v (pm.mem_iff.mp hv)
      exact ⟨b, e⟩
    have pv : (out.map bkV).Perm (bs.map V.ref) := by
      have := pm.map bkV
      rw [eq, List.map_map] at this
      exact this
    obtain ⟨n, hn3⟩ := ex
    have hlen : (out.map bkV).length ≤ sizeLine := by rw [List.length_map, pm.length_eq, len, hbs, List.length_map]; omega
    refine ⟨.ref h1.objs.size, upd H h1.objs.size (.lst (out.map bkV)), I.laid (t' := tk) old hle ⟨hlen, out, n, bkV_vals rf, hn3⟩, rfl, q bs hk _ _ pv ?_ (I.hok.fresh hle)⟩
    rw [List.pairwise_map]
    refine List.Pairwise.imp (fun {u v} huv n m hn hm => ?_) so
    obtain ⟨t, et, ht⟩ := hn
    obtain ⟨t2, et2, ht2⟩ := hm
    have i1 : TS.intsOf s.heap u = n := by rw [bkV_ref et]; exact (tupI_raw I ht).ints
    have i2 : TS.intsOf s.heap v = m := by rw [bkV_ref et2]; exact (tupI_raw I ht2).ints
    have := of_decide_eq_false huv
    rw [i1, i2] at this
    omega
end L2
namespace Pc
open PySem PySem.Spec PyProof.Rows L2 RZ
def zs8 (l : List Nat) : List Int := l.map fun i : Nat => (i : Int)
theorem isKeys_len {H : Hp} : ∀ {kvs : List (List Key × V)} {bs : List Addr}, IsKeys H kvs bs → bs.length = kvs.length
  | _, _, .nil => rfl
  | _, _, .cons _ t => congrArg (· + 1) (isKeys_len t)
end Pc
namespace Pc
open PySem PySem.Spec PyProof.Rows L2 RZ
section
variable {P : Program} {w : World} {K : PySem.W.Frag} {mg : Str → Option Value} {base : Heap}
/-! ### fewest calls of sheets -/
def spRight : Sp := fun vs H Q _ => ∃ (b : Addr) (n : Nat), vs = [.ref b] ∧ Box (n + 4000) H b ∧ ∀ H', Keep b H H' → Box n H' b → Q (.bl true) H'
theorem four24 : (4 : Nat) ∈ n24 := by decide
theorem TB4_len : (TB 4).length ≤ 82 := by rw [TB_len.2]; exact Nat.le_refl _
theorem TB_pick {K : PySem.W.Frag} {H : Hp} {N : Nat} {bs : List Addr} {ys : List V} {i : Nat} {v : V} (hk : IsKeys H (dkI (TB N)) bs) (hp : ys.Perm (bs.map V.ref)) (hv : ys[i]? = some v) : ∃ t x, v = .ref t ∧ x ∈ TB N ∧ H t = some (.tup (nv x.1)) := by
  have hm := hp.mem_iff.mp (List.mem_of_getElem? hv)
  obtain ⟨b, hb, rfl⟩ := List.mem_map.mp hm
  obtain ⟨p, hp', e⟩ := isKeys_at hk b hb
  obtain ⟨x, hx, rfl⟩ := List.mem_map.mp hp'
  exact ⟨b, x, rfl, hx, by rw [e, ky_kV]⟩
theorem ok_right (T : Env K mg) : FnOk P w K mg base CX0 8 T.f_right T.d_right ["_law_source"] spRight := by
  have GT : FnOk P w K mg base CX0 1 T.f_draw T.d_draw ["_law_source", "_law_bound"] spTake := ok_take T
  have GL : FnOk P w K mg base CX0 6 T.f_layers T.d_layers ["_law_crowd"] spLayers := ok_layers T
  have GP : FnOk P w K mg base CX0 2 T.f_pick T.d_pick ["_law_source", "_law_some"] (spOf K) := ok_of T
  have GF : FnOk P w K mg base CX0 5 T.f_p_fewest_calls T.d_p_fewest_calls ["sheet"] (spFewest K) := ok_p_fewest_calls T
  have GS : FnOk P w K mg base CX0 4 T.f_same T.d_same ["_law_found", "_law_due"] (spSame K 4) := ok_same T 4
  have GR : FnOk P w K mg base CX0 7 T.f_page_right T.d_page_right ["_law_source", "_law_page"] spPageR := ok_page_right T
  have Gw : FnOk P w K mg base CX0 4 T.f_random_word T.d_random_word ["_law_source", "_law_crowd", "_law_most"] spSomeCalls := ok_some_calls T
  have GJ : FnOk P w K mg base CX0 1 T.f_joined_ends T.d_joined_ends ["_law_crowd", "_law_tape"] (spJEnds K) := ok_joined_ends T
  have GD : FnOk P w K mg base CX0 3 T.f_random_pairing T.d_random_pairing ["_law_source", "_law_crowd"] spRandom := ok_random T
  have Gs : FnOk P w K mg base CX0 2 T.f_shuffled T.d_shuffled ["_law_source", "_law_some"] (spStrewn K) := ok_strewn T
  refine T.F_right.ok sc_right (fun vs H Q E h => ?_) (fun cdv A outer s H vs Q E hr h => ?_)
  · obtain ⟨b, n, rfl, _⟩ := h
    rfl
  · obtain ⟨b, n, rfl, hB, q⟩ := h
    have h1 := hr.mono (show 1 ≤ 7 by decide)
    have h2 := hr.mono (show 2 ≤ 7 by decide)
    have h3 := hr.mono (show 3 ≤ 7 by decide)
    have h4 := hr.mono (show 4 ≤ 7 by decide)
    have h5 := hr.mono (show 5 ≤ 7 by decide)
    have h6 := hr.mono (show 6 ≤ 7 by decide)
    have h7 := hr.mono (show 7 ≤ 7 by decide)
    refine ⟨_, pss_cons (ps_set (i := 1) sc_right.nd rfl (.inl rfl) (pe_call GL h6 (by rfl) T.g_layers T.F_layers.kp T.b_layers .nil pass0 (pa_cons pe_int pa_nil))) <|
      pss_cons (ps_for PassesOwn.never rfl (pi_range1 (by rfl) T.n_range (pa_cons pe_int pa_nil)) (pg_name (i := 2) sc_right.nd rfl (.inl rfl))
        (pss_cons (ps_set (i := 3) sc_right.nd rfl (.inl rfl) (pe_call GP h2 (by rfl) T.g_pick T.F_pick.kp T.b_pick .nil pass0 (pa_cons (pv 0) (pa_cons (pe_callB (cr_sortTD rfl) (by rfl) T.n_sorted (by decide +kernel) (pa_cons (pv 1) pa_nil)) pa_nil)))) <|
      pss_one (ps_if (PW.pt (pw_or (pt_not (pt_val (pe_call GS h4 (by rfl) T.g_same T.F_same.kp T.b_same .nil pass0 (pa_cons (pe_call GF h5 (by rfl) T.g_p_fewest_calls T.F_p_fewest_calls.kp T.b_p_fewest_calls .nil pass0 (pa_cons (pv 3) pa_nil)) (pa_cons (pe_dget (units1L hr) (pv 1) (pv 3) (fun _ _ => rfl)) pa_nil))))) (pw_or1 (pt_not (pt_val (pe_call GR h7 (by rfl) T.g_page_right T.F_page_right.kp T.b_page_right .nil pass0 (pa_cons (pv 0) (pa_cons (pv 3) pa_nil)))))))) (pss_one (ps_ret pe_bl)) pss_nil))) <|
      pss_cons (ps_for PassesOwn.never rfl (pi_range1 (by rfl) T.n_range (pa_cons pe_int pa_nil)) (pg_name (i := 2) sc_right.nd rfl (.inl rfl))
        (pss_cons (ps_set (i := 4) sc_right.nd rfl (.inl rfl) (pe_op op_add pe_int (pe_op op_mul pe_int (pe_call GT h1 (by rfl) T.g_draw T.F_draw.kp T.b_draw .nil pass0 (pa_cons (pv 0) (pa_cons pe_int pa_nil)))))) <|
      pss_cons (ps_set (i := 5) sc_right.nd rfl (.inl rfl) (pe_call Gw h4 (by rfl) T.g_random_word T.F_random_word.kp T.b_random_word .nil pass0 (pa_cons (pv 0) (pa_cons (pv 4) (pa_cons pe_int pa_nil))))) <|
      pss_cons (ps_set (i := 3) sc_right.nd rfl (.inl rfl) (pe_call GJ h1 (by rfl) T.g_joined_ends T.F_joined_ends.kp T.b_joined_ends .nil pass0 (pa_cons (pv 4) (pa_cons (pv 5) pa_nil)))) <|
      pss_cons (ps_if (PW.pt (pw_or (pt_cmpR op_gt (pe_call GF h5 (by rfl) T.g_p_fewest_calls T.F_p_fewest_calls.kp T.b_p_fewest_calls .nil pass0 (pa_cons (pv 3) pa_nil)) (pe_callB call_len_seq (by rfl) T.n_len PySem.boot_len (pa_cons (pv 5) pa_nil)) (nomark _)) (pw_or1 (pt_not (pt_val (pe_call GR h7 (by rfl) T.g_page_right T.F_page_right.kp T.b_page_right .nil pass0 (pa_cons (pv 0) (pa_cons (pv 3) pa_nil)))))))) (pss_one (ps_ret pe_bl)) pss_nil) <|
      pss_one (ps_if (pt_not (pt_val (pe_call GR h7 (by rfl) T.g_page_right T.F_page_right.kp T.b_page_right .nil pass0 (pa_cons (pv 0) (pa_cons (pe_call GD h3 (by rfl) T.g_random_pairing T.F_random_pairing.kp T.b_random_pairing .nil pass0 (pa_cons (pv 0) (pa_cons (pe_op op_mul pe_int (pv 4)) pa_nil))) pa_nil))))) (pss_one (ps_ret pe_bl)) pss_nil))) <|
      pss_cons (ps_set (i := 6) sc_right.nd rfl (.inr rfl) (pe_call Gs h2 (by rfl) T.g_shuffled T.F_shuffled.kp T.b_shuffled .nil pass0 (pa_cons (pv 0) (pa_cons (pe_listRg rfl (by rfl) T.n_list (prg_1 (by rfl) T.n_range pe_int)) pa_nil)))) <|
      pss_cons (ps_set (i := 3) sc_right.nd rfl (.inl rfl) (pe_callTy call_tuple_of (by rfl) T.n_tuple (by decide +kernel) (pa_cons (pe_op op_cat (pe_lc (own := [("_law_spot", 7)]) (g := gName 7) (tt := tYes) (te := tOp (rI0 fun i j => .int (i + j)) (tC (.int 4)) (tVar 7)) rfl sc_right.nd (pi_list (pv 6)) (blkOk_by (N := N_right) (sc := (defScope s_right)) (by decide +kernel)) (fun _ _ _ _ _ => (pg_name (i := 7) sc_right.nd rfl (.inl rfl))) (fun _ _ _ _ _ => pts_nil) (fun _ _ _ _ _ => pe_op op_add pe_int (pv 7))) (pe_lc (own := [("_law_spot", 7)]) (g := gName 7) (tt := tYes) (te := tBM K "list" (rIndex K) (tVar 6) (tCons (tVar 7) tNil)) rfl sc_right.nd (pi_range1 (by rfl) T.n_range (pa_cons pe_int pa_nil)) (blkOk_by (N := N_right) (sc := (defScope s_right)) (by decide +kernel)) (fun _ _ _ _ _ => (pg_name (i := 7) sc_right.nd rfl (.inl rfl))) (fun _ _ _ _ _ => pts_nil) (fun _ _ _ _ _ => pe_bm PySem.F.plainAttrs_list PySem.F.slot_list_index PySem.F.type_list_index mt_index (pv 6) (pa_cons (pv 7) pa_nil)))) pa_nil))) <|
      pss_one (ps_ret (pe_call GR h7 (by rfl) T.g_page_right T.F_page_right.kp T.b_page_right .nil pass0 (pa_cons (pv 0) (pa_cons (pv 3) pa_nil)))), ?_⟩
    obtain ⟨tnd, tip⟩ := TB_ok (n := 4) (by decide)
    refine ⟨4, rfl, four24, fun H1 aF s1 nF eF => ?_⟩
    have bF : aF ≠ b := (hB.ne_new nF).symm
    refine st_set [some (.ref b), some (.ref aF), none, none, none, none, none, none] ?_ rfl
    -- sheets of four people
    refine ⟨6, rfl, by decide, by decide, ?_⟩
    refine for_range (n := 6) (fun i σ J => Keep b H J ∧ Box (n + 3900 - 10 * i) J b ∧ J aF = some (.dT (dkI (TB 4))) ∧ ∃ (y2 y3 : Option V), σ = [some (.ref b), some (.ref aF), y2, y3, none, none, none, none]) ⟨Keep.of_same s1, (hB.same s1).mono (by omega), eF, none, none, rfl⟩ (fun i σ J hi h => ?_) (fun σ J h => ?_)
    · obtain ⟨kJ, hBJ, eF, y2, y3, rfl⟩ := h
      refine st_set [some (.ref b), some (.ref aF), some (.int ((0 : Int) + (i : Nat))), y3, none, none, none, none] ?_ rfl
      refine ⟨_, rfl, _, rfl, aF, _, 8, 8, rfl, eF, by decide, fun p hp => ?_, fun bs hk ys p hpm hpw np => ?_⟩
      · obtain ⟨x, hx, rfl⟩ := List.mem_map.mp hp
        have hx := tip x hx
        exact ⟨zs8 x.1, by unfold zs8 ky; rw [List.map_map]; rfl, by unfold zs8; rw [List.length_map, hx.len], fun z hz => by
          obtain ⟨w, hw, rfl⟩ := List.mem_map.mp hz
          have := hx.lt w hw
          omega⟩
      have hyl : ys.length = (TB 4).length := by rw [hpm.length_eq, List.length_map, isKeys_len hk, List.length_map]
      have sp : Same J (upd J p (.lst ys)) := same_new np
      have bp : p ≠ b := (hBJ.ne_new np).symm
      refine ⟨b, p, n + 3900 - 10 * i - 1, ys, rfl, (hBJ.same sp).mono (by omega), bp, upd_same, by rw [hyl, TB_len.2]; decide, by rw [hyl, TB_len.2]; decide, fun J2 j v hv k2 hB2 => ?_⟩
      obtain ⟨u, x, rfl, hx, hu⟩ := TB_pick (K := K) hk hpm hv
      have ub : u ≠ b := fun z => by obtain ⟨y, hy⟩ := hBJ.lst; rw [z, hy] at hu; cases hu
      have hu2 := k2 _ _ ub (sp _ _ hu)
      have eF2 := k2 _ _ bF (sp _ _ eF)
      have hf := tip x hx
      obtain ⟨hfw, hhw⟩ := TB_few four24 hx
      refine st_set [some (.ref b), some (.ref aF), some (.int ((0 : Int) + (i : Nat))), some (.ref u), none, none, none, none] ?_ rfl
      refine ⟨_, rfl, u, x.1, 4, rfl, .inr (.inl (.inl hu2)), hf, by decide, by decide, hhw, fun J3 ls hL s3 => ?_⟩
      rw [fw_val hf hL, hfw]
      refine ⟨_, rfl, _, rfl, aF, V.int (x.2 : Nat), rfl, by have h := DGet.t (s3 _ _ eF2) (show J3 u = some (.tup ((ky x.1).map kV)) by rw [ky_kV]; exact s3 _ _ hu2); rw [val_dkI tnd hx] at h; exact h, ?_⟩
      refine ⟨_, _, .int (x.2 : Nat), rfl, .int _, .int _, by show 0 < 4; decide, trivial, fun J4 s4 => ⟨true, rfl, iteN ?_⟩⟩
      have s34 := s3.trans s4
      refine ⟨_, rfl, _, rfl, b, u, n + 3900 - 10 * (i + 1), 4, x.1, rfl, (hB2.same s34).mono (by omega), s34 _ _ hu2, hf, by decide, by decide, fun J5 k5 hB5 => ⟨true, rfl, iteN ?_⟩⟩
      exact ⟨kJ.trans ((Keep.of_same sp).trans (k2.trans ((Keep.of_same s34).trans k5))), hB5, k5 _ _ bF (s34 _ _ eF2), _, _, rfl⟩
    obtain ⟨kJ, hBJ, eF, y2, y3, rfl⟩ := h
    replace hBJ : Box (n + 3000) J b := hBJ.mono (by omega)
    clear hB s1 nF
    -- sheets of more people
    refine ⟨4, rfl, by decide, by decide, ?_⟩
    refine for_range (n := 4) (fun i σ J => Keep b H J ∧ Box (n + 3000 - 400 * i) J b ∧ ∃ (y2 y3 y4 y5 : Option V), σ = [some (.ref b), some (.ref aF), y2, y3, y4, y5, none, none]) ⟨kJ, hBJ, y2, y3, none, none, rfl⟩ (fun i σ J hi h => ?_) (fun σ J h => ?_)
    · obtain ⟨kJ, hBJ, y2, y3, y4, y5, rfl⟩ := h
      obtain ⟨m, hm⟩ : ∃ z, z = n + 3000 - 400 * (i + 1) := ⟨_, rfl⟩
      replace hBJ : Box (m + 400) J b := hBJ.mono (by omega)
      refine st_set [some (.ref b), some (.ref aF), some (.int ((0 : Int) + (i : Nat))), y3, y4, y5, none, none] ?_ rfl
      refine ⟨_, rfl, b, m + 399, 6, rfl, hBJ.mono (by omega), by decide, by decide, fun r0 J1 ra rb hB1 k1 => ?_⟩
      refine ⟨2, r0, rfl, rfl, .inl ⟨by decide, by decide⟩, 2, _, rfl, rfl, ?_⟩
      obtain ⟨N, hN2, hN12, eN⟩ : ∃ N : Nat, 2 ≤ N ∧ N ≤ 12 ∧ (2 + 2 * r0 : Int) = ((N : Nat) : Int) := ⟨2 + 2 * r0.toNat, by omega, by omega, by omega⟩
      rw [show (fun i j => V.int (i + j)) 2 ((fun i j => i * j) 2 r0) = V.int ((N : Nat) : Int) from congrArg V.int eN]
      refine st_set [some (.ref b), some (.ref aF), some (.int ((0 : Int) + (i : Nat))), y3, some (.int (N : Nat)), y5, none, none] ?_ rfl
      have hmul : N * 12 ≤ 144 := by omega
      refine ⟨_, rfl, _, rfl, b, m + 200, N, 12, rfl, hB1.mono (by omega), hN2, by omega, by decide, fun J2 pw as qs hc hql npw epw hA k2 hB2 => ?_⟩
      have bpw : pw ≠ b := fun z => by obtain ⟨y, hy⟩ := hB1.lst; rw [z] at npw; rw [npw] at hy; cases hy
      refine st_set [some (.ref b), some (.ref aF), some (.int ((0 : Int) + (i : Nat))), y3, some (.int (N : Nat)), some (.ref pw), none, none] ?_ rfl
      refine ⟨_, rfl, _, rfl, N, pw, _, as, qs, rfl, .inl (.inl epw), rfl, hA, hc, hN2, by omega, fun J3 t s3 nt et => ?_⟩
      refine st_set [some (.ref b), some (.ref aF), some (.int ((0 : Int) + (i : Nat))), some (.ref t), some (.int (N : Nat)), some (.ref pw), none, none] ?_ rfl
      have hf : IsPair (2 * N) (shw N qs (emp N)) := shw_pair (emp_pair (by omega)) hc
      have hhw : hasW (shw N qs (emp N)) N = true := has_word_of (by omega) hc
      refine ⟨_, rfl, t, _, N, rfl, .inr (.inl (.inl et)), hf, by omega, by omega, hhw, fun J4 ls hL s4 => ?_⟩
      rw [fw_val hf hL]
      have hfw := fw_word (n := N) (by omega) hc
      refine ⟨_, rfl, pw, _, rfl, .inl (.inl (.inl (s4 _ _ (s3 _ _ epw)))), _, _, rfl, rfl, _, rfl, iteX (decide_eq_false (by rw [List.length_map, hA.length]; omega)) ?_⟩
      have s34 := s3.trans s4
      refine ⟨_, rfl, _, rfl, b, t, m + 100, N, shw N qs (emp N), rfl, (hB2.same s34).mono (by omega), s4 _ _ et, hf, hN2, by omega, fun J5 k5 hB5 => ⟨true, rfl, iteN ?_⟩⟩
      refine ⟨_, rfl, _, rfl, _, rfl, 2, _, rfl, rfl, .inl ⟨by decide, by decide⟩, b, m + 60, 2 * N, by show [V.ref b, V.int (2 * (N : Int))] = _; rw [show (2 * (N : Int)) = ((2 * N : Nat) : Int) by omega], hB5.mono (by omega), by omega, by omega, fun J6 p6 ps hps k6 hB6 np6 ep6 => ?_⟩
      refine ⟨b, p6, m, N, ps, rfl, hB6.mono (by omega), ep6, hps, hN2, by omega, fun J7 k7 hB7 => ⟨true, rfl, iteN ?_⟩⟩
      exact ⟨kJ.trans (k1.trans (k2.trans ((Keep.of_same s34).trans (k5.trans (k6.trans k7))))), by rw [← hm]; exact hB7, _, _, _, _, rfl⟩
    obtain ⟨kJ, hBJ, y2, y3, y4, y5, rfl⟩ := h
    replace hBJ : Box (n + 1000) J b := hBJ.mono (by omega)
    -- strands in a drawn order
    refine ⟨_, rfl, _, rfl, RgOk.of_le (by decide) (by decide) (by decide) (by decide), fun a na => ?_⟩
    have s1 : Same J (upd J a (.lst (rgV 0 (4 : Int)))) := same_new na
    have hl : (rgV 0 (4 : Int)).length = 4 := by rw [rgV_length]; rfl
    refine ⟨b, a, n + 900, _, rfl, (hBJ.same s1).mono (by rw [hl]; omega), .inl (.inl upd_same), by rw [hl]; decide, fun J2 p2 ys hp k2 hB2 np2 ep2 => ?_⟩
    obtain ⟨os, e1, e2⟩ := perm_map_inv (fun (i : Nat) => V.int (i : Int)) hp.symm (List.range 4) (rg_nv 4)
    have ep3 : J2 p2 = some (.lst (nv os)) := by rw [ep2, e1]; rfl
    have hol : os.length = 4 := by rw [e2.length_eq, List.length_range]
    have k02 : Keep b H J2 := kJ.trans ((Keep.of_same s1).trans k2)
    refine st_set [some (.ref b), some (.ref aF), y2, y3, y4, y5, some (.ref p2), none] ?_ rfl
    refine ⟨_, rfl, p2, rfl, ⟨_, .inl (.inl ep3)⟩, fun D nD => ?_⟩
    refine lc_list (xs := nv os) (fun i H' => Same J2 H' ∧ H' D = some (.lst (nv ((os.take i).map fun x => 4 + x)))) ⟨same_new nD, upd_same⟩ (fun i H' _ h => .inl (.inl (h.1 _ _ ep3))) (fun i v H' hv h => ?_) (fun J3 h => ?_)
    · obtain ⟨sm, eD⟩ := h
      obtain ⟨x, ex, rfl⟩ := nv_get' hv
      have hi := get_lt ex
      refine ⟨rfl, yes_if ⟨_, rfl, _, _, rfl, rfl, _, eD, ?_, fun z o hz => ?_, ?_⟩⟩
      · rw [nv_length, List.length_map, List.length_take]; exact small1000 (by omega)
      · rw [upd_ne (ne_of_none hz nD)]; exact sm _ _ hz
      · rw [upd_same, List.take_add_one, ex, List.map_append]
        show some (HO.lst (nv ((os.take i).map fun x => 4 + x) ++ [V.int ((4 : Int) + (x : Int))])) = _
        rw [show (4 : Int) + (x : Int) = ((4 + x : Nat) : Int) by omega, nv_snoc']; rfl
    obtain ⟨s3, eD⟩ := h
    rw [nv_length, List.take_length] at eD
    have ep3' := s3 _ _ ep3
    refine ⟨4, rfl, by decide, by decide, fun D2 nD2 => ?_⟩
    refine lc_range (n := 4) (fun i H' => Same J3 H' ∧ H' D2 = some (.lst (nv ((List.range i).map (idx os))))) ⟨same_new nD2, upd_same⟩ (fun i H' hi h => ?_) (fun J4 h => ?_)
    · obtain ⟨sm, eD2⟩ := h
      have hm : i ∈ os := e2.mem_iff.mpr (List.mem_range.mpr hi)
      refine ⟨rfl, yes_if ⟨_, rfl, .inl ⟨rfl, _, .inl (.inl (sm _ _ ep3'))⟩, _, rfl, p2, nv os, _, idx os i, .int (i : Nat), rfl, rfl, .inl (.inl (sm _ _ ep3')), rfl, flat_nat' _, nv_get (idx_get hm), ?_, fun m z' hm' hz' => ?_, _, eD2, ?_, fun z o hz => ?_, ?_⟩⟩
      · show eqV (.int (i : Int)) (.int ((0 : Int) + (i : Nat))) = true
        rw [Int.zero_add]; exact beq_self_eq_true _
      · obtain ⟨x, ex, rfl⟩ := nv_get' hz'
        have hx : x ≠ i := fun z => idx_none hm' (z ▸ ex)
        show ((x : Int) == ((0 : Int) + (i : Nat))) = false
        exact beq_eq_false_iff_ne.mpr (by omega)
      · rw [nv_length, List.length_map, List.length_range]; exact small1000 (by omega)
      · rw [upd_ne (ne_of_none hz nD2)]; exact sm _ _ hz
      · rw [upd_same, List.range_succ, List.map_append, nv_snoc']; rfl
    obtain ⟨s4, eD2⟩ := h
    refine ⟨D, D2, _, _, rfl, rfl, s4 _ _ eD, eD2, ?_, fun g ng => ?_⟩
    · rw [nv_length, nv_length, List.length_map, List.length_map, List.length_range]; exact Nat.le_of_lt (small1000 (by omega))
    have s5 := (s3.trans s4).trans (same_new (o := .lst (nv (os.map fun x => 4 + x) ++ nv ((List.range 4).map (idx os)))) ng)
    refine ⟨g, _, rfl, .inl ⟨.inl (.inl upd_same), fun t nt => ?_⟩⟩
    have s6 := s5.trans (same_new (o := .tup (nv (os.map fun x => 4 + x) ++ nv ((List.range 4).map (idx os)))) nt)
    refine st_set [some (.ref b), some (.ref aF), y2, some (.ref t), y4, y5, some (.ref p2), none] ?_ rfl
    refine ⟨_, rfl, _, rfl, b, t, n, 4, wst 4 os, rfl, (hB2.same s6).mono (by omega), ?_, wst_pair (by decide) e2, by decide, by decide, fun J5 k5 hB5 => ?_⟩
    · rw [upd_same]
      unfold wst nv
      rw [List.map_append]
    exact q _ (k02.trans ((Keep.of_same s6).trans k5)) hB5
end
end Pc
namespace Pc
open PySem PySem.Spec PyProof.Rows L2 RZ
section
variable {P : Program} {w : World} {K : PySem.W.Frag} {mg : Str → Option Value} {base : Heap}
/-! ### the law, one right a stream -/
def spLaw (K : PySem.W.Frag) : Sp := fun vs H Q _ => ∃ (a : Addr) (ns : List Int), vs = [.ref a] ∧ SqL K H a (ns.map V.int) ∧ ns.length ≤ 63 ∧ ∀ H', Q (.bl true) H'
theorem ok_law (T : Env K mg) {f : Addr} {fd : FuncData} (F : Fun K "law" "law" s_law f fd) : FnOk P w K mg base CX0 9 f fd ["_law_script"] (spLaw K) := by
  have GC : FnOk P w K mg base CX0 1 T.f_folded T.d_folded ["_law_script", "_law_most"] (spCells K) := ok_cells T
  have GB : FnOk P w K mg base CX0 1 T.f_stream T.d_stream ["_law_script", "_law_k"] (spBox K) := ok_box T
  have GR : FnOk P w K mg base CX0 8 T.f_right T.d_right ["_law_source"] spRight := ok_right T
  refine F.ok sc_law (fun vs H Q E h => ?_) (fun cdv A outer s H vs Q E hr h => ?_)
  · obtain ⟨a, ns, rfl, _⟩ := h
    rfl
  · obtain ⟨a, ns, rfl, hS, hn, q⟩ := h
    have h1 := hr.mono (show 1 ≤ 8 by decide)
    refine ⟨_, pss_cons (ps_set (i := 1) sc_law.nd rfl (.inr rfl) (pe_call GC h1 (by rfl) T.g_folded T.F_folded.kp T.b_folded .nil pass0 (pa_cons (pv 0) (pa_cons pe_int pa_nil)))) <|
      pss_one (ps_ret (pe_callB (cr_all rfl) (by rfl) T.n_all (by decide +kernel) (pa_cons
          (pe_lc (own := [("_law_k", 2)]) (g := gName 2) (tt := tYes) rfl sc_law.nd (pi_range1 (by rfl) T.n_range (pa_cons (pe_callB call_len_seq (by rfl) T.n_len PySem.boot_len (pa_cons (pv 1) pa_nil)) pa_nil)) (blkOk_by (N := N_law) (sc := defScope s_law) (by decide +kernel))
            (fun _ _ _ _ _ => pg_name (i := 2) sc_law.nd rfl (.inl rfl)) (fun _ _ _ _ _ => pts_nil)
            (fun _ _ _ _ _ => pe_call GR hr (by rfl) T.g_right T.F_right.kp T.b_right .nil pass0 (pa_cons (pe_call GB h1 (by rfl) T.g_stream T.F_stream.kp T.b_stream .nil pass0 (pa_cons (pv 1) (pa_cons (pv 2) pa_nil))) pa_nil))) pa_nil))), ?_⟩
    refine ⟨.ref a, rfl, a, ns, 2, rfl, hS, hn, by decide, by decide, fun Hc p cs sc np ep hc1 hc2 => ?_⟩
    have hlen : (cs.map V.int).length = cs.length := List.length_map _
    refine st_set [some (.ref a), some (.ref p), none] ?_ rfl
    refine ⟨.ref p, rfl, p, _, rfl, .inl (.inl (.inl ep)), _, rfl, by omega, by omega, fun D nD => ?_⟩
    have pD : p ≠ D := ne_of_none ep nD
    have hj : ((cs.map V.int).length : Int).toNat = cs.length := by rw [hlen]; rfl
    rw [hj]
    refine lc_range (n := cs.length) (fun i H' => H' p = some (.lst (cs.map V.int)) ∧ H' D = some (.lst (List.replicate i (.bl true))))
      ⟨same_new nD _ _ ep, upd_same⟩ (fun i H' hi hPv => ?_) (fun H' hPv => ?_)
    · obtain ⟨ep1, eD⟩ := hPv
      refine ⟨rfl, yes_if ⟨_, rfl, _, rfl, p, cs, i, ?_, .inl (.inl ep1), by omega, fun Hb b sb nb hBb => ?_⟩⟩
      · show [V.ref p, V.int ((0 : Int) + (i : Nat))] = _
        rw [Int.zero_add]
      have bD : D ≠ b := ne_of_none eD nb
      have pb : p ≠ b := ne_of_none ep1 nb
      refine ⟨b, 0, rfl, hBb.mono (by decide), fun H2 k2 hB2 => ⟨_, k2 _ _ bD (sb _ _ eD), ?_, ?_, ?_⟩⟩
      · rw [List.length_replicate]; exact small1000 (by omega)
      · rw [upd_ne pD]; exact k2 _ _ pb (sb _ _ ep1)
      · rw [upd_same, List.replicate_succ']
    · obtain ⟨ep1, eD⟩ := hPv
      refine ⟨D, List.replicate cs.length true, rfl, by rw [List.map_replicate]; exact .inl (.inl eD), ?_⟩
      rw [all_rep]
      exact q _
end
end Pc
namespace Pc
open PySem PySem.Spec PyProof.Rows L2 RZ
theorem all_mk {l : PySem.W.OpenLaw} {w : World} {K : PySem.W.Frag} {h : Heap} {mg : Str → Option Value} {fa f_p_check_person f_p_check_call f_p_check_word f_p_join_two f_p_people_of f_p_empty_sheet f_p_with_word f_p_with_call f_p_lower_pairs f_p_other_side f_p_loop_of f_p_loops f_p_is_pure f_p_pure_loops f_p_has_word f_p_fewest_calls f_p_undone_calls f_p_word_for f_stream f_draw f_folded f_pick f_all_calls f_same f_shuffled f_random_pairing f_random_call f_random_word f_joined_ends f_layers f_loops f_is_none f_page_right f_right f_law C_NoWord C_NoNumber f_i_NoWord : Addr} (X : K.In h) (G : h.Ns mainGlobals mg) (hfa : mg "law" = some (.ref fa))
    {od_p_check_person an_p_check_person : Option Addr} {sl_p_check_person : Array (Option Value)} {oc_p_check_person kV_p_check_person dc_p_check_person pm_p_check_person cd_p_check_person ct_p_check_person : Value}
    {od_p_check_call an_p_check_call : Option Addr} {sl_p_check_call : Array (Option Value)} {oc_p_check_call kV_p_check_call dc_p_check_call pm_p_check_call cd_p_check_call ct_p_check_call : Value}
    {od_p_check_word an_p_check_word : Option Addr} {sl_p_check_word : Array (Option Value)} {oc_p_check_word kV_p_check_word dc_p_check_word pm_p_check_word cd_p_check_word ct_p_check_word : Value}
    {od_p_join_two an_p_join_two : Option Addr} {sl_p_join_two : Array (Option Value)} {oc_p_join_two kV_p_join_two dc_p_join_two pm_p_join_two cd_p_join_two ct_p_join_two : Value}
    {od_p_people_of an_p_people_of : Option Addr} {sl_p_people_of : Array (Option Value)} {oc_p_people_of kV_p_people_of dc_p_people_of pm_p_people_of cd_p_people_of ct_p_people_of : Value}
    {od_p_empty_sheet an_p_empty_sheet : Option Addr} {sl_p_empty_sheet : Array (Option Value)} {oc_p_empty_sheet kV_p_empty_sheet dc_p_empty_sheet pm_p_empty_sheet cd_p_empty_sheet ct_p_empty_sheet : Value}
    {od_p_with_word an_p_with_word : Option Addr} {sl_p_with_word : Array (Option Value)} {oc_p_with_word kV_p_with_word dc_p_with_word pm_p_with_word cd_p_with_word ct_p_with_word : Value}
    {od_p_with_call an_p_with_call : Option Addr} {sl_p_with_call : Array (Option Value)} {oc_p_with_call kV_p_with_call dc_p_with_call pm_p_with_call cd_p_with_call ct_p_with_call : Value}
    {od_p_lower_pairs an_p_lower_pairs : Option Addr} {sl_p_lower_pairs : Array (Option Value)} {oc_p_lower_pairs kV_p_lower_pairs dc_p_lower_pairs pm_p_lower_pairs cd_p_lower_pairs ct_p_lower_pairs : Value}
    {od_p_other_side an_p_other_side : Option Addr} {sl_p_other_side : Array (Option Value)} {oc_p_other_side kV_p_other_side dc_p_other_side pm_p_other_side cd_p_other_side ct_p_other_side : Value}
    {od_p_loop_of an_p_loop_of : Option Addr} {sl_p_loop_of : Array (Option Value)} {oc_p_loop_of kV_p_loop_of dc_p_loop_of pm_p_loop_of cd_p_loop_of ct_p_loop_of : Value}
    {od_p_loops an_p_loops : Option Addr} {sl_p_loops : Array (Option Value)} {oc_p_loops kV_p_loops dc_p_loops pm_p_loops cd_p_loops ct_p_loops : Value}
    {od_p_is_pure an_p_is_pure : Option Addr} {sl_p_is_pure : Array (Option Value)} {oc_p_is_pure kV_p_is_pure dc_p_is_pure pm_p_is_pure cd_p_is_pure ct_p_is_pure : Value}
    {od_p_pure_loops an_p_pure_loops : Option Addr} {sl_p_pure_loops : Array (Option Value)} {oc_p_pure_loops kV_p_pure_loops dc_p_pure_loops pm_p_pure_loops cd_p_pure_loops ct_p_pure_loops : Value}
    {od_p_has_word an_p_has_word : Option Addr} {sl_p_has_word : Array (Option Value)} {oc_p_has_word kV_p_has_word dc_p_has_word pm_p_has_word cd_p_has_word ct_p_has_word : Value}
    {od_p_fewest_calls an_p_fewest_calls : Option Addr} {sl_p_fewest_calls : Array (Option Value)} {oc_p_fewest_calls kV_p_fewest_calls dc_p_fewest_calls pm_p_fewest_calls cd_p_fewest_calls ct_p_fewest_calls : Value}
    {od_p_undone_calls an_p_undone_calls : Option Addr} {sl_p_undone_calls : Array (Option Value)} {oc_p_undone_calls kV_p_undone_calls dc_p_undone_calls pm_p_undone_calls cd_p_undone_calls ct_p_undone_calls : Value}
    {od_p_word_for an_p_word_for : Option Addr} {sl_p_word_for : Array (Option Value)} {oc_p_word_for kV_p_word_for dc_p_word_for pm_p_word_for cd_p_word_for ct_p_word_for : Value}
    {od_stream an_stream : Option Addr} {sl_stream : Array (Option Value)} {oc_stream kV_stream dc_stream pm_stream cd_stream ct_stream : Value}
    {od_draw an_draw : Option Addr} {sl_draw : Array (Option Value)} {oc_draw kV_draw dc_draw pm_draw cd_draw ct_draw : Value}
    {od_folded an_folded : Option Addr} {sl_folded : Array (Option Value)} {oc_folded kV_folded dc_folded pm_folded cd_folded ct_folded : Value}
    {od_pick an_pick : Option Addr} {sl_pick : Array (Option Value)} {oc_pick kV_pick dc_pick pm_pick cd_pick ct_pick : Value}
    {od_all_calls an_all_calls : Option Addr} {sl_all_calls : Array (Option Value)} {oc_all_calls kV_all_calls dc_all_calls pm_all_calls cd_all_calls ct_all_calls : Value}
    {od_same an_same : Option Addr} {sl_same : Array (Option Value)} {oc_same kV_same dc_same pm_same cd_same ct_same : Value}
    {od_shuffled an_shuffled : Option Addr} {sl_shuffled : Array (Option Value)} {oc_shuffled kV_shuffled dc_shuffled pm_shuffled cd_shuffled ct_shuffled : Value}
    {od_random_pairing an_random_pairing : Option Addr} {sl_random_pairing : Array (Option Value)} {oc_random_pairing kV_random_pairing dc_random_pairing pm_random_pairing cd_random_pairing ct_random_pairing : Value}
    {od_random_call an_random_call : Option Addr} {sl_random_call : Array (Option Value)} {oc_random_call kV_random_call dc_random_call pm_random_call cd_random_call ct_random_call : Value}
    {od_random_word an_random_word : Option Addr} {sl_random_word : Array (Option Value)} {oc_random_word kV_random_word dc_random_word pm_random_word cd_random_word ct_random_word : Value}
    {od_joined_ends an_joined_ends : Option Addr} {sl_joined_ends : Array (Option Value)} {oc_joined_ends kV_joined_ends dc_joined_ends pm_joined_ends cd_joined_ends ct_joined_ends : Value}
    {od_layers an_layers : Option Addr} {sl_layers : Array (Option Value)} {oc_layers kV_layers dc_layers pm_layers cd_layers ct_layers : Value}
    {od_loops an_loops : Option Addr} {sl_loops : Array (Option Value)} {oc_loops kV_loops dc_loops pm_loops cd_loops ct_loops : Value}
    {od_is_none an_is_none : Option Addr} {sl_is_none : Array (Option Value)} {oc_is_none kV_is_none dc_is_none pm_is_none cd_is_none ct_is_none : Value}
    {od_page_right an_page_right : Option Addr} {sl_page_right : Array (Option Value)} {oc_page_right kV_page_right dc_page_right pm_page_right cd_page_right ct_page_right : Value}
    {od_right an_right : Option Addr} {sl_right : Array (Option Value)} {oc_right kV_right dc_right pm_right cd_right ct_right : Value}
    {od_law an_law : Option Addr} {sl_law : Array (Option Value)} {oc_law kV_law dc_law pm_law cd_law ct_law : Value}
    {nm_NoWord qn_NoWord : Str} {Nn_NoWord : Addr} {bs_NoWord : List Value} {sn_NoWord : List Str} {sub_NoWord : List Value} {ab_NoWord : Bool} {col_NoWord : Option Bool} {dd_NoWord : Option Addr} {m0_NoWord m1_NoWord m2_NoWord m3_NoWord m5_NoWord : Option Value} {od_i_NoWord an_i_NoWord : Option Addr} {sl_i_NoWord : Array (Option Value)} {oc_i_NoWord kV_i_NoWord dc_i_NoWord pm_i_NoWord cd_i_NoWord ct_i_NoWord : Value}
    (a_p_check_person : PySem.W.nsIn K mainGlobals "check_person" = some (some (.ref f_p_check_person))) (l_p_check_person : K.lookup f_p_check_person = some ⟨oc_p_check_person, od_p_check_person, .func (PySem.W.fnOf "check_person" "check_person" (defArgs s_p_check_person) (defBody s_p_check_person) (defScope s_p_check_person) .none kV_p_check_person dc_p_check_person pm_p_check_person an_p_check_person cd_p_check_person ct_p_check_person), sl_p_check_person⟩) (c_p_check_person : PySem.W.codeIn K cd_p_check_person "check_person" = true) (k_p_check_person : PySem.W.keepIn K (.ref f_p_check_person) = true)
    (a_p_check_call : PySem.W.nsIn K mainGlobals "check_call" = some (some (.ref f_p_check_call))) (l_p_check_call : K.lookup f_p_check_call = some ⟨oc_p_check_call, od_p_check_call, .func (PySem.W.fnOf "check_call" "check_call" (defArgs s_p_check_call) (defBody s_p_check_call) (defScope s_p_check_call) .none kV_p_check_call dc_p_check_call pm_p_check_call an_p_check_call cd_p_check_call ct_p_check_call), sl_p_check_call⟩) (c_p_check_call : PySem.W.codeIn K cd_p_check_call "check_call" = true) (k_p_check_call : PySem.W.keepIn K (.ref f_p_check_call) = true)
    (a_p_check_word : PySem.W.nsIn K mainGlobals "check_word" = some (some (.ref f_p_check_word))) (l_p_check_word : K.lookup f_p_check_word = some ⟨oc_p_check_word, od_p_check_word, .func (PySem.W.fnOf "check_word" "check_word" (defArgs s_p_check_word) (defBody s_p_check_word) (defScope s_p_check_word) .none kV_p_check_word dc_p_check_word pm_p_check_word an_p_check_word cd_p_check_word ct_p_check_word), sl_p_check_word⟩) (c_p_check_word : PySem.W.codeIn K cd_p_check_word "check_word" = true) (k_p_check_word : PySem.W.keepIn K (.ref f_p_check_word) = true)
    (a_p_join_two : PySem.W.nsIn K mainGlobals "join_two" = some (some (.ref f_p_join_two))) (l_p_join_two : K.lookup f_p_join_two = some ⟨oc_p_join_two, od_p_join_two, .func (PySem.W.fnOf "join_two" "join_two" (defArgs s_p_join_two) (defBody s_p_join_two) (defScope s_p_join_two) .none kV_p_join_two dc_p_join_two pm_p_join_two an_p_join_two cd_p_join_two ct_p_join_two), sl_p_join_two⟩) (c_p_join_two : PySem.W.codeIn K cd_p_join_two "join_two" = true) (k_p_join_two : PySem.W.keepIn K (.ref f_p_join_two) = true)
    (a_p_people_of : PySem.W.nsIn K mainGlobals "people_of" = some (some (.ref f_p_people_of))) (l_p_people_of : K.lookup f_p_people_of = some ⟨oc_p_people_of, od_p_people_of, .func (PySem.W.fnOf "people_of" "people_of" (defArgs s_p_people_of) (defBody s_p_people_of) (defScope s_p_people_of) .none kV_p_people_of dc_p_people_of pm_p_people_of an_p_people_of cd_p_people_of ct_p_people_of), sl_p_people_of⟩) (c_p_people_of : PySem.W.codeIn K cd_p_people_of "people_of" = true) (k_p_people_of : PySem.W.keepIn K (.ref f_p_people_of) = true)
    (a_p_empty_sheet : PySem.W.nsIn K mainGlobals "empty_sheet" = some (some (.ref f_p_empty_sheet))) (l_p_empty_sheet : K.lookup f_p_empty_sheet = some ⟨oc_p_empty_sheet, od_p_empty_sheet, .func (PySem.W.fnOf "empty_sheet" "empty_sheet" (defArgs s_p_empty_sheet) (defBody s_p_empty_sheet) (defScope s_p_empty_sheet) .none kV_p_empty_sheet dc_p_empty_sheet pm_p_empty_sheet an_p_empty_sheet cd_p_empty_sheet ct_p_empty_sheet), sl_p_empty_sheet⟩) (c_p_empty_sheet : PySem.W.codeIn K cd_p_empty_sheet "empty_sheet" = true) (k_p_empty_sheet : PySem.W.keepIn K (.ref f_p_empty_sheet) = true)
    (a_p_with_word : PySem.W.nsIn K mainGlobals "with_word" = some (some (.ref f_p_with_word))) (l_p_with_word : K.lookup f_p_with_word = some ⟨oc_p_with_word, od_p_with_word, .func (PySem.W.fnOf "with_word" "with_word" (defArgs s_p_with_word) (defBody s_p_with_word) (defScope s_p_with_word) .none kV_p_with_word dc_p_with_word pm_p_with_word an_p_with_word cd_p_with_word ct_p_with_word), sl_p_with_word⟩) (c_p_with_word : PySem.W.codeIn K cd_p_with_word "with_word" = true) (k_p_with_word : PySem.W.keepIn K (.ref f_p_with_word) = true)
    (a_p_with_call : PySem.W.nsIn K mainGlobals "with_call" = some (some (.ref f_p_with_call))) (l_p_with_call : K.lookup f_p_with_call = some ⟨oc_p_with_call, od_p_with_call, .func (PySem.W.fnOf "with_call" "with_call" (defArgs s_p_with_call) (defBody s_p_with_call) (defScope s_p_with_call) .none kV_p_with_call dc_p_with_call pm_p_with_call an_p_with_call cd_p_with_call ct_p_with_call), sl_p_with_call⟩) (c_p_with_call : PySem.W.codeIn K cd_p_with_call "with_call" = true) (k_p_with_call : PySem.W.keepIn K (.ref f_p_with_call) = true)
    (a_p_lower_pairs : PySem.W.nsIn K mainGlobals "lower_pairs" = some (some (.ref f_p_lower_pairs))) (l_p_lower_pairs : K.lookup f_p_lower_pairs = some ⟨oc_p_lower_pairs, od_p_lower_pairs, .func (PySem.W.fnOf "lower_pairs" "lower_pairs" (defArgs s_p_lower_pairs) (defBody s_p_lower_pairs) (defScope s_p_lower_pairs) .none kV_p_lower_pairs dc_p_lower_pairs pm_p_lower_pairs an_p_lower_pairs cd_p_lower_pairs ct_p_lower_pairs), sl_p_lower_pairs⟩) (c_p_lower_pairs : PySem.W.codeIn K cd_p_lower_pairs "lower_pairs" = true) (k_p_lower_pairs : PySem.W.keepIn K (.ref f_p_lower_pairs) = true)
    (a_p_other_side : PySem.W.nsIn K mainGlobals "other_side" = some (some (.ref f_p_other_side))) (l_p_other_side : K.lookup f_p_other_side = some ⟨oc_p_other_side, od_p_other_side, .func (PySem.W.fnOf "other_side" "other_side" (defArgs s_p_other_side) (defBody s_p_other_side) (defScope s_p_other_side) .none kV_p_other_side dc_p_other_side pm_p_other_side an_p_other_side cd_p_other_side ct_p_other_side), sl_p_other_side⟩) (c_p_other_side : PySem.W.codeIn K cd_p_other_side "other_side" = true) (k_p_other_side : PySem.W.keepIn K (.ref f_p_other_side) = true)
    (a_p_loop_of : PySem.W.nsIn K mainGlobals "loop_of" = some (some (.ref f_p_loop_of))) (l_p_loop_of : K.lookup f_p_loop_of = some ⟨oc_p_loop_of, od_p_loop_of, .func (PySem.W.fnOf "loop_of" "loop_of" (defArgs s_p_loop_of) (defBody s_p_loop_of) (defScope s_p_loop_of) .none kV_p_loop_of dc_p_loop_of pm_p_loop_of an_p_loop_of cd_p_loop_of ct_p_loop_of), sl_p_loop_of⟩) (c_p_loop_of : PySem.W.codeIn K cd_p_loop_of "loop_of" = true) (k_p_loop_of : PySem.W.keepIn K (.ref f_p_loop_of) = true)
    (a_p_loops : PySem.W.nsIn K mainGlobals "loops" = some (some (.ref f_p_loops))) (l_p_loops : K.lookup f_p_loops = some ⟨oc_p_loops, od_p_loops, .func (PySem.W.fnOf "loops" "loops" (defArgs s_p_loops) (defBody s_p_loops) (defScope s_p_loops) .none kV_p_loops dc_p_loops pm_p_loops an_p_loops cd_p_loops ct_p_loops), sl_p_loops⟩) (c_p_loops : PySem.W.codeIn K cd_p_loops "loops" = true) (k_p_loops : PySem.W.keepIn K (.ref f_p_loops) = true)
    (a_p_is_pure : PySem.W.nsIn K mainGlobals "is_pure" = some (some (.ref f_p_is_pure))) (l_p_is_pure : K.lookup f_p_is_pure = some ⟨oc_p_is_pure, od_p_is_pure, .func (PySem.W.fnOf "is_pure" "is_pure" (defArgs s_p_is_pure) (defBody s_p_is_pure) (defScope s_p_is_pure) .none kV_p_is_pure dc_p_is_pure pm_p_is_pure an_p_is_pure cd_p_is_pure ct_p_is_pure), sl_p_is_pure⟩) (c_p_is_pure : PySem.W.codeIn K cd_p_is_pure "is_pure" = true) (k_p_is_pure : PySem.W.keepIn K (.ref f_p_is_pure) = true)
    (a_p_pure_loops : PySem.W.nsIn K mainGlobals "pure_loops" = some (some (.ref f_p_pure_loops))) (l_p_pure_loops : K.lookup f_p_pure_loops = some ⟨oc_p_pure_loops, od_p_pure_loops, .func (PySem.W.fnOf "pure_loops" "pure_loops" (defArgs s_p_pure_loops) (defBody s_p_pure_loops) (defScope s_p_pure_loops) .none kV_p_pure_loops dc_p_pure_loops pm_p_pure_loops an_p_pure_loops cd_p_pure_loops ct_p_pure_loops), sl_p_pure_loops⟩) (c_p_pure_loops : PySem.W.codeIn K cd_p_pure_loops "pure_loops" = true) (k_p_pure_loops : PySem.W.keepIn K (.ref f_p_pure_loops) = true)
    (a_p_has_word : PySem.W.nsIn K mainGlobals "has_word" = some (some (.ref f_p_has_word))) (l_p_has_word : K.lookup f_p_has_word = some ⟨oc_p_has_word, od_p_has_word, .func (PySem.W.fnOf "has_word" "has_word" (defArgs s_p_has_word) (defBody s_p_has_word) (defScope s_p_has_word) .none kV_p_has_word dc_p_has_word pm_p_has_word an_p_has_word cd_p_has_word ct_p_has_word), sl_p_has_word⟩) (c_p_has_word : PySem.W.codeIn K cd_p_has_word "has_word" = true) (k_p_has_word : PySem.W.keepIn K (.ref f_p_has_word) = true)
    (a_p_fewest_calls : PySem.W.nsIn K mainGlobals "fewest_calls" = some (some (.ref f_p_fewest_calls))) (l_p_fewest_calls : K.lookup f_p_fewest_calls = some ⟨oc_p_fewest_calls, od_p_fewest_calls, .func (PySem.W.fnOf "fewest_calls" "fewest_calls" (defArgs s_p_fewest_calls) (defBody s_p_fewest_calls) (defScope s_p_fewest_calls) .none kV_p_fewest_calls dc_p_fewest_calls pm_p_fewest_calls an_p_fewest_calls cd_p_fewest_calls ct_p_fewest_calls), sl_p_fewest_calls⟩) (c_p_fewest_calls : PySem.W.codeIn K cd_p_fewest_calls "fewest_calls" = true) (k_p_fewest_calls : PySem.W.keepIn K (.ref f_p_fewest_calls) = true)
    (a_p_undone_calls : PySem.W.nsIn K mainGlobals "undone_calls" = some (some (.ref f_p_undone_calls))) (l_p_undone_calls : K.lookup f_p_undone_calls = some ⟨oc_p_undone_calls, od_p_undone_calls, .func (PySem.W.fnOf "undone_calls" "undone_calls" (defArgs s_p_undone_calls) (defBody s_p_undone_calls) (defScope s_p_undone_calls) .none kV_p_undone_calls dc_p_undone_calls pm_p_undone_calls an_p_undone_calls cd_p_undone_calls ct_p_undone_calls), sl_p_undone_calls⟩) (c_p_undone_calls : PySem.W.codeIn K cd_p_undone_calls "undone_calls" = true) (k_p_undone_calls : PySem.W.keepIn K (.ref f_p_undone_calls) = true)
    (a_p_word_for : PySem.W.nsIn K mainGlobals "word_for" = some (some (.ref f_p_word_for))) (l_p_word_for : K.lookup f_p_word_for = some ⟨oc_p_word_for, od_p_word_for, .func (PySem.W.fnOf "word_for" "word_for" (defArgs s_p_word_for) (defBody s_p_word_for) (defScope s_p_word_for) .none kV_p_word_for dc_p_word_for pm_p_word_for an_p_word_for cd_p_word_for ct_p_word_for), sl_p_word_for⟩) (c_p_word_for : PySem.W.codeIn K cd_p_word_for "word_for" = true) (k_p_word_for : PySem.W.keepIn K (.ref f_p_word_for) = true)
    (a_stream : PySem.W.nsIn K mainGlobals "_law_stream" = some (some (.ref f_stream))) (l_stream : K.lookup f_stream = some ⟨oc_stream, od_stream, .func (PySem.W.fnOf "_law_stream" "_law_stream" (defArgs s_stream) (defBody s_stream) (defScope s_stream) .none kV_stream dc_stream pm_stream an_stream cd_stream ct_stream), sl_stream⟩) (c_stream : PySem.W.codeIn K cd_stream "_law_stream" = true) (k_stream : PySem.W.keepIn K (.ref f_stream) = true)
    (a_draw : PySem.W.nsIn K mainGlobals "_law_draw" = some (some (.ref f_draw))) (l_draw : K.lookup f_draw = some ⟨oc_draw, od_draw, .func (PySem.W.fnOf "_law_draw" "_law_draw" (defArgs s_draw) (defBody s_draw) (defScope s_draw) .none kV_draw dc_draw pm_draw an_draw cd_draw ct_draw), sl_draw⟩) (c_draw : PySem.W.codeIn K cd_draw "_law_draw" = true) (k_draw : PySem.W.keepIn K (.ref f_draw) = true)
    (a_folded : PySem.W.nsIn K mainGlobals "_law_folded" = some (some (.ref f_folded))) (l_folded : K.lookup f_folded = some ⟨oc_folded, od_folded, .func (PySem.W.fnOf "_law_folded" "_law_folded" (defArgs s_folded) (defBody s_folded) (defScope s_folded) .none kV_folded dc_folded pm_folded an_folded cd_folded ct_folded), sl_folded⟩) (c_folded : PySem.W.codeIn K cd_folded "_law_folded" = true) (k_folded : PySem.W.keepIn K (.ref f_folded) = true)
    (a_pick : PySem.W.nsIn K mainGlobals "_law_pick" = some (some (.ref f_pick))) (l_pick : K.lookup f_pick = some ⟨oc_pick, od_pick, .func (PySem.W.fnOf "_law_pick" "_law_pick" (defArgs s_pick) (defBody s_pick) (defScope s_pick) .none kV_pick dc_pick pm_pick an_pick cd_pick ct_pick), sl_pick⟩) (c_pick : PySem.W.codeIn K cd_pick "_law_pick" = true) (k_pick : PySem.W.keepIn K (.ref f_pick) = true)
    (a_all_calls : PySem.W.nsIn K mainGlobals "_law_all_calls" = some (some (.ref f_all_calls))) (l_all_calls : K.lookup f_all_calls = some ⟨oc_all_calls, od_all_calls, .func (PySem.W.fnOf "_law_all_calls" "_law_all_calls" (defArgs s_all_calls) (defBody s_all_calls) (defScope s_all_calls) .none kV_all_calls dc_all_calls pm_all_calls an_all_calls cd_all_calls ct_all_calls), sl_all_calls⟩) (c_all_calls : PySem.W.codeIn K cd_all_calls "_law_all_calls" = true) (k_all_calls : PySem.W.keepIn K (.ref f_all_calls) = true)
    (a_same : PySem.W.nsIn K mainGlobals "_law_same" = some (some (.ref f_same))) (l_same : K.lookup f_same = some ⟨oc_same, od_same, .func (PySem.W.fnOf "_law_same" "_law_same" (defArgs s_same) (defBody s_same) (defScope s_same) .none kV_same dc_same pm_same an_same cd_same ct_same), sl_same⟩) (c_same : PySem.W.codeIn K cd_same "_law_same" = true) (k_same : PySem.W.keepIn K (.ref f_same) = true)
    (a_shuffled : PySem.W.nsIn K mainGlobals "_law_shuffled" = some (some (.ref f_shuffled))) (l_shuffled : K.lookup f_shuffled = some ⟨oc_shuffled, od_shuffled, .func (PySem.W.fnOf "_law_shuffled" "_law_shuffled" (defArgs s_shuffled) (defBody s_shuffled) (defScope s_shuffled) .none kV_shuffled dc_shuffled pm_shuffled an_shuffled cd_shuffled ct_shuffled), sl_shuffled⟩) (c_shuffled : PySem.W.codeIn K cd_shuffled "_law_shuffled" = true) (k_shuffled : PySem.W.keepIn K (.ref f_shuffled) = true)
    (a_random_pairing : PySem.W.nsIn K mainGlobals "_law_random_pairing" = some (some (.ref f_random_pairing))) (l_random_pairing : K.lookup f_random_pairing = some ⟨oc_random_pairing, od_random_pairing, .func (PySem.W.fnOf "_law_random_pairing" "_law_random_pairing" (defArgs s_random_pairing) (defBody s_random_pairing) (defScope s_random_pairing) .none kV_random_pairing dc_random_pairing pm_random_pairing an_random_pairing cd_random_pairing ct_random_pairing), sl_random_pairing⟩) (c_random_pairing : PySem.W.codeIn K cd_random_pairing "_law_random_pairing" = true) (k_random_pairing : PySem.W.keepIn K (.ref f_random_pairing) = true)
    (a_random_call : PySem.W.nsIn K mainGlobals "_law_random_call" = some (some (.ref f_random_call))) (l_random_call : K.lookup f_random_call = some ⟨oc_random_call, od_random_call, .func (PySem.W.fnOf "_law_random_call" "_law_random_call" (defArgs s_random_call) (defBody s_random_call) (defScope s_random_call) .none kV_random_call dc_random_call pm_random_call an_random_call cd_random_call ct_random_call), sl_random_call⟩) (c_random_call : PySem.W.codeIn K cd_random_call "_law_random_call" = true) (k_random_call : PySem.W.keepIn K (.ref f_random_call) = true)
    (a_random_word : PySem.W.nsIn K mainGlobals "_law_random_word" = some (some (.ref f_random_word))) (l_random_word : K.lookup f_random_word = some ⟨oc_random_word, od_random_word, .func (PySem.W.fnOf "_law_random_word" "_law_random_word" (defArgs s_random_word) (defBody s_random_word) (defScope s_random_word) .none kV_random_word dc_random_word pm_random_word an_random_word cd_random_word ct_random_word), sl_random_word⟩) (c_random_word : PySem.W.codeIn K cd_random_word "_law_random_word" = true) (k_random_word : PySem.W.keepIn K (.ref f_random_word) = true)
    (a_joined_ends : PySem.W.nsIn K mainGlobals "_law_joined_ends" = some (some (.ref f_joined_ends))) (l_joined_ends : K.lookup f_joined_ends = some ⟨oc_joined_ends, od_joined_ends, .func (PySem.W.fnOf "_law_joined_ends" "_law_joined_ends" (defArgs s_joined_ends) (defBody s_joined_ends) (defScope s_joined_ends) .none kV_joined_ends dc_joined_ends pm_joined_ends an_joined_ends cd_joined_ends ct_joined_ends), sl_joined_ends⟩) (c_joined_ends : PySem.W.codeIn K cd_joined_ends "_law_joined_ends" = true) (k_joined_ends : PySem.W.keepIn K (.ref f_joined_ends) = true)
    (a_layers : PySem.W.nsIn K mainGlobals "_law_layers" = some (some (.ref f_layers))) (l_layers : K.lookup f_layers = some ⟨oc_layers, od_layers, .func (PySem.W.fnOf "_law_layers" "_law_layers" (defArgs s_layers) (defBody s_layers) (defScope s_layers) .none kV_layers dc_layers pm_layers an_layers cd_layers ct_layers), sl_layers⟩) (c_layers : PySem.W.codeIn K cd_layers "_law_layers" = true) (k_layers : PySem.W.keepIn K (.ref f_layers) = true)
    (a_loops : PySem.W.nsIn K mainGlobals "_law_loops" = some (some (.ref f_loops))) (l_loops : K.lookup f_loops = some ⟨oc_loops, od_loops, .func (PySem.W.fnOf "_law_loops" "_law_loops" (defArgs s_loops) (defBody s_loops) (defScope s_loops) .none kV_loops dc_loops pm_loops an_loops cd_loops ct_loops), sl_loops⟩) (c_loops : PySem.W.codeIn K cd_loops "_law_loops" = true) (k_loops : PySem.W.keepIn K (.ref f_loops) = true)
    (a_is_none : PySem.W.nsIn K mainGlobals "_law_is_none" = some (some (.ref f_is_none))) (l_is_none : K.lookup f_is_none = some ⟨oc_is_none, od_is_none, .func (PySem.W.fnOf "_law_is_none" "_law_is_none" (defArgs s_is_none) (defBody s_is_none) (defScope s_is_none) .none kV_is_none dc_is_none pm_is_none an_is_none cd_is_none ct_is_none), sl_is_none⟩) (c_is_none : PySem.W.codeIn K cd_is_none "_law_is_none" = true) (k_is_none : PySem.W.keepIn K (.ref f_is_none) = true)
    (a_page_right : PySem.W.nsIn K mainGlobals "_law_page_right" = some (some (.ref f_page_right))) (l_page_right : K.lookup f_page_right = some ⟨oc_page_right, od_page_right, .func (PySem.W.fnOf "_law_page_right" "_law_page_right" (defArgs s_page_right) (defBody s_page_right) (defScope s_page_right) .none kV_page_right dc_page_right pm_page_right an_page_right cd_page_right ct_page_right), sl_page_right⟩) (c_page_right : PySem.W.codeIn K cd_page_right "_law_page_right" = true) (k_page_right : PySem.W.keepIn K (.ref f_page_right) = true)
    (a_right : PySem.W.nsIn K mainGlobals "_law_right" = some (some (.ref f_right))) (l_right : K.lookup f_right = some ⟨oc_right, od_right, .func (PySem.W.fnOf "_law_right" "_law_right" (defArgs s_right) (defBody s_right) (defScope s_right) .none kV_right dc_right pm_right an_right cd_right ct_right), sl_right⟩) (c_right : PySem.W.codeIn K cd_right "_law_right" = true) (k_right : PySem.W.keepIn K (.ref f_right) = true)
    (a_law : PySem.W.nsIn K mainGlobals "law" = some (some (.ref f_law))) (l_law : K.lookup f_law = some ⟨oc_law, od_law, .func (PySem.W.fnOf "law" "law" (defArgs s_law) (defBody s_law) (defScope s_law) .none kV_law dc_law pm_law an_law cd_law ct_law), sl_law⟩) (c_law : PySem.W.codeIn K cd_law "law" = true) (k_law : PySem.W.keepIn K (.ref f_law) = true)
    (aC_NoWord : PySem.W.nsIn K mainGlobals "NoWord" = some (some (.ref C_NoWord)))
    (eC_NoWord : PySem.W.subIn K (.ref C_NoWord) (.type "BaseException") = some true)
    (tC_NoWord : PySem.W.typeIn K (.ref C_NoWord) = some (.type "type"))
    (is_NoWord : PySem.W.isClsIn K C_NoWord = true)
    (aC_NoNumber : PySem.W.nsIn K mainGlobals "NoNumber" = some (some (.ref C_NoNumber)))
    (eC_NoNumber : PySem.W.subIn K (.ref C_NoNumber) (.type "BaseException") = some true)
    (tC_NoNumber : PySem.W.typeIn K (.ref C_NoNumber) = some (.type "type"))
    (is_NoNumber : PySem.W.isClsIn K C_NoNumber = true)
    (xC_NoWord : K.lookup C_NoWord = some (excClassObj nm_NoWord qn_NoWord C_NoWord Nn_NoWord bs_NoWord [.type "ValueError", .type "Exception", .type "BaseException", .type "object"] true sn_NoWord sub_NoWord ab_NoWord col_NoWord dd_NoWord m0_NoWord m1_NoWord m2_NoWord m3_NoWord m5_NoWord "ValueError.__new__"))
    (sa_NoWord : PySem.W.findIn K (.ref C_NoWord) "__setattr__" = some (some (.builtin "object.__setattr__")))
    (ga_NoWord : PySem.W.findIn K (.ref C_NoWord) "__getattribute__" = some (some (.builtin "BaseException.__getattribute__")))
    (gg_NoWord : PySem.W.findIn K (.ref C_NoWord) "__getattr__" = some none)
    (kC_NoWord : PySem.W.keepIn K (.ref C_NoWord) = true)
    (hC_NoWord : PySem.W.hasDictIn K C_NoWord = true)
    (cl_NoWord : PySem.W.findIn K (.ref C_NoWord) "__class__" = some (some (.builtin "object.__class__")))
    (mr_NoWord : PySem.W.mroIn K C_NoWord (.type "object") = some true)
    (iC_NoWord : PySem.W.findIn K (.ref C_NoWord) "__init__" = some (some (.ref f_i_NoWord)))
    (tI_NoWord : PySem.W.typeIn K (.ref f_i_NoWord) = some (.type "function"))
    (lI_NoWord : K.lookup f_i_NoWord = some ⟨oc_i_NoWord, od_i_NoWord, .func (PySem.W.fnOf "__init__" "NoWord.__init__" (defArgs s_i_NoWord) (defBody s_i_NoWord) (defScope s_i_NoWord) .none kV_i_NoWord dc_i_NoWord pm_i_NoWord an_i_NoWord cd_i_NoWord ct_i_NoWord), sl_i_NoWord⟩)
    (cI_NoWord : PySem.W.codeIn K cd_i_NoWord "NoWord.__init__" = true)
    (kI_NoWord : PySem.W.keepIn K (.ref f_i_NoWord) = true)
    (su_NoWord : PySem.W.subIn K (.ref C_NoWord) (.ref C_NoWord) = some true)
    (su_NoWord_NoNumber : PySem.W.subIn K (.ref C_NoWord) (.ref C_NoNumber) = some false)
    (sb_NoWord_ValueError : PySem.W.subIn K (.ref C_NoWord) (.type "ValueError") = some true)
    (vV_ValueError : PySem.W.findCls K (.type "ValueError") (.type "type") "__init__" = some (.val (.builtin "ValueError.__init__")))
    (spG : PySem.W.specialIn K (.builtin "object.__class__") "__get__" = some (some (.builtin "getset_descriptor.__get__")))
    (tkG : PySem.W.takesIn K (.builtin "object.__class__") = some true)
    (z_len : PySem.W.nsIn K mainGlobals "len" = some none) (z_tuple : PySem.W.nsIn K mainGlobals "tuple" = some none) (z_list : PySem.W.nsIn K mainGlobals "list" = some none) (z_range : PySem.W.nsIn K mainGlobals "range" = some none) (z_sorted : PySem.W.nsIn K mainGlobals "sorted" = some none) (z_set : PySem.W.nsIn K mainGlobals "set" = some none) (z_all : PySem.W.nsIn K mainGlobals "all" = some none) (z_abs : PySem.W.nsIn K mainGlobals "abs" = some none) (z_int : PySem.W.nsIn K mainGlobals "int" = some none) (z_enumerate : PySem.W.nsIn K mainGlobals "enumerate" = some none) (z_isinstance : PySem.W.nsIn K mainGlobals "isinstance" = some none) (z_zip : PySem.W.nsIn K mainGlobals "zip" = some none) (z_bool : PySem.W.nsIn K mainGlobals "bool" = some none) (z_str : PySem.W.nsIn K mainGlobals "str" = some none) (z_min : PySem.W.nsIn K mainGlobals "min" = some none) (z_max : PySem.W.nsIn K mainGlobals "max" = some none) (z_ValueError : PySem.W.nsIn K mainGlobals "ValueError" = some none) :
    ∃ fd : FuncData, (∀ (s : Shared) (v : Value), BindsTo s fd ⟨[v], []⟩ [("_law_script", v)]) ∧ ∀ base : Heap, K.In base → base.Ns mainGlobals mg → FnOk l.prog w K mg base CX0 9 fa fd ["_law_script"] (spLaw K) := by
  have e := hfa.symm.trans (PySem.W.mg_of X G a_law)
  cases e
  let T : Env K mg := {
    n_len := PySem.W.mg_none_of X G z_len,
    n_tuple := PySem.W.mg_none_of X G z_tuple,
    n_list := PySem.W.mg_none_of X G z_list,
    n_range := PySem.W.mg_none_of X G z_range,
    n_sorted := PySem.W.mg_none_of X G z_sorted,
    n_set := PySem.W.mg_none_of X G z_set,
    n_all := PySem.W.mg_none_of X G z_all,
    n_abs := PySem.W.mg_none_of X G z_abs,
    n_int := PySem.W.mg_none_of X G z_int,
    n_enumerate := PySem.W.mg_none_of X G z_enumerate,
    n_isinstance := PySem.W.mg_none_of X G z_isinstance,
    n_zip := PySem.W.mg_none_of X G z_zip,
    n_bool := PySem.W.mg_none_of X G z_bool,
    n_str := PySem.W.mg_none_of X G z_str,
    n_min := PySem.W.mg_none_of X G z_min,
    n_max := PySem.W.mg_none_of X G z_max,
    n_ValueError := PySem.W.mg_none_of X G z_ValueError,
    f_p_check_person := f_p_check_person, d_p_check_person := _, F_p_check_person := fun_mk (st := s_p_check_person) l_p_check_person c_p_check_person k_p_check_person, g_p_check_person := PySem.W.mg_of X G a_p_check_person,
    f_p_check_call := f_p_check_call, d_p_check_call := _, F_p_check_call := fun_mk (st := s_p_check_call) l_p_check_call c_p_check_call k_p_check_call, g_p_check_call := PySem.W.mg_of X G a_p_check_call,
    f_p_check_word := f_p_check_word, d_p_check_word := _, F_p_check_word := fun_mk (st := s_p_check_word) l_p_check_word c_p_check_word k_p_check_word, g_p_check_word := PySem.W.mg_of X G a_p_check_word,
    f_p_join_two := f_p_join_two, d_p_join_two := _, F_p_join_two := fun_mk (st := s_p_join_two) l_p_join_two c_p_join_two k_p_join_two, g_p_join_two := PySem.W.mg_of X G a_p_join_two,
    f_p_people_of := f_p_people_of, d_p_people_of := _, F_p_people_of := fun_mk (st := s_p_people_of) l_p_people_of c_p_people_of k_p_people_of, g_p_people_of := PySem.W.mg_of X G a_p_people_of,
    f_p_empty_sheet := f_p_empty_sheet, d_p_empty_sheet := _, F_p_empty_sheet := fun_mk (st := s_p_empty_sheet) l_p_empty_sheet c_p_empty_sheet k_p_empty_sheet, g_p_empty_sheet := PySem.W.mg_of X G a_p_empty_sheet,
    f_p_with_word := f_p_with_word, d_p_with_word := _, F_p_with_word := fun_mk (st := s_p_with_word) l_p_with_word c_p_with_word k_p_with_word, g_p_with_word := PySem.W.mg_of X G a_p_with_word,
    f_p_with_call := f_p_with_call, d_p_with_call := _, F_p_with_call := fun_mk (st := s_p_with_call) l_p_with_call c_p_with_call k_p_with_call, g_p_with_call := PySem.W.mg_of X G a_p_with_call,
    f_p_lower_pairs := f_p_lower_pairs, d_p_lower_pairs := _, F_p_lower_pairs := fun_mk (st := s_p_lower_pairs) l_p_lower_pairs c_p_lower_pairs k_p_lower_pairs, g_p_lower_pairs := PySem.W.mg_of X G a_p_lower_pairs,
    f_p_other_side := f_p_other_side, d_p_other_side := _, F_p_other_side := fun_mk (st := s_p_other_side) l_p_other_side c_p_other_side k_p_other_side, g_p_other_side := PySem.W.mg_of X G a_p_other_side,
    f_p_loop_of := f_p_loop_of, d_p_loop_of := _, F_p_loop_of := fun_mk (st := s_p_loop_of) l_p_loop_of c_p_loop_of k_p_loop_of, g_p_loop_of := PySem.W.mg_of X G a_p_loop_of,
    f_p_loops := f_p_loops, d_p_loops := _, F_p_loops := fun_mk (st := s_p_loops) l_p_loops c_p_loops k_p_loops, g_p_loops := PySem.W.mg_of X G a_p_loops,
    f_p_is_pure := f_p_is_pure, d_p_is_pure := _, F_p_is_pure := fun_mk (st := s_p_is_pure) l_p_is_pure c_p_is_pure k_p_is_pure, g_p_is_pure := PySem.W.mg_of X G a_p_is_pure,
    f_p_pure_loops := f_p_pure_loops, d_p_pure_loops := _, F_p_pure_loops := fun_mk (st := s_p_pure_loops) l_p_pure_loops c_p_pure_loops k_p_pure_loops, g_p_pure_loops := PySem.W.mg_of X G a_p_pure_loops,
    f_p_has_word := f_p_has_word, d_p_has_word := _, F_p_has_word := fun_mk (st := s_p_has_word) l_p_has_word c_p_has_word k_p_has_word, g_p_has_word := PySem.W.mg_of X G a_p_has_word,
    f_p_fewest_calls := f_p_fewest_calls, d_p_fewest_calls := _, F_p_fewest_calls := fun_mk (st := s_p_fewest_calls) l_p_fewest_calls c_p_fewest_calls k_p_fewest_calls, g_p_fewest_calls := PySem.W.mg_of X G a_p_fewest_calls,
    f_p_undone_calls := f_p_undone_calls, d_p_undone_calls := _, F_p_undone_calls := fun_mk (st := s_p_undone_calls) l_p_undone_calls c_p_undone_calls k_p_undone_calls, g_p_undone_calls := PySem.W.mg_of X G a_p_undone_calls,
    f_p_word_for := f_p_word_for, d_p_word_for := _, F_p_word_for := fun_mk (st := s_p_word_for) l_p_word_for c_p_word_for k_p_word_for, g_p_word_for := PySem.W.mg_of X G a_p_word_for,
    f_stream := f_stream, d_stream := _, F_stream := fun_mk (st := s_stream) l_stream c_stream k_stream, g_stream := PySem.W.mg_of X G a_stream,
    f_draw := f_draw, d_draw := _, F_draw := fun_mk (st := s_draw) l_draw c_draw k_draw, g_draw := PySem.W.mg_of X G a_draw,
    f_folded := f_folded, d_folded := _, F_folded := fun_mk (st := s_folded) l_folded c_folded k_folded, g_folded := PySem.W.mg_of X G a_folded,
    f_pick := f_pick, d_pick := _, F_pick := fun_mk (st := s_pick) l_pick c_pick k_pick, g_pick := PySem.W.mg_of X G a_pick,
    f_all_calls := f_all_calls, d_all_calls := _, F_all_calls := fun_mk (st := s_all_calls) l_all_calls c_all_calls k_all_calls, g_all_calls := PySem.W.mg_of X G a_all_calls,
    f_same := f_same, d_same := _, F_same := fun_mk (st := s_same) l_same c_same k_same, g_same := PySem.W.mg_of X G a_same,
    f_shuffled := f_shuffled, d_shuffled := _, F_shuffled := fun_mk (st := s_shuffled) l_shuffled c_shuffled k_shuffled, g_shuffled := PySem.W.mg_of X G a_shuffled,
    f_random_pairing := f_random_pairing, d_random_pairing := _, F_random_pairing := fun_mk (st := s_random_pairing) l_random_pairing c_random_pairing k_random_pairing, g_random_pairing := PySem.W.mg_of X G a_random_pairing,
    f_random_call := f_random_call, d_random_call := _, F_random_call := fun_mk (st := s_random_call) l_random_call c_random_call k_random_call, g_random_call := PySem.W.mg_of X G a_random_call,
    f_random_word := f_random_word, d_random_word := _, F_random_word := fun_mk (st := s_random_word) l_random_word c_random_word k_random_word, g_random_word := PySem.W.mg_of X G a_random_word,
    f_joined_ends := f_joined_ends, d_joined_ends := _, F_joined_ends := fun_mk (st := s_joined_ends) l_joined_ends c_joined_ends k_joined_ends, g_joined_ends := PySem.W.mg_of X G a_joined_ends,
    f_layers := f_layers, d_layers := _, F_layers := fun_mk (st := s_layers) l_layers c_layers k_layers, g_layers := PySem.W.mg_of X G a_layers,
    f_loops := f_loops, d_loops := _, F_loops := fun_mk (st := s_loops) l_loops c_loops k_loops, g_loops := PySem.W.mg_of X G a_loops,
    f_is_none := f_is_none, d_is_none := _, F_is_none := fun_mk (st := s_is_none) l_is_none c_is_none k_is_none, g_is_none := PySem.W.mg_of X G a_is_none,
    f_page_right := f_page_right, d_page_right := _, F_page_right := fun_mk (st := s_page_right) l_page_right c_page_right k_page_right, g_page_right := PySem.W.mg_of X G a_page_right,
    f_right := f_right, d_right := _, F_right := fun_mk (st := s_right) l_right c_right k_right, g_right := PySem.W.mg_of X G a_right,
    C_NoWord := C_NoWord, gC_NoWord := PySem.W.mg_of X G aC_NoWord,
    C_NoNumber := C_NoNumber, gC_NoNumber := PySem.W.mg_of X G aC_NoNumber,
    own_NoWord := ⟨⟨nm_NoWord, qn_NoWord, Nn_NoWord, bs_NoWord, sn_NoWord, sub_NoWord, ab_NoWord, col_NoWord, dd_NoWord, m0_NoWord, m1_NoWord, m2_NoWord, m3_NoWord, m5_NoWord, xC_NoWord⟩, over_of xC_NoWord (by decide +kernel), sa_NoWord, ga_NoWord, gg_NoWord, eC_NoWord, tC_NoWord, kC_NoWord, hC_NoWord, cl_NoWord, mr_NoWord⟩,
    kpt_NoWord := ⟨ga_NoWord, gg_NoWord, eC_NoWord, hC_NoWord, cl_NoWord, mr_NoWord, spG, tkG⟩,
    f_i_NoWord := f_i_NoWord, d_i_NoWord := _, F_i_NoWord := fun_mk (st := s_i_NoWord) lI_NoWord cI_NoWord kI_NoWord, iC_NoWord := iC_NoWord, tI_NoWord := tI_NoWord, ee_NoWord := exm_of' eC_NoWord is_NoWord tC_NoWord su_NoWord, kk_NoWord := kit_own su_NoWord is_NoWord tC_NoWord su_NoWord,
    ex_NoWord_NoNumber := exm_of' eC_NoNumber is_NoNumber tC_NoNumber su_NoWord_NoNumber, ki_NoWord_NoNumber := kit_own su_NoWord is_NoNumber tC_NoNumber su_NoWord_NoNumber,
    kb_NoWord_ValueError := kit_blt (by decide +kernel) sb_NoWord_ValueError,
    vV_ValueError := vV_ValueError }
  exact ⟨PySem.W.fnOf "law" "law" (defArgs s_law) (defBody s_law) (defScope s_law) .none kV_law dc_law pm_law an_law cd_law ct_law, fun s v => .of_eq rfl, fun base _ _ => ok_law T (fun_mk (st := s_law) l_law c_law k_law)⟩
end Pc
open PySem PySem.W PyProof.Rows
set_option maxHeartbeats 0 in
theorem PySem.Challenge.cw_partnercall_k80_whole_fewest_calls_of_sh_holds : PySem.Challenge.rw_partnercall_k80_whole_fewest_calls_of_sh.Holds := by
  w_on; o_law; k_head; (case hw => w_witness2)
  k_fill
  refine L2.walk_of (l := PySem.Challenge.rw_partnercall_k80_whole_fewest_calls_of_sh) (n := 63) (k := 9) (x := "_law_script") (CX := fun _ => L2.CX0) (sp := fun w => Pc.spLaw _) rfl (by decide) rfl ⟨rfl, by decide, by decide⟩ (fun w h Y => PySem.W.kIn_of Y) ?F (fun _ _ a ns hl _ hS => ⟨a, ns, rfl, hS, hl, fun _ => rfl⟩) (fun _ _ _ _ _ h => h)
  case F =>
    intro w mg fa h KX G hmg
    refine' Pc.all_mk KX G hmg ?a_p_check_person ?l_p_check_person ?c_p_check_person ?k_p_check_person ?a_p_check_call ?l_p_check_call ?c_p_check_call ?k_p_check_call ?a_p_check_word ?l_p_check_word ?c_p_check_word ?k_p_check_word ?a_p_join_two ?l_p_join_two ?c_p_join_two ?k_p_join_two ?a_p_people_of ?l_p_people_of ?c_p_people_of ?k_p_people_of ?a_p_empty_sheet ?l_p_empty_sheet ?c_p_empty_sheet ?k_p_empty_sheet ?a_p_with_word ?l_p_with_word ?c_p_with_word ?k_p_with_word ?a_p_with_call ?l_p_with_call ?c_p_with_call ?k_p_with_call ?a_p_lower_pairs ?l_p_lower_pairs ?c_p_lower_pairs ?k_p_lower_pairs ?a_p_other_side ?l_p_other_side ?c_p_other_side ?k_p_other_side ?a_p_loop_of ?l_p_loop_of ?c_p_loop_of ?k_p_loop_of ?a_p_loops ?l_p_loops ?c_p_loops ?k_p_loops ?a_p_is_pure ?l_p_is_pure ?c_p_is_pure ?k_p_is_pure ?a_p_pure_loops ?l_p_pure_loops ?c_p_pure_loops ?k_p_pure_loops ?a_p_has_word ?l_p_has_word ?c_p_has_word ?k_p_has_word ?a_p_fewest_calls ?l_p_fewest_calls ?c_p_fewest_calls ?k_p_fewest_calls ?a_p_undone_calls ?l_p_undone_calls ?c_p_undone_calls ?k_p_undone_calls ?a_p_word_for ?l_p_word_for ?c_p_word_for ?k_p_word_for ?a_stream ?l_stream ?c_stream ?k_stream ?a_draw ?l_draw ?c_draw ?k_draw ?a_folded ?l_folded ?c_folded ?k_folded ?a_pick ?l_pick ?c_pick ?k_pick ?a_all_calls ?l_all_calls ?c_all_calls ?k_all_calls ?a_same ?l_same ?c_same ?k_same ?a_shuffled ?l_shuffled ?c_shuffled ?k_shuffled ?a_random_pairing ?l_random_pairing ?c_random_pairing ?k_random_pairing ?a_random_call ?l_random_call ?c_random_call ?k_random_call ?a_random_word ?l_random_word ?c_random_word ?k_random_word ?a_joined_ends ?l_joined_ends ?c_joined_ends ?k_joined_ends ?a_layers ?l_layers ?c_layers ?k_layers ?a_loops ?l_loops ?c_loops ?k_loops ?a_is_none ?l_is_none ?c_is_none ?k_is_none ?a_page_right ?l_page_right ?c_page_right ?k_page_right ?a_right ?l_right ?c_right ?k_right ?a_law ?l_law ?c_law ?k_law ?aC_NoWord ?eC_NoWord ?tC_NoWord ?is_NoWord ?aC_NoNumber ?eC_NoNumber ?tC_NoNumber ?is_NoNumber ?xC_NoWord ?sa_NoWord ?ga_NoWord ?gg_NoWord ?kC_NoWord ?hC_NoWord ?cl_NoWord ?mr_NoWord ?iC_NoWord ?tI_NoWord ?lI_NoWord ?cI_NoWord ?kI_NoWord ?su_NoWord ?su_NoWord_NoNumber ?sb_NoWord_ValueError ?vV_ValueError ?spG ?tkG ?z_len ?z_tuple ?z_list ?z_range ?z_sorted ?z_set ?z_all ?z_abs ?z_int ?z_enumerate ?z_isinstance ?z_zip ?z_bool ?z_str ?z_min ?z_max ?z_ValueError
    (case a_p_check_person => k_is); (case l_p_check_person => k_is); (case c_p_check_person => k_is); (case k_p_check_person => k_is); (case a_p_check_call => k_is); (case l_p_check_call => k_is); (case c_p_check_call => k_is); (case k_p_check_call => k_is); (case a_p_check_word => k_is); (case l_p_check_word => k_is); (case c_p_check_word => k_is); (case k_p_check_word => k_is); (case a_p_join_two => k_is); (case l_p_join_two => k_is); (case c_p_join_two => k_is); (case k_p_join_two => k_is); (case a_p_people_of => k_is); (case l_p_people_of => k_is); (case c_p_people_of => k_is); (case k_p_people_of => k_is); (case a_p_empty_sheet => k_is); (case l_p_empty_sheet => k_is); (case c_p_empty_sheet => k_is); (case k_p_empty_sheet => k_is); (case a_p_with_word => k_is); (case l_p_with_word => k_is); (case c_p_with_word => k_is); (case k_p_with_word => k_is); (case a_p_with_call => k_is); (case l_p_with_call => k_is); (case c_p_with_call => k_is); (case k_p_with_call => k_is); (case a_p_lower_pairs => k_is); (case l_p_lower_pairs => k_is); (case c_p_lower_pairs => k_is); (case k_p_lower_pairs => k_is); (case a_p_other_side => k_is); (case l_p_other_side => k_is); (case c_p_other_side => k_is); (case k_p_other_side => k_is); (case a_p_loop_of => k_is); (case l_p_loop_of => k_is); (case c_p_loop_of => k_is); (case k_p_loop_of => k_is); (case a_p_loops => k_is); (case l_p_loops => k_is); (case c_p_loops => k_is); (case k_p_loops => k_is); (case a_p_is_pure => k_is); (case l_p_is_pure => k_is); (case c_p_is_pure => k_is); (case k_p_is_pure => k_is); (case a_p_pure_loops => k_is); (case l_p_pure_loops => k_is); (case c_p_pure_loops => k_is); (case k_p_pure_loops => k_is); (case a_p_has_word => k_is); (case l_p_has_word => k_is); (case c_p_has_word => k_is); (case k_p_has_word => k_is); (case a_p_fewest_calls => k_is); (case l_p_fewest_calls => k_is); (case c_p_fewest_calls => k_is); (case k_p_fewest_calls => k_is); (case a_p_undone_calls => k_is); (case l_p_undone_calls => k_is); (case c_p_undone_calls => k_is); (case k_p_undone_calls => k_is); (case a_p_word_for => k_is); (case l_p_word_for => k_is); (case c_p_word_for => k_is); (case k_p_word_for => k_is); (case a_stream => k_is); (case l_stream => k_is); (case c_stream => k_is); (case k_stream => k_is); (case a_draw => k_is); (case l_draw => k_is); (case c_draw => k_is); (case k_draw => k_is); (case a_folded => k_is); (case l_folded => k_is); (case c_folded => k_is); (case k_folded => k_is); (case a_pick => k_is); (case l_pick => k_is); (case c_pick => k_is); (case k_pick => k_is); (case a_all_calls => k_is); (case l_all_calls => k_is); (case c_all_calls => k_is); (case k_all_calls => k_is); (case a_same => k_is); (case l_same => k_is); (case c_same => k_is); (case k_same => k_is); (case a_shuffled => k_is); (case l_shuffled => k_is); (case c_shuffled => k_is); (case k_shuffled => k_is); (case a_random_pairing => k_is); (case l_random_pairing => k_is); (case c_random_pairing => k_is); (case k_random_pairing => k_is); (case a_random_call => k_is); (case l_random_call => k_is); (case c_random_call => k_is); (case k_random_call => k_is); (case a_random_word => k_is); (case l_random_word => k_is); (case c_random_word => k_is); (case k_random_word => k_is); (case a_joined_ends => k_is); (case l_joined_ends => k_is); (case c_joined_ends => k_is); (case k_joined_ends => k_is); (case a_layers => k_is); (case l_layers => k_is); (case c_layers => k_is); (case k_layers => k_is); (case a_loops => k_is); (case l_loops => k_is); (case c_loops => k_is); (case k_loops => k_is); (case a_is_none => k_is); (case l_is_none => k_is); (case c_is_none => k_is); (case k_is_none => k_is); (case a_page_right => k_is); (case l_page_right => k_is); (case c_page_right => k_is); (case k_page_right => k_is); (case a_right => k_is); (case l_right => k_is); (case c_right => k_is); (case k_right => k_is); (case a_law => k_is); (case l_law => k_is); (case c_law => k_is); (case k_law => k_is); (case aC_NoWord => k_is); (case eC_NoWord => k_is); (case tC_NoWord => k_is); (case is_NoWord => k_is); (case aC_NoNumber => k_is); (case eC_NoNumber => k_is); (case tC_NoNumber => k_is); (case is_NoNumber => k_is); (case xC_NoWord => k_is); (case sa_NoWord => k_is); (case ga_NoWord => k_is); (case gg_NoWord => k_is); (case kC_NoWord => k_is); (case hC_NoWord => k_is); (case cl_NoWord => k_is); (case mr_NoWord => k_is); (case iC_NoWord => k_is); (case tI_NoWord => k_is); (case lI_NoWord => k_is); (case cI_NoWord => k_is); (case kI_NoWord => k_is); (case su_NoWord => k_is); (case su_NoWord_NoNumber => k_is); (case sb_NoWord_ValueError => k_is); (case vV_ValueError => k_is); (case spG => k_is); (case tkG => k_is); (case z_len => k_is); (case z_tuple => k_is); (case z_list => k_is); (case z_range => k_is); (case z_sorted => k_is); (case z_set => k_is); (case z_all => k_is); (case z_abs => k_is); (case z_int => k_is); (case z_enumerate => k_is); (case z_isinstance => k_is); (case z_zip => k_is); (case z_bool => k_is); (case z_str => k_is); (case z_min => k_is); (case z_max => k_is); (case z_ValueError => k_is)
