import PyProof.Rows.All
import Wide.All
import OpenK.AllK
import Wide.FinOn
import HandS.ForMost
import HandS.IsInst
import HandS.Zip
import HandS.Style
import HandS.Walk
import HandS.Flow
import HandS.Conv
import HandS.RaiseMore
import HandS.NoneIn
import HandS.WordsList
import HandS.Deep
import HandS.Exc
import HandS.ExcOwn
import HandS.WordsExc
import HandS.ExcInit
import HandS.ExcIs
import KE.KExcIs
import KE.KExcInit
import KE.KTryMore
import HandS.SortRule
import HandS.SortInts
import HandS.Strs
import PySem.Challenge.RW_partnercall_k40_cycles_of_two_pairings
set_option Elab.async false
set_option linter.all false
set_option maxRecDepth 100000
set_option maxHeartbeats 4000000
namespace RZ
end RZ
namespace Pc
open PySem PySem.Spec PyProof.Rows L2 RZ
/-! ### heaps -/
/-- all that was tracked, but for b, is as it was -/
def Keep (b : Addr) (H H' : Hp) : Prop := ∀ a o, a ≠ b → H a = some o → H' a = some o
theorem Keep.refl (b : Addr) (H : Hp) : Keep b H H := fun _ _ _ h => h
theorem Keep.trans {b : Addr} {H H1 H2 : Hp} (p : Keep b H H1) (q : Keep b H1 H2) : Keep b H H2 := fun a o n h => q a o n (p a o n h)
theorem Keep.of_same {b : Addr} {H H' : Hp} (s : Same H H') : Keep b H H' := fun a o _ h => s a o h
theorem same_new {H : Hp} {p : Addr} {o : HO} (h : H p = none) : Same H (upd H p o) := fun b x e => by
  rw [upd_ne (ne_of_none e h)]; exact e
theorem keep_upd {H : Hp} {b : Addr} {o : HO} : Keep b H (upd H b o) := fun a x n e => by
  rw [upd_ne n]; exact e
/-- a list, a tuple under Keep -/
theorem Keep.tup {b : Addr} {H H' : Hp} (k : Keep b H H') {a : Addr} {xs ys : List V} (hb : H b = some (.lst ys)) (h : H a = some (.tup xs)) : H' a = some (.tup xs) :=
  k a _ (fun e => by rw [e, hb] at h; cases h) h
/-! ### small numbers -/
theorem one0 (c : Prop) [Decidable c] : (0 : Int) ≤ (if c then 1 else 0) ∧ (if c then (1 : Int) else 0) ≤ 1 := by
  split <;> decide
theorem in64 {i : Int} (h : 0 ≤ i ∧ i ≤ 1) : -(2 ^ 64) < i ∧ i < 2 ^ 64 := ⟨by omega, by omega⟩
/-! ### the source of draws -/
/-- at b a source that serves n more draws -/
def Box (n : Nat) (H : Hp) (b : Addr) : Prop := ∃ x y z : Int, H b = some (.lst [.int x, .int y, .int z]) ∧ 0 ≤ x ∧ 0 ≤ y ∧ y < 2 ^ 62 ∧ 0 ≤ z ∧ z + n ≤ 1000000000
theorem Box.lst {n : Nat} {H : Hp} {b : Addr} (h : Box n H b) : ∃ ys, H b = some (.lst ys) := let ⟨_, _, _, e, _⟩ := h; ⟨_, e⟩
theorem Box.mono {n m : Nat} {H : Hp} {b : Addr} (h : Box n H b) (l : m ≤ n) : Box m H b := by
  obtain ⟨x, y, z, e, h1, h2, h3, h4, h5⟩ := h
  exact ⟨x, y, z, e, h1, h2, h3, h4, by omega⟩
theorem Box.same {n : Nat} {H H' : Hp} {b : Addr} (h : Box n H b) (s : Same H H') : Box n H' b := by
  obtain ⟨x, y, z, e, r⟩ := h
  exact ⟨x, y, z, s _ _ e, r⟩
theorem Box.keep {n : Nat} {H H' : Hp} {b c : Addr} (h : Box n H b) (k : Keep c H H') (d : b ≠ c) : Box n H' b := by
  obtain ⟨x, y, z, e, r⟩ := h
  exact ⟨x, y, z, k _ _ d e, r⟩
theorem Box.ne_new {n : Nat} {H : Hp} {b p : Addr} (h : Box n H b) (np : H p = none) : b ≠ p := by
  obtain ⟨x, y, z, e, r⟩ := h
  exact ne_of_none e np
theorem Box.ne_tup {n : Nat} {H : Hp} {b p : Addr} {xs : List V} (h : Box n H b) (e2 : H p = some (.tup xs)) : p ≠ b := by
  obtain ⟨x, y, z, e, r⟩ := h
  intro q; rw [q, e] at e2; cases e2
end Pc
namespace Pc
open PySem PySem.Spec PyProof.Rows L2 RZ
/-! ### errors of the program: made -/
section
open PySem.W Builtin Builtin.ObjectAttr
variable {prog : Program} {w : World} {A : Around} {R : Result → Shared → Prop} {hp : Heap} {g : Array GenState} {d : Drawn} {t : Nat} {os : OsState} {B : String} {bmB : List Value}
/-- the first field of an error that has no dict yet -/
theorem osa_first {K : Frag} {f : Str} {tk : Tok} {v : Value} {x C : Addr} {fv : Array Value} {cd : ClassData} (SF : StoreFacts B bmB "object.__setattr__" "object") (X : K.In hp)
    (hx : hp.get? x = some { cls := .ref C, data := .fields fv }) (hcd : clsIn K C = some cd) (ho : excOver K C bmB = true) (hh : cd.hasDict = true) (hf : takerIn K C f = some none)
    (hq : ∀ h' tk' dx, (∀ b o, b ≠ x → hp.get? b = some o → h'.get? b = some o) → hp.objs.size ≤ dx → dx ≠ x →
      h'.get? x = some { cls := .ref C, dict := some dx, data := .fields fv } → h'.Ns1 dx (fun y => if y = f then some v else none) → R (.ok (.ret .none)) ⟨h', g, d, tk', os⟩) :
    codeAny (model prog w) A (.call (.builtin "object.__setattr__") ⟨[.ref x, .str f tk, v], []⟩) R ⟨hp, g, d, t, os⟩ := by
  have hne : x ≠ hp.objs.size := fun e => absurd (Heap.lt_size hx) (by rw [← e]; exact Nat.lt_irrefl x)
  have LC : Looks (model prog w) hp (classData C) cd := looks_clsIn X hcd
  refine osa_openX (s := ⟨hp, g, d, t, os⟩) (od := none) SF X ⟨hx, rfl, rfl, trivial⟩ ho hf fun b => ?_
  obtain ⟨c1, c2, c3, c4, c5, c6, c7, c8, c9, c10, c11⟩ := cd
  dsimp only at hh; subst hh
  dsimp only
  unfold storeInOwnDict ownDictForStores
  repeat (first | with_reducible refine HandSPX.store_in_new ?_ ?_ | with_reducible refine wpAny_loadPart_at hx ?_ | with_reducible refine LC.at ?_ | wp_step)
  · exact ⟨_, #[], _, (Heap.get?_update_ne _ _ _ _ hne.symm).trans (Heap.get?_push_at rfl rfl), rfl, fun e he => absurd he (by simp), fun _ => rfl⟩
  · intro h' tk' n1 n2
    refine hq h' tk' hp.objs.size (fun b o q r => ?_) (Nat.le_refl _) hne.symm ?_ n1
    · exact (n2.2 b (Nat.ne_of_lt (Heap.lt_size r))).trans ((Heap.get?_update_ne _ _ _ _ q).trans (Heap.get?_push_of_some _ r))
    · exact (n2.2 x hne).trans (Heap.get?_update_self _ (Heap.get?_push_of_some _ hx) rfl)
end
/-- what is known of a built-in error class -/
structure Bs (B newId initId : String) (bmB : List Value) : Prop where
  fb : ExcBaseFacts B newId initId bmB
  sf : StoreFacts B bmB "object.__setattr__" "object"
theorem bsV : Bs "ValueError" "ValueError.__new__" "ValueError.__init__" [.type "ValueError", .type "Exception", .type "BaseException", .type "object"] := ⟨F.excBase_ValueError, F.store_ValueError⟩
theorem bsL : Bs "LookupError" "LookupError.__new__" "LookupError.__init__" [.type "LookupError", .type "Exception", .type "BaseException", .type "object"] := ⟨F.excBase_LookupError, F.store_LookupError⟩
theorem bsR : Bs "RuntimeError" "RuntimeError.__new__" "RuntimeError.__init__" [.type "RuntimeError", .type "Exception", .type "BaseException", .type "object"] := ⟨F.excBase_RuntimeError, F.store_RuntimeError⟩
theorem bsO : Bs "OverflowError" "OverflowError.__new__" "OverflowError.__init__" [.type "OverflowError", .type "ArithmeticError", .type "Exception", .type "BaseException", .type "object"] := ⟨F.excBase_OverflowError, F.store_OverflowError⟩
/-- an error class of the program, straight over a built-in one -/
structure Own (K : PySem.W.Frag) (newId : String) (bmB : List Value) (C : Addr) : Prop where
  cls : ∃ nm q N bs sn sub ab col dd k0 k1 k2 k3 k5, K.lookup C = some (excClassObj nm q C N bs bmB true sn sub ab col dd k0 k1 k2 k3 k5 newId)
  over : PySem.W.excOver K C bmB = true
  sa : PySem.W.findIn K (.ref C) "__setattr__" = some (some (.builtin "object.__setattr__"))
  ga : PySem.W.findIn K (.ref C) "__getattribute__" = some (some (.builtin "BaseException.__getattribute__"))
  gg : PySem.W.findIn K (.ref C) "__getattr__" = some none
  exC : PySem.W.subIn K (.ref C) (.type "BaseException") = some true
  tyC : PySem.W.typeIn K (.ref C) = some (.type "type")
  kC : PySem.W.keepIn K (.ref C) = true
  hdC : PySem.W.hasDictIn K C = true
  clC : PySem.W.findIn K (.ref C) "__class__" = some (some (.builtin "object.__class__"))
  mrO : PySem.W.mroIn K C (.type "object") = some true
theorem Own.data {K : PySem.W.Frag} {newId : String} {bmB : List Value} {C : Addr} (T : Own K newId bmB C) : ∃ cd, PySem.W.clsIn K C = some cd ∧ cd.hasDict = true := by
  obtain ⟨nm, q, N, bs, sn, sub, ab, col, dd, k0, k1, k2, k3, k5, e⟩ := T.cls
  refine ⟨{ name := nm, bases := bs, mro := .ref C :: bmB, ns := N, qualname := q, hasDict := true, slotNames := sn, subclasses := sub, abstract := ab, collection := col, hasDel := false }, ?_, rfl⟩
  unfold PySem.W.clsIn
  rw [e] <;> rfl
theorem taker_of {K : PySem.W.Frag} {C : Addr} {f : Str} (h : PySem.W.findIn K (.ref C) f = some none) : PySem.W.takerIn K C f = some none := by
  unfold PySem.W.takerIn
  rw [h]; rfl
section
variable {X : Cx} {pins : List (Addr × Obj)} {σ : L2.St} {H H1 H2 : Hp} {s : Shared} {a C dx : Addr} {f : Str} {newId initId B : String} {bmB : List Value}
/-- an object that stands in the heap, untracked and not of the entry, is tracked from now on -/
theorem adopt {o : HO} (I : Inv X pins σ H s) (hn : H a = none) (n0 : X.s_0.heap.get? a = none) (nL : a ≠ X.env.locals) (nC : ∀ x c, X.env.cells.lookup x = some c → c ≠ a) (nP : ∀ p ∈ X.pn ++ pins, p.1 ≠ a)
    (new : ObjOk X.prog X.w (upd H a o) s.heap a o) : Inv X pins σ (upd H a o) s := by
  have up : ∀ {b : Addr} {u : HO}, H b = some u → upd H a o b = some u := fun {b u} e => by rw [upd_ne (ne_of_none e hn)]; exact e
  refine ⟨I.ok, I.os, I.bare, ⟨I.base.keep, I.base.slot, fun b q e n x => ?_, I.base.there, fun b xs e => up (I.base.tups b xs e), fun b q u e => up (I.base.frzs b q u e), fun b ps e => ?_⟩, I.loc, I.cell, ?_, fun x c e => ?_, fun p hp => ?_, fun b u e => ?_, I.len⟩
  · rw [upd_ne (fun z => by rw [z, n0] at e; cases e)]
    exact I.base.free b q e n x
  · obtain ⟨m, z⟩ := I.base.tbls b ps e
    exact ⟨m, up z⟩
  · rw [upd_ne (Ne.symm nL)]; exact I.free
  · rw [upd_ne (nC x c e)]; exact I.freeC x c e
  · obtain ⟨e, n, r⟩ := I.pin p hp
    exact ⟨e, by rw [upd_ne (nP p hp)]; exact n, r⟩
  · by_cases hb : b = a
    · subst hb
      rw [upd_same] at e; cases e
      exact new
    · rw [upd_ne hb] at e
      exact (I.hok b u e).stay (fun _ _ _ z => z) (fun c z => up z) (fun c xs z => up z)
theorem low_ne {n : Nat} {b a : Addr} (h : b < n) (h' : n ≤ a) : b ≠ a := Nat.ne_of_lt (Nat.lt_of_lt_of_le h h')
theorem get_lt_size {h : Heap} {b : Addr} {o : Obj} (e : h.get? b = some o) : b < h.objs.size := Heap.lt_size e
/-- self.f = y -/
theorem ost_one {y : V} {u : Value} {Q : Unit → Shared → Prop} {E : Value → Shared → Prop} {A : Around} (T : Own X.K newId bmB C) (SF : StoreFacts B bmB "object.__setattr__" "object") (I : Inv X pins σ H s) (e : H a = some (exo a C none)) (hno : PySem.W.findIn X.K (.ref C) f = some none) (ry : RelV y u)
    (h : ∀ dx s', H dx = none → dx ≠ a → Inv X pins σ (upd (upd H a (exo a C (some dx))) dx (exd dx [(f, y)])) s' → Q () s') : wpAny (model X.prog X.w) A (setAttr (.ref a) f u) Q E s := by
  obtain ⟨cd, hcd, hh⟩ := T.data
  obtain ⟨t1, ho⟩ := exo_at I.hok e
  obtain ⟨hp, g, d, t, os⟩ := s
  refine PySem.W.set_plain I.kIn (ox := { cls := .ref C, dict := none, data := .fields #[.ref t1, .none, .none, .none, .bool false, .none] }) (od := none) ⟨ho, rfl, rfl, trivial⟩ T.sa ?_
  refine osa_first SF I.kIn ho hcd T.over hh (taker_of hno) fun h' tk' dx k dn dne hx hns => ?_
  have hnd : H dx = none := I.hok.fresh dn
  have J := I.write (t' := tk') (x := a) (e := a) (o := exo a C (some dx)) (by rw [e]; exact True.intro) (.inl rfl) k ⟨_, hx⟩ (exo_ok hx)
  refine h dx _ hnd dne (adopt J (by rw [upd_ne dne]; exact hnd) ?_ ?_ ?_ ?_ (exd_ok hns (relO_put (fs := []) ry fun _ => True.intro)))
  · cases z : X.s_0.heap.get? dx with
    | none => rfl
    | some o => exact absurd rfl (low_ne (Nat.lt_of_lt_of_le (Heap.lt_size z) I.sz) dn)
  · exact Ne.symm (low_ne I.lt dn)
  · intro x c ec
    obtain ⟨v, ob, eo, _⟩ := I.cell x c ec
    exact low_ne (Heap.lt_size eo) dn
  · intro p hp'
    exact low_ne (Heap.lt_size (I.pin p hp').1) dn
/-- B.__init__(self, ..) -/
theorem oinit_any {us : List Value} {Q : Value → Shared → Prop} {E : Value → Shared → Prop} {A : Around} (T : Own X.K newId bmB C) (F : ExcBaseFacts B newId initId bmB) (I : Inv X pins σ H s) (e : H a = some (exo a C none)) (hl : us.length ≤ sizeLine) (h : ∀ s', Inv X pins σ H s' → Q .none s') :
    wpAny (model X.prog X.w) A (call (.builtin initId) (.ref a :: us)) Q E s := by
  obtain ⟨nm, q, N, bs, sn, sub, ab, col, dd, k0, k1, k2, k3, k5, hC⟩ := T.cls
  obtain ⟨t1, ho⟩ := exo_at I.hok e
  obtain ⟨hp, g, d, t, os⟩ := s
  refine wpAny_call (HandSPX.init_base F (fun _ => rfl) (I.kIn _ _ hC) ho hl fun h' t2 k hx => ?_)
  have J := I.write (t' := t) (x := a) (e := a) (o := exo a C none) (by rw [e]; exact True.intro) (.inl rfl) k ⟨_, hx⟩ (exo_ok hx)
  have eu : upd H a (exo a C none) = H := by
    funext b
    unfold upd
    split
    · rename_i z; rw [z, e]
    · rfl
  rw [eu] at J
  exact h _ J
def tBi (K : PySem.W.Frag) (newId : String) (bmB : List Value) (ta : TA) : TE := fun σ H Q => ta σ H fun vs H1 => ∃ (a C : Addr) (ws : List V), vs = .ref a :: ws ∧ ws.length ≤ 1000 ∧ Own K newId bmB C ∧ H1 a = some (exo a C none) ∧ Q .non H1
def tOs (K : PySem.W.Frag) (newId : String) (bmB : List Value) (f : Str) (to te : TE) : TS := fun D σ H => te σ H fun y H1 => to σ H1 fun x H2 => ∃ a C : Addr, x = .ref a ∧ Own K newId bmB C ∧ PySem.W.findIn K (.ref C) f = some none ∧ H2 a = some (exo a C none) ∧
  ∀ dx, H2 dx = none → dx ≠ a → D.nx σ (upd (upd H2 a (exo a C (some dx))) dx (exd dx [(f, y)]))
theorem pe_binit {n : Str} {o e : Expr} {es : List Expr} {ta : TA} {p1 p2 pos : Pos} {pl : Sem Bool} (F : ExcBaseFacts B newId initId bmB) (hg : Gl X n) (hm : X.mg n = none) (hv : bootBuiltins n = some (.type B)) (hn : n ≠ "__name__") (hdb : (n == ("__debug__" : Str)) = false)
    (hty : typeOf (.type B) = pure (.type "type")) (hst : Manifest.isStub B = false) (hha : PySem.W.handedIn (.builtin initId) = true) (vV : PySem.W.findCls X.K (.type B) (.type "type") "__init__" = some (.val (.builtin initId))) (ha : PA X (e :: es) ta)
    (hc : eval (.Call (.Attribute (.Name n p1) "__init__" p2) (e :: es) [] pos) X.env = (do
      let ov ← eval (.Name n p1) X.env
      standAt p2.atName
      let (f, first) ← holding [ov] (getMethod ov "__init__" pl)
      callWith pos f first (backTo pos (starEach (e :: es) X.env)) (backToKw pos (keywordEach [] X.env))) := by rfl)
    (he : starEach (e :: es) X.env = (false, eval e X.env) :: starEach es X.env := by rfl) (hpl : (backTo pos (starEach es X.env)).any (·.1) = false := by rfl) :
    PE X (.Call (.Attribute (.Name n p1) "__init__" p2) (e :: es) [] pos) (tBi X.K newId bmB ta) := by
  refine ⟨fun pins s σ H Q I h => PySem.W.methodCall_KW (ld_blt I hg hm hv ?_ hn hdb) hc⟩
  obtain ⟨m, fr⟩ := I.fr
  refine PySem.W.method_type fr I.ok.mod.kin hty hst vV hha ?_
  show wpAny _ _ (callWith pos (Value.builtin initId) [] (backTo pos (starEach (e :: es) X.env)) []) _ _ _
  refine PyProof.Rows.callWith_method1 (thn (ha.run pos pins _ σ H _ (I.tok _) h) fun us s1 ⟨vs, H1, I1, r1, a, C, ws, ev, hl, T, ea, q⟩ => ?_) he hpl
  subst ev
  cases r1 with
  | @cons _ u0 _ ur ra rr =>
    obtain rfl : u0 = Value.ref a := ra
    exact oinit_any T F I1 ea (by rw [← Paired.length rr, sizeLine_eq]; omega) fun s' J => ⟨.non, H1, J, rfl, q⟩
theorem ps_os {o e : Expr} {to te : TE} {p' pos : Pos} (SF : StoreFacts B bmB "object.__setattr__" "object") (ho : PE X o to) (he : PE X e te) (hs : swapsWith e (some (.Attribute o f p')) pos.line X.env = pure false := by rfl) : PS X (.Assign [.Attribute o f p'] e pos) (tOs X.K newId bmB f to te) := by
  refine ⟨fun pins s σ H D I h => plainObj_wpAny_Assign_Attribute (thn (he.run pins s σ H _ I h) fun v s1 ⟨y, H1, I1, r1, q1⟩ => thn (ho.run pins s1 σ H1 _ I1 q1) fun u s2 ⟨x, H2, I2, r2, a, C, ex, T, hno, ea, q⟩ => ?_) hs⟩
  subst ex
  obtain rfl : u = Value.ref a := r2
  exact ost_one T SF I2 ea hno r1 fun dx s' n ne J => ⟨σ, _, J, q dx n ne⟩
/-- the new error is let go: the heap without it -/
theorem mk_gone {hp hp2 h2 : Heap} {g1 g2 : Array GenState} {d1 d2 : Drawn} {t1 t2 : Nat} {os1 os2 : OsState} {dv : Option Addr} (I1 : Inv X pins σ H1 ⟨hp, g1, d1, t1, os1⟩)
    (ha : hp.objs.size ≤ a) (k : ∀ b o, hp.get? b = some o → hp2.get? b = some o) (un : Un (frs X.stack) [] (upd H1 a (exo a C none)) H2 hp2 h2) (hok : HOk X.prog X.w H2 h2) (ho : os2 = os1) (hb : AllBare g2) (ea : H2 a = some (exo a C dv)) :
    ∃ (t0 : Addr) (G : Heap), Inv X pins σ (del H2 a) ⟨G, g2, d2, t2, os2⟩ ∧ (∀ b o, G.get? b = some o → h2.get? b = some o) ∧ G.get? a = none ∧
      h2.get? a = some ({ cls := .ref C, dict := dv, data := .fields #[.ref t0, .none, .none, .none, .bool false, .none] } : Obj) := by
  obtain ⟨t0, hoe⟩ := exo_at hok ea
  have hn : H1 a = none := I1.hok.fresh ha
  obtain ⟨G, g1', g2'⟩ := restrict h2 fun b => decide (b ≠ a)
  have gk : ∀ b, b ≠ a → G.get? b = h2.get? b := fun b q => g1' b (decide_eq_true q)
  have ga : G.get? a = none := g2' a (decide_eq_false (fun z => z rfl))
  have na : ∀ {b : Addr} {o : Obj}, hp.get? b = some o → b ≠ a := fun q => low_ne (Heap.lt_size q) ha
  have up : ∀ {b : Addr}, b ≠ a → H1 b = none → upd H1 a (exo a C none) b = none := fun q n => by rw [upd_ne q]; exact n
  have tr : ∀ {b : Addr} {u : HO}, H1 b = some u → upd H1 a (exo a C none) b = some u ∧ b ≠ a := fun q => ⟨by rw [upd_ne (ne_of_none q hn)]; exact q, ne_of_none q hn⟩
  have U : Un (frs X.stack) [] H1 (del H2 a) hp G := {
    keep := fun b o z n hf hx => by rw [gk b (na z)]; exact un.keep b o (k b o z) (up (na z) n) hf hx
    slot := fun b o z n hf hx => by rw [gk b (na z)]; exact un.slot b o (k b o z) (up (na z) n) hf hx
    free := fun b o z n hx => by rw [del_ne (na z)]; exact un.free b o (k b o z) (up (na z) n) hx
    there := fun b o z hx => by rw [gk b (na z)]; exact un.there b o (k b o z) hx
    tups := fun b xs z => by rw [del_ne (tr z).2]; exact un.tups b xs (tr z).1
    frzs := fun b o v z => by rw [del_ne (tr z).2]; exact un.frzs b o v (tr z).1
    tbls := fun b ps z => by rw [del_ne (tr z).2]; exact un.tbls b ps (tr z).1 }
  have hok3 : HOk X.prog X.w (del H2 a) G := fun b o z => by
    have hba : b ≠ a := fun e => by rw [e, del_same] at z; cases z
    rw [del_ne hba] at z
    have noa : ∀ {c : Addr}, H2 c = some (.own b) → c ≠ a := fun hc => at_ne ea hc exo_own
    refine (hok b o z).stay (fun c v hc y => ?_) (fun c hc => by rw [del_ne (noa hc)]; exact hc) (fun c xs hc => by rw [del_ne (at_ne ea hc exo_tup)]; exact hc)
    have hca : c ≠ a := hc.elim (fun q => by rw [q]; exact hba) noa
    rw [gk c hca]; exact y
  have J : Inv X pins σ (del H2 a) ⟨G, g2, d2, t2, os2⟩ := I1.call' (ch := []) ho U hok3 hb (fun b z => absurd z (by simp))
  refine ⟨t0, G, J, fun b o z => ?_, ga, hoe⟩
  by_cases hba : b = a
  · rw [hba, ga] at z; cases z
  · exact (gk b hba).symm.trans z
/-- C(e, ..), C's own __init__ keeping sp -/
def tMkE (C : Addr) (sp : Sp) (ta : TA) : L2.St → Hp → XK → Prop := fun σ H Q => ta σ H fun vs H1 => vs.length ≤ 1000 ∧ ∀ a, H1 a = none → sp (.ref a :: vs) (upd H1 a (exo a C none))
  (fun v H2 => v = .non ∧ ((H2 a = some (exo a C none) ∧ Q (.ref C) none (del H2 a)) ∨ ∃ (d : Addr) (fs : List (Str × V)), H2 a = some (exo a C (some d)) ∧ H2 d = some (exd d fs) ∧ Q (.ref C) (some d) (upd (del H2 a) d (.xd fs)))) (fun _ _ _ => False)
/-- what such a call leaves -/
theorem made_run {vs : List V} {us : List Value} {fI : Addr} {k : Nat} {fd : FuncData} {ps : List Str} {sp : Sp} {Q : XK} {CX : CXT} (T : Own X.K newId bmB C) (F : ExcBaseFacts B newId initId bmB) (iC : PySem.W.findIn X.K (.ref C) "__init__" = some (some (.ref fI))) (tI : PySem.W.typeIn X.K (.ref fI) = some (.type "function"))
    (F1 : FnOk X.prog X.w X.K X.mg X.base CX k fI fd ps sp) (hr : Room (k + 1) X.A) (hb : Binds X.K fd ps []) (hx : Passes CX X (fun _ _ _ => False)) (I1 : Inv X pins σ H1 s) (r1 : Vals vs us) (hz : vs.length ≤ 1000)
    (q1 : ∀ a, H1 a = none → sp (.ref a :: vs) (upd H1 a (exo a C none)) (fun v H2 => v = .non ∧ ((H2 a = some (exo a C none) ∧ Q (.ref C) none (del H2 a)) ∨ ∃ (d : Addr) (fs : List (Str × V)), H2 a = some (exo a C (some d)) ∧ H2 d = some (exd d fs) ∧ Q (.ref C) (some d) (upd (del H2 a) d (.xd fs)))) (fun _ _ _ => False)) :
    wpAny (model X.prog X.w) X.A (call (.ref C) us) (MkP X pins σ Q) X.xe s := by
  obtain ⟨nm, q, N, bs, sn, sub, ab, col, dd, k0, k1, k2, k3, k5, hC⟩ := T.cls
  obtain ⟨hp, g, dr, tk, os⟩ := s
  have hsz : hp.objs.size ≤ hp.objs.size + 1 := Nat.le_succ _
  have hq := q1 (hp.objs.size + 1) (I1.hok.fresh hsz)
  obtain ⟨hp2, ehp⟩ : ∃ hp2, hp2 = (hp.push (PySem.W.kdv_tup us)).push (HandSPX.excO C hp.objs.size) := ⟨_, rfl⟩
  have kk : ∀ b o, hp.get? b = some o → hp2.get? b = some o := fun b o e => by rw [ehp]; exact Heap.get?_push_of_some _ (Heap.get?_push_of_some _ e)
  have hget : hp2.get? (hp.objs.size + 1) = some (HandSPX.excO C hp.objs.size) := by rw [ehp]; heap_get
  have I2 : Inv X pins σ (upd H1 (hp.objs.size + 1) (exo (hp.objs.size + 1) C none)) ⟨hp2, g, dr, tk, os⟩ := I1.laid (t' := tk) kk hsz (exo_ok hget)
  have r2 : Vals (V.ref (hp.objs.size + 1) :: vs) (Value.ref (hp.objs.size + 1) :: us) := .cons rfl r1
  have hl : (Value.ref (hp.objs.size + 1) :: us ++ []).length = ps.length := by
    rw [List.append_nil, ← r2.length]; exact F1.len _ _ _ _ hq
  have hus : us.length ≤ sizeLine := by rw [← Paired.length r1, sizeLine_eq]; omega
  refine wpAny_call (HandSPX.call_own F (fun _ => rfl) (I1.kIn _ _ hC) (PySem.W.looks_findIn I1.kIn iC) (fun self => PySem.W.bind_fn I1.kIn self tI) hus ?_)
  rw [← ehp]
  refine codeAny_mono (F1.run _ X.stack _ _ ⟨Value.ref (hp.objs.size + 1) :: us, []⟩ (Value.ref (hp.objs.size + 1) :: us) _ _ (fun _ _ _ => False) (hr.make C us []) (I2.env0.make C us []) ?_ r2 hq) fun r s' hq' => ?_
  · have z := hb ⟨hp2, g, dr, tk, os⟩ (Value.ref (hp.objs.size + 1) :: us) I2.kIn hl
    rw [List.append_nil] at z; exact z
  cases r with
  | error er => exact hx pins σ _ _ er s' I2 hq'
  | ok fl =>
    cases fl with
    | ret u =>
      obtain ⟨v, H2, os2, bare2, un2, hok2, rv, ev, alt⟩ := hq'
      subst ev
      obtain ⟨h2, g2, d2, t2, os'⟩ := s'
      refine ⟨rv, ?_⟩
      rcases alt with ⟨ea, q2⟩ | ⟨d, fs, ea, ed, q2⟩
      · obtain ⟨t0, G, J, kG, ge, hoe⟩ := mk_gone (d2 := d2) (t2 := t2) I1 hsz kk un2 hok2 os2 bare2 ea
        exact ⟨_, _, _, ⟨G, g2, d2, t2, os'⟩, _, .ref C, none, rfl, J, kG, ge, hoe, ⟨rfl, rfl⟩, rfl, rfl, del_same, rfl, bare2, raises_own T.exC T.tyC, q2⟩
      · obtain ⟨t0, G, J, kG, ge, hoe⟩ := mk_gone (d2 := d2) (t2 := t2) I1 hsz kk un2 hok2 os2 bare2 ea
        have hda : d ≠ hp.objs.size + 1 := fun z => by
          rw [z] at ed
          obtain ⟨mA, ⟨ob, es, ep, e1, e2, _⟩, _⟩ := exd_at hok2 ed
          rw [hoe] at e1
          have z2 := Option.some.inj e1
          subst z2
          cases e2
        have ed' : del H2 (hp.objs.size + 1) d = some (exd d fs) := by rw [del_ne hda]; exact ed
        obtain ⟨mA, ns, rel⟩ := exd_at J.hok ed'
        have J2 := J.write (t' := t2) (h' := G) (x := d) (e := d) (o := .xd fs) (by rw [ed']; exact True.intro) (.inl rfl) (fun _ _ _ z => z) (by obtain ⟨ob, _, _, e1, _⟩ := ns; exact ⟨ob, e1⟩) ⟨mA, ns, rel⟩
        exact ⟨_, _, _, ⟨G, g2, d2, t2, os'⟩, _, .ref C, some d, rfl, J2, kG, ge, hoe, ⟨rfl, rfl⟩, rfl, rfl, by rw [upd_ne (Ne.symm hda)]; exact del_same, rfl, bare2, raises_own T.exC T.tyC, q2⟩
    | next => exact False.elim hq'
    | brk => exact False.elim hq'
    | cont => exact False.elim hq'
theorem pmk_e {x : Str} {fI : Addr} {k : Nat} {fd : FuncData} {ps : List Str} {sp : Sp} {CX : CXT} {e : Expr} {es : List Expr} {ta : TA} {p pos : Pos} (T : Own X.K newId bmB C) (F : ExcBaseFacts B newId initId bmB) (iC : PySem.W.findIn X.K (.ref C) "__init__" = some (some (.ref fI))) (tI : PySem.W.typeIn X.K (.ref fI) = some (.type "function"))
    (F1 : FnOk X.prog X.w X.K X.mg X.base CX k fI fd ps sp) (hr : Room (k + 1) X.A) (hb : Binds X.K fd ps []) (hx : Passes CX X (fun _ _ _ => False)) (hg : Gl X x) (hm : X.mg x = some (.ref C)) (ha : PA X (e :: es) ta)
    (hdb : (x == ("__debug__" : Str)) = false := by decide) (he : starEach (e :: es) X.env = (false, eval e X.env) :: starEach es X.env := by rfl) (hpl : (backTo pos (starEach es X.env)).any (·.1) = false := by rfl) :
    PMk X (.Call (.Name x p) (e :: es) [] pos) (tMkE C sp ta) := by
  intro pins s σ H Q I h
  refine wpAny_Call_Name_kw (ld_glob I hg hm ?_ hdb)
  exact PySem.W.callWith_K (h₀ := X.base) I.ok.mod.kin T.kC (thn (ha.run pos pins s σ H _ I h) fun us s1 ⟨vs, H1, I1, r1, hz, q1⟩ => ⟨I1.kIn, made_run T F iC tI F1 hr hb hx I1 r1 hz q1⟩) he hpl
end
end Pc
namespace Pc
open PySem PySem.Spec PyProof.Rows L2 RZ
/-! ### errors of the program: caught, kept, looked at -/
section
open PySem.W
variable {M : Model} {K : Frag} {h : Heap}
theorem Looks.bind' {α β : Type} {x : Sem α} {f : α → Sem β} {a : α} {b : β} (hx : Looks M h x a) (hf : Looks M h (f a) b) : Looks M h (x >>= f) b := fun A Q E s k q =>
  wpAny_bind (hx A _ E s k (hf A Q E s k q))
theorem loop_all {α β : Type} {f : α → β → Sem (ForInStep β)} {b : β} : ∀ cs : List α, (∀ c ∈ cs, Looks M h (f c b) (.yield b)) → Looks M h (forIn cs b f) b
  | [], _ => by rw [List.forIn_nil]; exact .now
  | c :: cs, hc => by
    rw [List.forIn_cons]
    exact Looks.bind' (hc c List.mem_cons_self) (loop_all cs fun c' h' => hc c' (List.mem_cons_of_mem _ h'))
theorem loop_any {α β : Type} {f : α → β → Sem (ForInStep β)} {b b1 : β} : ∀ (bs : List Bool) (cs : List α), bs.length = cs.length → bs.any id = true → (∀ (i : Nat) (c : α) (y : Bool), cs[i]? = some c → bs[i]? = some y → Looks M h (f c b) (if y = true then .done b1 else .yield b)) → Looks M h (forIn cs b f) b1
  | [], [], _, e, _ => absurd e (by decide)
  | y :: bs, c :: cs, hl, e, hc => by
    rw [List.forIn_cons]
    have h0 := hc 0 c y rfl rfl
    cases y with
    | true => exact Looks.bind' h0 .now
    | false => exact Looks.bind' h0 (loop_any bs cs (Nat.succ.inj hl) e fun i c' y' h1 h2 => hc (i + 1) c' y' h1 h2)
/-- an except clause with several classes, of which one is the error's -/
theorem exm_some {cls : Value} {cs : List Value} {tp e : Addr} {o : Obj} {n : Nat} (X : K.In h) (LT : Looks M h (typeOf (.ref e)) cls) (hp : h.get? tp = some o) (hc : o.cls = .type "tuple") (hd : o.data = .seq cs.toArray n) (bs : List Bool) (hl : bs.length = cs.length) (hb : bs.any id = true)
    (hx : ∀ (i : Nat) (c : Value) (y : Bool), cs[i]? = some c → bs[i]? = some y → exmOne K cls c = some y) : Looks M h (excMatches (.ref e) (.ref tp)) true := by
  have at_ : ∀ c ∈ cs, ∃ y, exmOne K cls c = some y := fun c hm => by
    obtain ⟨i, hi, rfl⟩ := List.getElem_of_mem hm
    exact ⟨bs[i]'(by omega), hx i _ _ (List.getElem?_eq_getElem hi) (List.getElem?_eq_getElem _)⟩
  have L0 : Looks M h (isInstance (.ref tp) (.type "tuple")) true := fun A Q E s k q => by
    refine wpAny_bind (wpAny_typeOf_ref (k _ _ hp) ?_)
    rw [hc]
    exact (Looks.of_pure isSubtype_tuple_tuple) A Q E s k q
  unfold excMatches
  refine Looks.bind' L0 ?_
  dsimp only
  rw [if_pos rfl]
  refine Looks.bind' (a := some cs.toArray) (fun A Q E s k q => wpAny_seqItems (k _ _ hp) hd q) ?_
  refine Looks.bind' (a := cs) .now ?_
  refine Looks.bind' (a := PUnit.unit) (loop_all cs fun c hm => ?_) ?_
  · obtain ⟨y, hy⟩ := at_ c hm
    refine Looks.bind' (exm_cls X hy).1 ?_
    exact .now
  refine Looks.bind' LT ?_
  refine Looks.bind' (loop_any (b1 := (some true, ())) bs cs hl hb fun i c y h1 h2 => Looks.bind' (exm_cls X (hx i c y h1 h2)).2 ?_) ?_
  · cases y <;> exact .now
  · exact .now
end
end Pc
namespace Pc
open PySem PySem.Spec PyProof.Rows L2 RZ
/-- an error that was caught and is kept: its class, its dict -/
def exk (a : Addr) (cls : Value) (d : Option Addr) : HO := .ext fun h => ∃ (oe : Obj) (vs : Array Value), h.get? a = some oe ∧ Zc cls d oe ∧ oe.data = .fields vs
theorem exk_ok {P : Program} {w : World} {H : Hp} {h : Heap} {a : Addr} {cls : Value} {d : Option Addr} {oe : Obj} {vs : Array Value} (e : h.get? a = some oe) (z : Zc cls d oe) (q : oe.data = .fields vs) : ObjOk P w H h a (exk a cls d) :=
  ⟨⟨oe, vs, e, z, q⟩, ⟨oe, e⟩, fun _ _ ⟨o, v, r, r'⟩ k => ⟨o, v, k o r, r'⟩⟩
theorem exk_at {P : Program} {w : World} {H : Hp} {h : Heap} {a : Addr} {cls : Value} {d : Option Addr} (hok : HOk P w H h) (e : H a = some (exk a cls d)) : ∃ (oe : Obj) (vs : Array Value), h.get? a = some oe ∧ Zc cls d oe ∧ oe.data = .fields vs := by
  have x : ObjOk P w H h a (.ext fun h => ∃ (oe : Obj) (vs : Array Value), h.get? a = some oe ∧ Zc cls d oe ∧ oe.data = .fields vs) := hok a _ e
  exact x.1
theorem fly_keeps {B h h' : Heap} {l : List PySem.Env} {e : Addr} {Z : Obj → Prop} (R : HandSPX.FlyingZ B l e Z h) (k : ∀ b o, h.get? b = some o → h'.get? b = some o) : HandSPX.FlyingZ B l e Z h' := by
  obtain ⟨f1, f2, f3, oe, ws, T, oT, ts, r1, r2, r3, r4, r5, r6, r7, r8⟩ := R
  exact ⟨fun b o q => k b o (f1 b o q), f2, f3.of_keeps fun b o q _ => ⟨o, k b o q, rfl⟩, oe, ws, T, oT, ts, k _ _ r1, r2, r3, r4, r5, r6, k _ _ r7, r8⟩
/-- names of classes, one by one -/
def NamesAll (X : Cx) (es : List Expr) (cs : List Value) : Prop := Paired (fun (e : Expr) c => ∃ (x : Str) (p : Pos), e = .Name x p ∧ Names X x c) es cs
theorem names_run {X : Cx} {pins : List (Addr × Obj)} {σ : L2.St} {H : Hp} {s : Shared} {E : Value → Shared → Prop} {pos : Pos} (I : Inv X pins σ H s) :
    ∀ {es : List Expr} {cs : List Value} {Q : List Value → Shared → Prop}, NamesAll X es cs → Q cs s → wpAny (model X.prog X.w) X.A (spliced (backTo pos (starEach es X.env))) Q E s
  | _, _, _, .nil, q => wpAny_items_nil q
  | _, _, _, .cons ⟨x, p, rfl, hg, hdb, hm⟩ r, q => by
    refine wpAny_items_cons ?_
    rcases hm with hm | ⟨hm, hv, hn⟩
    · exact ld_glob I hg hm (names_run I r q) hdb
    · exact ld_blt I hg hm hv (names_run I r q) hn hdb
/-- of which classes the error is -/
def Hits (K : PySem.W.Frag) (cls : Value) (cs : List Value) : Prop := ∃ bs : List Bool, bs.length = cs.length ∧ bs.any id = true ∧ ∀ (i : Nat) (c : Value) (y : Bool), cs[i]? = some c → bs[i]? = some y → PySem.W.exmOne K cls c = some y
/-- what 'except (..) as n: suite' wishes of an error of the body (slot i is n's): the error is kept -/
def wKept (K : PySem.W.Frag) (cs : List Value) (i : Nat) (ts : Addr → TS) (D : Ends) : WX := fun cls d σ H => Hits K cls cs ∧ ∀ a, H a = none →
  ts a { nx := fun σ' H' => D.nx (σ'.set i none) (upd H' a (exk a cls d)), rt := fun _ _ => False } (σ.set i (some (.ref a))) H
section
variable {X : Cx} {n : Str} {i : Nat} {body suite : List Stmt} {b₀ : Stmt} {es : List Expr} {cs : List Value} {kk : Nat} {tpos pos pos' : Pos} {tb : WX → TS} {ts : Addr → TS}
theorem ps_try_kept (hex : X.ex = []) (hs : X.stack = X.env :: X.outer) (hf : X.env.frame = some X.env.locals) (hN : X.N.Nodup) (hi : X.N[i]? = some n) (hln : X.env.kindOf n = some .local) (hc : NamesAll X es cs) (hcl : cs.length ≤ 1000)
    (hb : ∀ (W : WX) (pn : List (Addr × Obj)) (xe : Value → Shared → Prop), Takes (X.tr pn xe) W → PassesOwn (model X.prog X.w) X.A X.env xe → PSs (X.tr pn xe) body (tb W))
    (hsu : ∀ (a : Addr) (oe : Obj) (pn : List (Addr × Obj)), PSs (X.suite a ((a, oe) :: pn)) (b₀ :: suite) (ts a)) :
    PS X (.Try body [.ExceptHandler (some (.Tuple es kk tpos)) (some n) (b₀ :: suite) pos'] [] [] pos) (fun D σ H => tb (wKept X.K cs i ts D) D σ H) := by
  refine ⟨fun pins s σ H D I h => ?_⟩
  have ok := I.ok
  have hfr : X.A.frames = some (X.env :: X.outer) := by rw [ok.frames, hs]
  refine wpAny_Try_except (wpAny_mono ((hb (wKept X.K cs i ts D) (X.pn ++ pins) (fun e s₁ => wpAny (model X.prog X.w) X.A (noteFrame e X.env) (fun _ s₂ => wpAny (model X.prog X.w) X.A (setFlight e none) (fun _ s₃ =>
    wpAny (model X.prog X.w) X.A (handleBy e X.env [.ExceptHandler (some (.Tuple es kk tpos)) (some n) (b₀ :: suite) pos']) (SP X pins D) X.xe s₃) X.xe s₂) X.xe s₁) (fun u s' xx => ?_) PassesOwn.looking).run [] s σ H D (I.toTry _) h) (fun f s1 hsp => ?_) (fun e s1 he => he))
  · obtain ⟨a, B, sI, pins', σ', H', cls, d, rfl, J', nb, up, sky, na, os, ag, ⟨bs, hbl, hba, hbx⟩, hyes⟩ := xx
    have J : Inv X pins σ' H' sI := J'.ofTry ok
    rw [hs] at sky
    show wpAny (model X.prog X.w) X.A (noteFrame (.ref a) X.env) _ _ _
    refine Sky.land Zc.steady hfr hf sky fun h3 fl3 up3 => ?_
    obtain ⟨oe3, vs3, he3, hz3, hd3⟩ := fl3.there
    have nfr : a ∉ frs (X.env :: X.outer) := fun hm => by
      obtain ⟨_, o', e', hnf⟩ := fl3.2.2.1.mem hm
      rw [he3] at e'; cases e'
      exact hnf _ hd3
    have nL : a ≠ X.env.locals := fun z => nfr (List.mem_filterMap.mpr ⟨X.env, List.mem_cons_self, by rw [hf, z]⟩)
    have nF : a ∉ X.fs := fun hm => by
      obtain ⟨e, he, q⟩ := List.mem_filterMap.mp hm
      exact nfr (List.mem_filterMap.mpr ⟨e, List.mem_cons_of_mem _ he, q⟩)
    have nI : sI.heap.get? a = none := by
      cases z : sI.heap.get? a with
      | none => rfl
      | some o =>
        have y := nb a o z (by rw [hs]; exact nfr)
        rw [fl3.2.1] at y; cases y
    have J3 : Inv X pins σ' H' { s' with heap := h3 } := J.landed nb fl3.1 (up.trans up3) os ag
    have S3 := J3.suite he3 hd3 na nL nF
    refine wpAny_handleBy_cons (codeAny_handlers_test (wpAny_Tuple_spliced (names_run (X := X.suite a ((a, oe3) :: (X.pn ++ pins))) (cs := cs) S3 (L2.Paired.mapP hc fun _ _ z => z) ⟨by rw [sizeLine_eq]; omega, ?_⟩))) (by intro q; cases q)
    dsimp only
    have kp : ∀ b o, h3.get? b = some o → (h3.push { cls := .type "tuple", data := .seq cs.toArray }).get? b = some o := fun _ _ z => Heap.get?_push_of_some _ z
    have LT : PySem.W.Looks (model X.prog X.w) (h3.push { cls := .type "tuple", data := .seq cs.toArray }) (typeOf (.ref a)) cls := fun A Q E s k q => wpAny_typeOf_ref (k _ _ (kp _ _ he3)) (by rw [hz3.1]; exact q)
    refine (exm_some (J3.kIn.keeps kp) LT (Heap.get?_push_size h3 rfl) rfl rfl bs hbl hba hbx).here ?_
    refine codeAny_handlers_suite_as (HandSPX.lands_againZ (fly_keeps fl3 kp) fun h4 fl4 up4 => ?_)
    have J4 : Inv X pins σ' H' { s' with heap := h4 } := J.landed nb fl4.1 (((up.trans up3).trans (Heap.UpToSlots.of_keeps kp)).trans up4) os ag
    obtain ⟨oe4, vs4, he4, hz4, hd4⟩ := fl4.there
    have S4 := J4.suite he4 hd4 na nL nF
    refine store_ok (X := X.suite a ((a, oe4) :: (X.pn ++ pins))) (v := .ref a) S4 hN hi (.inl hln) rfl (fun s5 S5 => ?_) (.inr hln)
    refine wpAny_mono ((hsu a oe4 (X.pn ++ pins)).run [] s5 _ H' _ S5 (hyes a na)) (fun f s6 hsp => ?_) (fun _ _ z => False.elim z)
    cases f with
    | next =>
      obtain ⟨σ6, H6, S6, q6⟩ := hsp
      refine gone_ok (X := X.suite a ((a, oe4) :: (X.pn ++ pins))) S6 hN hi hln fun s7 S7 => ⟨_, _, adopt (S7.unsuite ok) ?_ ?_ nL ?_ ?_ ?_, q6⟩
      · exact (S7.pin (a, oe4) (List.mem_append_left _ List.mem_cons_self)).2.1
      · cases z : X.s_0.heap.get? a with
        | none => rfl
        | some o =>
          obtain ⟨o', y⟩ := J.base.there a o z (by rw [hex]; exact fun q => nomatch q)
          rw [nI] at y; cases y
      · intro x c ec z
        obtain ⟨v, ob, eo, _⟩ := J.cell x c ec
        rw [z, nI] at eo; cases eo
      · intro p hp z
        have y := (J.pin p hp).1
        rw [z, nI] at y; cases y
      · exact exk_ok (S7.pin (a, oe4) (List.mem_append_left _ List.mem_cons_self)).1 hz4 hd4
    | brk => obtain ⟨σ6, H6, S6, q6⟩ := hsp; exact q6.elim
    | cont => obtain ⟨σ6, H6, S6, q6⟩ := hsp; exact q6.elim
    | ret u => obtain ⟨v6, σ6, H6, S6, r6, q6⟩ := hsp; exact q6.elim
  · cases f with
    | next => obtain ⟨σ', H', J', q⟩ := hsp; exact wpAny_execs_nil ⟨σ', H', J'.ofTry ok, q⟩
    | brk => obtain ⟨σ', H', J', q⟩ := hsp; exact ⟨σ', H', J'.ofTry ok, q⟩
    | cont => obtain ⟨σ', H', J', q⟩ := hsp; exact ⟨σ', H', J'.ofTry ok, q⟩
    | ret u => obtain ⟨v, σ', H', J', r, q⟩ := hsp; exact ⟨v, σ', H', J'.ofTry ok, r, q⟩
end
end Pc
namespace Pc
open PySem PySem.Spec PyProof.Rows L2 RZ
/-- what isinstance asks of the class of a kept error -/
structure KeptC (K : PySem.W.Frag) (C : Addr) : Prop where
  ga : PySem.W.findIn K (.ref C) "__getattribute__" = some (some (.builtin "BaseException.__getattribute__"))
  gg : PySem.W.findIn K (.ref C) "__getattr__" = some none
  exC : PySem.W.subIn K (.ref C) (.type "BaseException") = some true
  hdC : PySem.W.hasDictIn K C = true
  clC : PySem.W.findIn K (.ref C) "__class__" = some (some (.builtin "object.__class__"))
  mrO : PySem.W.mroIn K C (.type "object") = some true
  sp : PySem.W.specialIn K (.builtin "object.__class__") "__get__" = some (some (.builtin "getset_descriptor.__get__"))
  tk : PySem.W.takesIn K (.builtin "object.__class__") = some true
/-- a kept error with its dict -/
def Kept (H : Hp) (a C : Addr) (d : Option Addr) : Prop := H a = some (exk a (.ref C) d) ∧ (d = none ∨ ∃ dd fs, d = some dd ∧ H dd = some (.xd fs))
section
variable {X : Cx} {pins : List (Addr × Obj)} {σ : L2.St} {H : Hp} {s : Shared} {a C : Addr} {d : Option Addr}
theorem kept_inst (I : Inv X pins σ H s) (h : Kept H a C d) : ∃ (oe : Obj) (od : Option Obj), PySem.W.InstAt s.heap a oe C od := by
  obtain ⟨e, hd⟩ := h
  obtain ⟨oe, vs, ho, hz, hv⟩ := exk_at I.hok e
  have nc : PySem.W.notCls oe = true := by unfold PySem.W.notCls; rw [hv] <;> rfl
  rcases hd with rfl | ⟨dd, fs, rfl, ed⟩
  · exact ⟨oe, none, ho, hz.1, nc, by rw [hz.2]; trivial⟩
  · obtain ⟨mA, ⟨od, es, ep, q, _⟩, _⟩ := (show ObjOk X.prog X.w H s.heap dd (.xd fs) from I.hok dd _ ed)
    exact ⟨oe, some od, ho, hz.1, nc, by rw [hz.2]; exact q⟩
theorem kept_kit (T : KeptC X.K C) {oe : Obj} {od : Option Obj} : PySem.W.KitX X.K (.ref a) (.ref C) (fun h => PySem.W.InstAt h a oe C od) :=
  PySem.W.kitx_exc (by obtain ⟨cd, hc, _⟩ := PySem.W.any_some T.hdC; rw [hc]; rfl) T.ga T.gg T.exC T.clC T.sp T.tk T.mrO
/-- isinstance(e, c), e a kept error -/
def rIsk (K : PySem.W.Frag) : List V → Hp → VK → Prop := fun xs H Q => ∃ (a C : Addr) (d : Option Addr) (c : V) (u : Value) (b : Bool), xs = [.ref a, c] ∧ Kept H a C d ∧ KeptC K C ∧ ClsV c u ∧ PySem.W.kitOne K (.ref C) u = some b ∧ Q (.bl b) H
theorem call_isk : CallR X (.builtin "isinstance") (rIsk X.K) := by
  intro pins s σ H xs us Q I r h
  obtain ⟨a, C, d, c, u, b, rfl, hk, T, k, e, q⟩ := h
  obtain ⟨u1, u2, rfl, r1, r2⟩ := vals2 r
  cases (show u1 = Value.ref a from r1)
  have e2 := k.eq r2
  subst e2
  obtain ⟨oe, od, J⟩ := kept_inst I hk
  exact PySem.W.kia_one (kept_kit T) I.kIn J e (fun z => nomatch z) fun tk => ⟨.bl b, H, I.tok tk, rfl, q⟩
/-- isinstance(e, (c, ..)) -/
def rIskT (K : PySem.W.Frag) : List V → Hp → VK → Prop := fun xs H Q => ∃ (a C : Addr) (d : Option Addr) (tp : Addr) (cs : List V) (us : List Value) (b : Bool), xs = [.ref a, .ref tp] ∧ Kept H a C d ∧ KeptC K C ∧ H tp = some (.tup cs) ∧ Paired ClsV cs us ∧ PySem.W.kitAny K (.ref C) us = some b ∧ Q (.bl b) H
theorem call_iskT : CallR X (.builtin "isinstance") (rIskT X.K) := by
  intro pins s σ H xs us Q I r h
  obtain ⟨a, C, d, tp, cs, ws, b, rfl, hk, T, hT, k, e, q⟩ := h
  obtain ⟨u1, u2, rfl, r1, r2⟩ := vals2 r
  cases (show u1 = Value.ref a from r1)
  cases (show u2 = Value.ref tp from r2)
  obtain ⟨oe, od, J⟩ := kept_inst I hk
  obtain ⟨_, its, rv, o, h1, h2, n, h3⟩ := (show ObjOk X.prog X.w H s.heap tp (.tup cs) from I.hok tp _ hT)
  have e3 := ClsV.all k rv
  subst e3
  obtain ⟨oc, od', dt, sl⟩ := o
  simp only at h2 h3
  subst h2 h3
  exact PySem.W.kia_tup (kept_kit T) I.kIn J h1 e (fun z => nomatch z) fun tk => ⟨.bl b, H, I.tok tk, rfl, q⟩
/-- e.f, e a kept error -/
def tKf (K : PySem.W.Frag) (f : Str) (te : TE) : TE := fun σ H Q => te σ H fun x H1 => ∃ (a C dd : Addr) (fs : List (Str × V)) (v : V), x = .ref a ∧ H1 a = some (exk a (.ref C) (some dd)) ∧ KeptC K C ∧ PySem.W.findIn K (.ref C) f = some none ∧ H1 dd = some (.xd fs) ∧ fs.lookup f = some v ∧ Q v H1
theorem pe_kf {e : Expr} {te : TE} {f : Str} {pos : Pos} (he : PE X e te) (hb : attributeBase e f X.env (eval e X.env) = eval e X.env := by rfl) : PE X (.Attribute e f pos) (tKf X.K f te) := by
  refine ⟨fun pins s σ H Q I h => attr_of hb (thn (he.run pins s σ H _ I h) fun u s1 hh => ?_)⟩
  obtain ⟨x, H1, I1, rx, a, C, dd, fs, v, ex, ea, T, hno, ed, l, q⟩ := hh
  subst ex
  obtain rfl : u = Value.ref a := rx
  obtain ⟨oe, vs, ho, hz, hv⟩ := exk_at I1.hok ea
  obtain ⟨mA, hns, hr⟩ := (show ObjOk X.prog X.w H1 s1.heap dd (.xd fs) from I1.hok dd _ ed)
  obtain ⟨od, hod, hl⟩ := lookIn_ns hns
  obtain ⟨w', hw, rw'⟩ := RelO.some_of (v := v) (o := mA f) (by rw [← l]; exact hr f)
  have J : PySem.W.InstAt s1.heap a oe C (some od) := ⟨ho, hz.1, by unfold PySem.W.notCls; rw [hv] <;> rfl, by rw [hz.2]; exact hod⟩
  exact HandSPX.exc_get I1.kIn J T.ga T.gg T.exC (PySem.W.findObj_own T.hdC hno rfl (by rw [hl, hw])) (handed_of rw') ⟨v, H1, I1.tok _, rw', q⟩
end
end Pc
namespace Pc
open PySem PySem.Spec PyProof.Rows L2 RZ
/-! ### errors with one field: made, flying -/
/-- an error of the class at C with the field f flies, from the heap H on -/
def Flies (C : Addr) (f : Str) (v : V) (H : Hp) (E : XK) : Prop := ∀ d H', Same H H' → H d = none → H' d = some (.xd [(f, v)]) → E (.ref C) (some d) H'
theorem Flies.same {C : Addr} {f : Str} {v : V} {H H1 : Hp} {E : XK} (h : Flies C f v H E) (s : Same H H1) : Flies C f v H1 E := fun d H' s' n e => h d H' (s.trans s') (s.free n) e
def spInit1 (C : Addr) (f : Str) : Sp := fun vs H Q _ => ∃ (a : Addr) (v : V), vs = [.ref a, v] ∧ H a = some (exo a C none) ∧ ∀ dx, H dx = none → dx ≠ a → Q .non (upd (upd H a (exo a C (some dx))) dx (exd dx [(f, v)]))
theorem raised1 {C : Addr} {f : Str} {v : V} {H1 : Hp} {Q : XK} (h : Flies C f v H1 Q) : [v].length ≤ 1000 ∧ ∀ a, H1 a = none → spInit1 C f (.ref a :: [v]) (upd H1 a (exo a C none))
    (fun v' H2 => v' = .non ∧ ((H2 a = some (exo a C none) ∧ Q (.ref C) none (del H2 a)) ∨ ∃ (d : Addr) (fs : List (Str × V)), H2 a = some (exo a C (some d)) ∧ H2 d = some (exd d fs) ∧ Q (.ref C) (some d) (upd (del H2 a) d (.xd fs)))) (fun _ _ _ => False) := by
  refine ⟨(by show 1 ≤ 1000; decide), fun a na => ⟨a, v, rfl, upd_same, fun dx nd ne => ⟨rfl, .inr ⟨dx, [(f, v)], ?_, upd_same, h dx _ ?_ ?_ upd_same⟩⟩⟩⟩
  · rw [upd_ne (Ne.symm ne), upd_same]
  · intro b o hb
    have nd' : H1 dx = none := by rw [upd_ne ne] at nd; exact nd
    have hbd := ne_of_none hb nd'
    have hba := ne_of_none hb na
    rw [upd_ne hbd, del_ne hba, upd_ne hbd, upd_ne hba, upd_ne hba]
    exact hb
  · rw [upd_ne ne] at nd; exact nd
/-- the try's wish of such an error -/
theorem kept1 {K : PySem.W.Frag} {C : Addr} {f : Str} {v : V} {cs : List Value} {i : Nat} {ts : Addr → TS} {D : Ends} {σ : L2.St} {H : Hp} (hh : Hits K (.ref C) cs)
    (h : ∀ d H' a, Same H H' → H d = none → H' d = some (.xd [(f, v)]) → H' a = none → a ≠ d → ts a { nx := fun σ' H'' => D.nx (σ'.set i none) (upd H'' a (exk a (.ref C) (some d))), rt := fun _ _ => False } (σ.set i (some (.ref a))) H') :
    Flies C f v H (fun cls d H' => wKept K cs i ts D cls d σ H') := fun d H' s n e => ⟨hh, fun a na => h d H' a s n e na (fun z => by rw [z, e] at na; cases na)⟩
theorem Kept.mk1 {H' : Hp} {a d C : Addr} {fs : List (Str × V)} (e : H' d = some (.xd fs)) (n : H' a = none) : Kept (upd H' a (exk a (.ref C) (some d))) a C (some d) :=
  ⟨upd_same, .inr ⟨d, fs, rfl, by rw [upd_ne (ne_of_none e n)]; exact e⟩⟩
theorem Kept.same {H H' : Hp} {a C : Addr} {d : Option Addr} (h : Kept H a C d) (s : Same H H') : Kept H' a C d :=
  ⟨s _ _ h.1, h.2.imp id fun ⟨dd, fs, e, z⟩ => ⟨dd, fs, e, s _ _ z⟩⟩
theorem over_of {K : PySem.W.Frag} {C : Addr} {bmB : List Value} {newId : String} {nm q : Str} {N : Addr} {bs : List Value} {sn : List Str} {sub : List Value} {ab : Bool} {col : Option Bool} {dd : Option Addr} {k0 k1 k2 k3 k5 : Option Value}
    (h : K.lookup C = some (excClassObj nm q C N bs bmB true sn sub ab col dd k0 k1 k2 k3 k5 newId)) (ht : PySem.W.excTail bmB bmB = true) : PySem.W.excOver K C bmB = true := by
  have e : PySem.W.clsIn K C = some { name := nm, bases := bs, mro := .ref C :: bmB, ns := N, qualname := q, hasDict := true, slotNames := sn, subclasses := sub, abstract := ab, collection := col, hasDel := false } := by
    unfold PySem.W.clsIn
    rw [h] <;> rfl
  unfold PySem.W.excOver
  rw [e]
  show ((C == C) && PySem.W.excTail bmB bmB) = true
  rw [ht, beq_self_eq_true]; rfl
theorem kcls_of {K : PySem.W.Frag} {t : Value} {D : Addr} {b : Bool} (h2 : PySem.W.isClsIn K D = true) (h3 : PySem.W.typeIn K (.ref D) = some (.type "type")) (h4 : PySem.W.subIn K t (.ref D) = some b) : PySem.W.kitCls K t (.ref D) = some b := by
  have e2 : ((PySem.W.clsIn K D).isSome && PySem.W.typeIn K (.ref D) == some (.type "type")) = true := by
    have h2' : (PySem.W.clsIn K D).isSome = true := h2
    rw [h2', h3] <;> rfl
  show (if ((PySem.W.clsIn K D).isSome && PySem.W.typeIn K (.ref D) == some (.type "type")) = true then PySem.W.subIn K t (.ref D) else none) = some b
  rw [if_pos e2]
  exact h4
theorem exm_of' {K : PySem.W.Frag} {t : Value} {D : Addr} {b : Bool} (h1 : PySem.W.subIn K (.ref D) (.type "BaseException") = some true) (h2 : PySem.W.isClsIn K D = true) (h3 : PySem.W.typeIn K (.ref D) = some (.type "type")) (h4 : PySem.W.subIn K t (.ref D) = some b) : PySem.W.exmOne K t (.ref D) = some b := by
  have e1 : (PySem.W.subIn K (.ref D) (.type "BaseException") == some true) = true := by rw [h1] <;> rfl
  show (if (PySem.W.subIn K (.ref D) (.type "BaseException") == some true) = true then PySem.W.kitCls K t (.ref D) else none) = some b
  rw [if_pos e1]
  exact kcls_of h2 h3 h4
theorem kit_own {K : PySem.W.Frag} {C D : Addr} {b : Bool} (h0 : PySem.W.subIn K (.ref C) (.ref C) = some true) (h2 : PySem.W.isClsIn K D = true) (h3 : PySem.W.typeIn K (.ref D) = some (.type "type")) (h4 : PySem.W.subIn K (.ref C) (.ref D) = some b) : PySem.W.kitOne K (.ref C) (.ref D) = some b := by
  by_cases e : C = D
  · subst e
    rw [h0] at h4
    rw [← h4]
    show (if ((Value.ref C) == (Value.ref C)) = true then some true else _) = some true
    rw [if_pos (beq_self_eq_true _)]
  · have n : ((Value.ref C) == (Value.ref D)) = false := beq_false_of_ne (fun z => e (Value.ref.inj z))
    show (if ((Value.ref C) == (Value.ref D)) = true then some true else PySem.W.kitCls K (.ref C) (.ref D)) = some b
    rw [if_neg (by rw [n]; exact Bool.false_ne_true)]
    exact kcls_of h2 h3 h4
theorem kit_blt {K : PySem.W.Frag} {C : Addr} {T : String} {b : Bool} (hm : PySem.W.kitMeta T = true) (h4 : PySem.W.subIn K (.ref C) (.type T) = some b) : PySem.W.kitOne K (.ref C) (.type T) = some b := by
  have n : ((Value.ref C) == (Value.type T)) = false := beq_false_of_ne (fun z => nomatch z)
  show (if ((Value.ref C) == (Value.type T)) = true then some true else (if PySem.W.kitMeta T = true then PySem.W.subIn K (.ref C) (.type T) else none)) = some b
  rw [if_neg (by rw [n]; exact Bool.false_ne_true), if_pos hm]
  exact h4
theorem kit_all {K : PySem.W.Frag} {t : Value} : ∀ {us : List Value}, (∀ u ∈ us, PySem.W.kitOne K t u = some false) → PySem.W.kitAny K t us = some false
  | [], _ => rfl
  | u :: us, h => by
    show (match PySem.W.kitOne K t u with | some true => some true | some false => PySem.W.kitAny K t us | none => none) = some false
    rw [h u List.mem_cons_self]
    exact kit_all fun x hx => h x (List.mem_cons_of_mem _ hx)
end Pc
namespace Pc
open PySem PySem.Spec PyProof.Rows L2 RZ
theorem kit_nil {K : PySem.W.Frag} {t : Value} : PySem.W.kitAny K t [] = some false := rfl
theorem kit_cons {K : PySem.W.Frag} {t u : Value} {us : List Value} (h : PySem.W.kitOne K t u = some false) (r : PySem.W.kitAny K t us = some false) : PySem.W.kitAny K t (u :: us) = some false := by
  show (match PySem.W.kitOne K t u with | some true => some true | some false => PySem.W.kitAny K t us | none => none) = some false
  rw [h]
  exact r
theorem hits_of {K : PySem.W.Frag} {cls : Value} {cs : List Value} (bs : List Bool) (hb : bs.any id = true) (h : Paired (fun c b => PySem.W.exmOne K cls c = some b) cs bs) : Hits K cls cs :=
  ⟨bs, h.length.symm, hb, fun i c y hc hy => by
    obtain ⟨y', e, z⟩ := paired_get h hc
    rw [hy] at e; cases e
    exact z⟩
end Pc
namespace Pc
open PySem PySem.Spec PyProof.Rows L2 RZ
/-- two promises of one def -/
theorem FnOk.or {P : Program} {w : World} {K : PySem.W.Frag} {mg : Str → Option Value} {base : Heap} {CX : CXT} {k : Nat} {f : Addr} {fd : FuncData} {ps : List Str} {sp sp' : Sp} (F : FnOk P w K mg base CX k f fd ps sp) (G : FnOk P w K mg base CX k f fd ps sp') :
    FnOk P w K mg base CX k f fd ps (fun vs H Q E => sp vs H Q E ∨ sp' vs H Q E) where
  len vs H Q E h := h.elim (F.len vs H Q E) (G.len vs H Q E)
  run A outer s H args us vs Q E hr e0 hb r h := h.elim (F.run A outer s H args us vs Q E hr e0 hb r) (G.run A outer s H args us vs Q E hr e0 hb r)
end Pc
namespace Pc
open PySem PySem.Spec PyProof.Rows L2 RZ
def topS (i : Nat) : Stmt := PySem.Challenge.pw_partnercall_k40_cycles_of_two_pairings.main.body.getD i (.Pass ⟨0, 0, 0, 0⟩)
abbrev s_p_is_integer_below : Stmt := topS 7
abbrev N_p_is_integer_below : List Str := ["value", "limit"]
theorem sc_p_is_integer_below : FnScope ["value", "limit"] ["value", "limit"] (defScope s_p_is_integer_below) := ⟨rfl, rfl, rfl, by decide +kernel, rfl, by decide +kernel, by decide +kernel⟩
abbrev s_p_check_person : Stmt := topS 9
abbrev N_p_check_person : List Str := ["size", "person"]
theorem sc_p_check_person : FnScope ["size", "person"] ["size", "person"] (defScope s_p_check_person) := ⟨rfl, rfl, rfl, by decide +kernel, rfl, by decide +kernel, by decide +kernel⟩
abbrev s_p_check_call : Stmt := topS 10
abbrev N_p_check_call : List Str := ["size", "call", "person"]
theorem sc_p_check_call : FnScope ["size", "call", "person"] ["size", "call"] (defScope s_p_check_call) := ⟨rfl, rfl, rfl, by decide +kernel, rfl, by decide +kernel, by decide +kernel⟩
abbrev s_p_check_word : Stmt := topS 11
abbrev N_p_check_word : List Str := ["size", "word", "call"]
theorem sc_p_check_word : FnScope ["size", "word", "call"] ["size", "word"] (defScope s_p_check_word) := ⟨rfl, rfl, rfl, by decide +kernel, rfl, by decide +kernel, by decide +kernel⟩
abbrev s_p_is_call : Stmt := topS 12
abbrev N_p_is_call : List Str := ["value", "size", "person"]
theorem sc_p_is_call : FnScope ["value", "size", "person"] ["value", "size"] (defScope s_p_is_call) := ⟨rfl, rfl, rfl, by decide +kernel, rfl, by decide +kernel, by decide +kernel⟩
abbrev s_p_join_two : Stmt := topS 13
abbrev N_p_join_two : List Str := ["joined", "a", "b", "left", "right"]
theorem sc_p_join_two : FnScope ["joined", "a", "b", "left", "right"] ["joined", "a", "b"] (defScope s_p_join_two) := ⟨rfl, rfl, rfl, by decide +kernel, rfl, by decide +kernel, by decide +kernel⟩
abbrev s_p_called : Stmt := topS 14
abbrev N_p_called : List Str := ["pairing", "call"]
theorem sc_p_called : FnScope ["pairing", "call"] ["pairing", "call"] (defScope s_p_called) := ⟨rfl, rfl, rfl, by decide +kernel, rfl, by decide +kernel, by decide +kernel⟩
abbrev s_p_called_all : Stmt := topS 15
abbrev N_p_called_all : List Str := ["pairing", "word", "partners", "a", "b"]
theorem sc_p_called_all : FnScope ["pairing", "word", "partners", "a", "b"] ["pairing", "word"] (defScope s_p_called_all) := ⟨rfl, rfl, rfl, by decide +kernel, rfl, by decide +kernel, by decide +kernel⟩
abbrev s_p_check_sizes : Stmt := topS 17
abbrev N_p_check_sizes : List Str := ["first", "second"]
theorem sc_p_check_sizes : FnScope ["first", "second"] ["first", "second"] (defScope s_p_check_sizes) := ⟨rfl, rfl, rfl, by decide +kernel, rfl, by decide +kernel, by decide +kernel⟩
abbrev s_p_choice_at : Stmt := topS 19
abbrev N_p_choice_at : List Str := ["choices", "number", "at", "rest"]
theorem sc_p_choice_at : FnScope ["choices", "number", "at", "rest"] ["choices", "number"] (defScope s_p_choice_at) := ⟨rfl, rfl, rfl, by decide +kernel, rfl, by decide +kernel, by decide +kernel⟩
abbrev s_p_cycle_from : Stmt := topS 21
abbrev N_p_cycle_from : List Str := ["one", "other", "person", "people", "following"]
theorem sc_p_cycle_from : FnScope ["one", "other", "person", "people", "following"] ["one", "other", "person"] (defScope s_p_cycle_from) := ⟨rfl, rfl, rfl, by decide +kernel, rfl, by decide +kernel, by decide +kernel⟩
abbrev s_p_cycles : Stmt := topS 22
abbrev N_p_cycles : List Str := ["one", "other", "found", "seen", "person", "cycle", "member"]
theorem sc_p_cycles : FnScope ["one", "other", "found", "seen", "person", "cycle", "member"] ["one", "other"] (defScope s_p_cycles) := ⟨rfl, rfl, rfl, by decide +kernel, rfl, by decide +kernel, by decide +kernel⟩
abbrev s_p_distance : Stmt := topS 23
abbrev N_p_distance : List Str := ["one", "other"]
theorem sc_p_distance : FnScope ["one", "other"] ["one", "other"] (defScope s_p_distance) := ⟨rfl, rfl, rfl, by decide +kernel, rfl, by decide +kernel, by decide +kernel⟩
abbrev s_p_ways_to_split : Stmt := topS 24
abbrev N_p_ways_to_split : List Str := ["sizes", "many", "calls", "couples", "step"]
theorem sc_p_ways_to_split : FnScope ["sizes", "many", "calls", "couples", "step"] ["sizes"] (defScope s_p_ways_to_split) := ⟨rfl, rfl, rfl, by decide +kernel, rfl, by decide +kernel, by decide +kernel⟩
abbrev s_p_words_many : Stmt := topS 25
abbrev N_p_words_many : List Str := ["one", "other", "cycle"]
theorem sc_p_words_many : FnScope ["one", "other", "cycle"] ["one", "other"] (defScope s_p_words_many) := ⟨rfl, rfl, rfl, by decide +kernel, rfl, by decide +kernel, by decide +kernel⟩
abbrev s_p_splitting_calls : Stmt := topS 26
abbrev N_p_splitting_calls : List Str := ["cycle", "found", "x", "person", "y", "inside", "call"]
theorem sc_p_splitting_calls : FnScope ["cycle", "found", "x", "person", "y", "inside", "call"] ["cycle"] (defScope s_p_splitting_calls) := ⟨rfl, rfl, rfl, by decide +kernel, rfl, by decide +kernel, by decide +kernel⟩
abbrev s_p_first_calls : Stmt := topS 27
abbrev N_p_first_calls : List Str := ["one", "other", "found", "around", "cycle", "sizes", "at", "others", "ways", "part", "call"]
theorem sc_p_first_calls : FnScope ["one", "other", "found", "around", "cycle", "sizes", "at", "others", "ways", "part", "call"] ["one", "other"] (defScope s_p_first_calls) := ⟨rfl, rfl, rfl, by decide +kernel, rfl, by decide +kernel, by decide +kernel⟩
abbrev s_p_word_at : Stmt := topS 28
abbrev N_p_word_at : List Str := ["one", "other", "number", "many", "present", "word", "rest", "step", "call"]
theorem sc_p_word_at : FnScope ["one", "other", "number", "many", "present", "word", "rest", "step", "call"] ["one", "other", "number"] (defScope s_p_word_at) := ⟨rfl, rfl, rfl, by decide +kernel, rfl, by decide +kernel, by decide +kernel⟩
abbrev s_p_leads : Stmt := topS 29
abbrev N_p_leads : List Str := ["one", "other", "value", "item"]
theorem sc_p_leads : FnScope ["one", "other", "value", "item"] ["one", "other", "value"] (defScope s_p_leads) := ⟨rfl, rfl, rfl, by decide +kernel, rfl, by decide +kernel, by decide +kernel⟩
abbrev s_box : Stmt := topS 31
abbrev N_box : List Str := ["_law_script", "_law_k", "_law_cell"]
theorem sc_box : FnScope ["_law_script", "_law_k", "_law_cell"] ["_law_script", "_law_k"] (defScope s_box) := ⟨rfl, rfl, rfl, by decide +kernel, rfl, by decide +kernel, by decide +kernel⟩
abbrev s_take : Stmt := topS 32
abbrev N_take : List Str := ["_law_box_here", "_law_below", "_law_found", "_law_once"]
theorem sc_take : FnScope ["_law_box_here", "_law_below", "_law_found", "_law_once"] ["_law_box_here", "_law_below"] (defScope s_take) := ⟨rfl, rfl, rfl, by decide +kernel, rfl, by decide +kernel, by decide +kernel⟩
abbrev s_pick : Stmt := topS 33
abbrev N_pick : List Str := ["_law_box_here", "_law_some"]
theorem sc_pick : FnScope ["_law_box_here", "_law_some"] ["_law_box_here", "_law_some"] (defScope s_pick) := ⟨rfl, rfl, rfl, by decide +kernel, rfl, by decide +kernel, by decide +kernel⟩
abbrev s_same : Stmt := topS 34
abbrev N_same : List Str := ["_law_found", "_law_due", "_law_mine", "_law_its"]
theorem sc_same : FnScope ["_law_found", "_law_due", "_law_mine", "_law_its"] ["_law_found", "_law_due"] (defScope s_same) := ⟨rfl, rfl, rfl, by decide +kernel, rfl, by decide +kernel, by decide +kernel⟩
abbrev s_strewn : Stmt := topS 35
abbrev N_strewn : List Str := ["_law_box_here", "_law_some", "_law_left", "_law_found", "_law_turn"]
theorem sc_strewn : FnScope ["_law_box_here", "_law_some", "_law_left", "_law_found", "_law_turn"] ["_law_box_here", "_law_some"] (defScope s_strewn) := ⟨rfl, rfl, rfl, by decide +kernel, rfl, by decide +kernel, by decide +kernel⟩
abbrev s_drawn_tie : Stmt := topS 36
abbrev N_drawn_tie : List Str := ["_law_box_here", "_law_size", "_law_row", "_law_found", "_law_at"]
theorem sc_drawn_tie : FnScope ["_law_box_here", "_law_size", "_law_row", "_law_found", "_law_at"] ["_law_box_here", "_law_size"] (defScope s_drawn_tie) := ⟨rfl, rfl, rfl, by decide +kernel, rfl, by decide +kernel, by decide +kernel⟩
abbrev s_calls : Stmt := topS 37
abbrev N_calls : List Str := ["_law_size", "_law_found", "_law_low", "_law_high"]
theorem sc_calls : FnScope ["_law_size", "_law_found", "_law_low", "_law_high"] ["_law_size"] (defScope s_calls) := ⟨rfl, rfl, rfl, by decide +kernel, rfl, by decide +kernel, by decide +kernel⟩
abbrev s_tour_of : Stmt := topS 38
abbrev N_tour_of : List Str := ["_law_box_here", "_law_size", "_law_most", "_law_turn"]
theorem sc_tour_of : FnScope ["_law_box_here", "_law_size", "_law_most", "_law_turn"] ["_law_box_here", "_law_size", "_law_most"] (defScope s_tour_of) := ⟨rfl, rfl, rfl, by decide +kernel, rfl, by decide +kernel, by decide +kernel⟩
abbrev s_asked : Stmt := topS 39
abbrev N_asked : List Str := ["_law_tie", "_law_call", "_law_low", "_law_high", "_law_found"]
theorem sc_asked : FnScope ["_law_tie", "_law_call", "_law_low", "_law_high", "_law_found"] ["_law_tie", "_law_call"] (defScope s_asked) := ⟨rfl, rfl, rfl, by decide +kernel, rfl, by decide +kernel, by decide +kernel⟩
abbrev s_toured : Stmt := topS 40
abbrev N_toured : List Str := ["_law_tie", "_law_tour", "_law_call"]
theorem sc_toured : FnScope ["_law_tie", "_law_tour", "_law_call"] ["_law_tie", "_law_tour"] (defScope s_toured) := ⟨rfl, rfl, rfl, by decide +kernel, rfl, by decide +kernel, by decide +kernel⟩
abbrev s_rounds : Stmt := topS 41
abbrev N_rounds : List Str := ["_law_tie", "_law_mate", "_law_found", "_law_met", "_law_who", "_law_lap", "_law_here"]
theorem sc_rounds : FnScope ["_law_tie", "_law_mate", "_law_found", "_law_met", "_law_who", "_law_lap", "_law_here"] ["_law_tie", "_law_mate"] (defScope s_rounds) := ⟨rfl, rfl, rfl, by decide +kernel, rfl, by decide +kernel, by decide +kernel⟩
abbrev s_sized : Stmt := topS 42
abbrev N_sized : List Str := ["_law_door", "_law_tie", "_law_mate", "_law_caught", "error", "_law_fine"]
theorem sc_sized : FnScope ["_law_door", "_law_tie", "_law_mate", "_law_caught", "error", "_law_fine"] ["_law_door", "_law_tie", "_law_mate"] (defScope s_sized) := ⟨rfl, rfl, rfl, by decide +kernel, rfl, by decide +kernel, by decide +kernel⟩
abbrev s_right : Stmt := topS 43
abbrev N_right : List Str := ["_law_box_here", "_law_turn", "_law_size", "_law_tie", "_law_mate", "_law_due", "_law_told", "_law_far", "_law_odd", "_law_door", "_law_lap"]
theorem sc_right : FnScope ["_law_box_here", "_law_turn", "_law_size", "_law_tie", "_law_mate", "_law_due", "_law_told", "_law_far", "_law_odd", "_law_door", "_law_lap"] ["_law_box_here"] (defScope s_right) := ⟨rfl, rfl, rfl, by decide +kernel, rfl, by decide +kernel, by decide +kernel⟩
abbrev s_law : Stmt := topS 44
abbrev N_law : List Str := ["_law_script", "_law_k"]
theorem sc_law : FnScope ["_law_script", "_law_k"] ["_law_script"] (defScope s_law) := ⟨rfl, rfl, rfl, by decide +kernel, rfl, by decide +kernel, by decide +kernel⟩
abbrev s_i_OtherSize : Stmt := inClass (topS 3) 0
abbrev N_i_OtherSize : List Str := ["self", "size"]
theorem sc_i_OtherSize : FnScope ["self", "size"] ["self", "size"] (defScope s_i_OtherSize) := ⟨rfl, rfl, rfl, by decide +kernel, rfl, by decide +kernel, by decide +kernel⟩
/-- what the top has left: the built-ins' names are free, each def stands at its name -/
structure Env (K : PySem.W.Frag) (mg : Str → Option Value) where
  n_isinstance : mg "isinstance" = none
  n_int : mg "int" = none
  n_bool : mg "bool" = none
  n_tuple : mg "tuple" = none
  n_len : mg "len" = none
  n_all : mg "all" = none
  n_list : mg "list" = none
  n_set : mg "set" = none
  n_range : mg "range" = none
  n_enumerate : mg "enumerate" = none
  n_min : mg "min" = none
  n_max : mg "max" = none
  n_sorted : mg "sorted" = none
  n_abs : mg "abs" = none
  n_zip : mg "zip" = none
  n_str : mg "str" = none
  n_ValueError : mg "ValueError" = none
  n_sum : mg "sum" = none
  f_p_is_integer_below : Addr
  d_p_is_integer_below : FuncData
  F_p_is_integer_below : Fun K "is_integer_below" "is_integer_below" s_p_is_integer_below f_p_is_integer_below d_p_is_integer_below
  g_p_is_integer_below : mg "is_integer_below" = some (.ref f_p_is_integer_below)
  f_p_check_person : Addr
  d_p_check_person : FuncData
  F_p_check_person : Fun K "check_person" "check_person" s_p_check_person f_p_check_person d_p_check_person
  g_p_check_person : mg "check_person" = some (.ref f_p_check_person)
  f_p_check_call : Addr
  d_p_check_call : FuncData
  F_p_check_call : Fun K "check_call" "check_call" s_p_check_call f_p_check_call d_p_check_call
  g_p_check_call : mg "check_call" = some (.ref f_p_check_call)
  f_p_check_word : Addr
  d_p_check_word : FuncData
  F_p_check_word : Fun K "check_word" "check_word" s_p_check_word f_p_check_word d_p_check_word
  g_p_check_word : mg "check_word" = some (.ref f_p_check_word)
  f_p_is_call : Addr
  d_p_is_call : FuncData
  F_p_is_call : Fun K "is_call" "is_call" s_p_is_call f_p_is_call d_p_is_call
  g_p_is_call : mg "is_call" = some (.ref f_p_is_call)
  f_p_join_two : Addr
  d_p_join_two : FuncData
  F_p_join_two : Fun K "join_two" "join_two" s_p_join_two f_p_join_two d_p_join_two
  g_p_join_two : mg "join_two" = some (.ref f_p_join_two)
  f_p_called : Addr
  d_p_called : FuncData
  F_p_called : Fun K "called" "called" s_p_called f_p_called d_p_called
  g_p_called : mg "called" = some (.ref f_p_called)
  f_p_called_all : Addr
  d_p_called_all : FuncData
  F_p_called_all : Fun K "called_all" "called_all" s_p_called_all f_p_called_all d_p_called_all
  g_p_called_all : mg "called_all" = some (.ref f_p_called_all)
  f_p_check_sizes : Addr
  d_p_check_sizes : FuncData
  F_p_check_sizes : Fun K "check_sizes" "check_sizes" s_p_check_sizes f_p_check_sizes d_p_check_sizes
  g_p_check_sizes : mg "check_sizes" = some (.ref f_p_check_sizes)
  f_p_choice_at : Addr
  d_p_choice_at : FuncData
  F_p_choice_at : Fun K "choice_at" "choice_at" s_p_choice_at f_p_choice_at d_p_choice_at
  g_p_choice_at : mg "choice_at" = some (.ref f_p_choice_at)
  f_p_cycle_from : Addr
  d_p_cycle_from : FuncData
  F_p_cycle_from : Fun K "cycle_from" "cycle_from" s_p_cycle_from f_p_cycle_from d_p_cycle_from
  g_p_cycle_from : mg "cycle_from" = some (.ref f_p_cycle_from)
  f_p_cycles : Addr
  d_p_cycles : FuncData
  F_p_cycles : Fun K "cycles" "cycles" s_p_cycles f_p_cycles d_p_cycles
  g_p_cycles : mg "cycles" = some (.ref f_p_cycles)
  f_p_distance : Addr
  d_p_distance : FuncData
  F_p_distance : Fun K "distance" "distance" s_p_distance f_p_distance d_p_distance
  g_p_distance : mg "distance" = some (.ref f_p_distance)
  f_p_ways_to_split : Addr
  d_p_ways_to_split : FuncData
  F_p_ways_to_split : Fun K "ways_to_split" "ways_to_split" s_p_ways_to_split f_p_ways_to_split d_p_ways_to_split
  g_p_ways_to_split : mg "ways_to_split" = some (.ref f_p_ways_to_split)
  f_p_words_many : Addr
  d_p_words_many : FuncData
  F_p_words_many : Fun K "words_many" "words_many" s_p_words_many f_p_words_many d_p_words_many
  g_p_words_many : mg "words_many" = some (.ref f_p_words_many)
  f_p_splitting_calls : Addr
  d_p_splitting_calls : FuncData
  F_p_splitting_calls : Fun K "splitting_calls" "splitting_calls" s_p_splitting_calls f_p_splitting_calls d_p_splitting_calls
  g_p_splitting_calls : mg "splitting_calls" = some (.ref f_p_splitting_calls)
  f_p_first_calls : Addr
  d_p_first_calls : FuncData
  F_p_first_calls : Fun K "first_calls" "first_calls" s_p_first_calls f_p_first_calls d_p_first_calls
  g_p_first_calls : mg "first_calls" = some (.ref f_p_first_calls)
  f_p_word_at : Addr
  d_p_word_at : FuncData
  F_p_word_at : Fun K "word_at" "word_at" s_p_word_at f_p_word_at d_p_word_at
  g_p_word_at : mg "word_at" = some (.ref f_p_word_at)
  f_p_leads : Addr
  d_p_leads : FuncData
  F_p_leads : Fun K "leads" "leads" s_p_leads f_p_leads d_p_leads
  g_p_leads : mg "leads" = some (.ref f_p_leads)
  f_box : Addr
  d_box : FuncData
  F_box : Fun K "_law_box" "_law_box" s_box f_box d_box
  g_box : mg "_law_box" = some (.ref f_box)
  f_take : Addr
  d_take : FuncData
  F_take : Fun K "_law_take" "_law_take" s_take f_take d_take
  g_take : mg "_law_take" = some (.ref f_take)
  f_pick : Addr
  d_pick : FuncData
  F_pick : Fun K "_law_pick" "_law_pick" s_pick f_pick d_pick
  g_pick : mg "_law_pick" = some (.ref f_pick)
  f_same : Addr
  d_same : FuncData
  F_same : Fun K "_law_same" "_law_same" s_same f_same d_same
  g_same : mg "_law_same" = some (.ref f_same)
  f_strewn : Addr
  d_strewn : FuncData
  F_strewn : Fun K "_law_strewn" "_law_strewn" s_strewn f_strewn d_strewn
  g_strewn : mg "_law_strewn" = some (.ref f_strewn)
  f_drawn_tie : Addr
  d_drawn_tie : FuncData
  F_drawn_tie : Fun K "_law_drawn_tie" "_law_drawn_tie" s_drawn_tie f_drawn_tie d_drawn_tie
  g_drawn_tie : mg "_law_drawn_tie" = some (.ref f_drawn_tie)
  f_calls : Addr
  d_calls : FuncData
  F_calls : Fun K "_law_calls" "_law_calls" s_calls f_calls d_calls
  g_calls : mg "_law_calls" = some (.ref f_calls)
  f_tour_of : Addr
  d_tour_of : FuncData
  F_tour_of : Fun K "_law_tour_of" "_law_tour_of" s_tour_of f_tour_of d_tour_of
  g_tour_of : mg "_law_tour_of" = some (.ref f_tour_of)
  f_asked : Addr
  d_asked : FuncData
  F_asked : Fun K "_law_asked" "_law_asked" s_asked f_asked d_asked
  g_asked : mg "_law_asked" = some (.ref f_asked)
  f_toured : Addr
  d_toured : FuncData
  F_toured : Fun K "_law_toured" "_law_toured" s_toured f_toured d_toured
  g_toured : mg "_law_toured" = some (.ref f_toured)
  f_rounds : Addr
  d_rounds : FuncData
  F_rounds : Fun K "_law_rounds" "_law_rounds" s_rounds f_rounds d_rounds
  g_rounds : mg "_law_rounds" = some (.ref f_rounds)
  f_sized : Addr
  d_sized : FuncData
  F_sized : Fun K "_law_sized" "_law_sized" s_sized f_sized d_sized
  g_sized : mg "_law_sized" = some (.ref f_sized)
  f_right : Addr
  d_right : FuncData
  F_right : Fun K "_law_right" "_law_right" s_right f_right d_right
  g_right : mg "_law_right" = some (.ref f_right)
  C_OtherSize : Addr
  gC_OtherSize : mg "OtherSize" = some (.ref C_OtherSize)
  C_NotResult : Addr
  gC_NotResult : mg "NotResult" = some (.ref C_NotResult)
  C_NotShortest : Addr
  gC_NotShortest : mg "NotShortest" = some (.ref C_NotShortest)
  own_OtherSize : Own K "ValueError.__new__" [.type "ValueError", .type "Exception", .type "BaseException", .type "object"] C_OtherSize
  kpt_OtherSize : KeptC K C_OtherSize
  no_OtherSize : PySem.W.findIn K (.ref C_OtherSize) "size" = some none
  f_i_OtherSize : Addr
  d_i_OtherSize : FuncData
  F_i_OtherSize : Fun K "__init__" "OtherSize.__init__" s_i_OtherSize f_i_OtherSize d_i_OtherSize
  iC_OtherSize : PySem.W.findIn K (.ref C_OtherSize) "__init__" = some (some (.ref f_i_OtherSize))
  tI_OtherSize : PySem.W.typeIn K (.ref f_i_OtherSize) = some (.type "function")
  ee_OtherSize : PySem.W.exmOne K (.ref C_OtherSize) (.ref C_OtherSize) = some true
  kk_OtherSize : PySem.W.kitOne K (.ref C_OtherSize) (.ref C_OtherSize) = some true
  ex_OtherSize_NotResult : PySem.W.exmOne K (.ref C_OtherSize) (.ref C_NotResult) = some false
  ki_OtherSize_NotResult : PySem.W.kitOne K (.ref C_OtherSize) (.ref C_NotResult) = some false
  ex_OtherSize_NotShortest : PySem.W.exmOne K (.ref C_OtherSize) (.ref C_NotShortest) = some false
  ki_OtherSize_NotShortest : PySem.W.kitOne K (.ref C_OtherSize) (.ref C_NotShortest) = some false
  kb_OtherSize_ValueError : PySem.W.kitOne K (.ref C_OtherSize) (.type "ValueError") = some true
  vV_ValueError : PySem.W.findCls K (.type "ValueError") (.type "type") "__init__" = some (.val (.builtin "ValueError.__init__"))
theorem Env.b_i_OtherSize {K : PySem.W.Frag} {mg : Str → Option Value} (T : Env K mg) : Binds K T.d_i_OtherSize ["self", "size"] [] := T.F_i_OtherSize.binds fun _ _ _ _ _ _ us hl => match us, hl with | [_, _], _ => rfl
theorem Env.b_p_is_integer_below {K : PySem.W.Frag} {mg : Str → Option Value} (T : Env K mg) : Binds K T.d_p_is_integer_below ["value", "limit"] [] := T.F_p_is_integer_below.binds fun _ _ _ _ _ _ us hl => match us, hl with | [_, _], _ => rfl
theorem Env.b_p_check_person {K : PySem.W.Frag} {mg : Str → Option Value} (T : Env K mg) : Binds K T.d_p_check_person ["size", "person"] [] := T.F_p_check_person.binds fun _ _ _ _ _ _ us hl => match us, hl with | [_, _], _ => rfl
theorem Env.b_p_check_call {K : PySem.W.Frag} {mg : Str → Option Value} (T : Env K mg) : Binds K T.d_p_check_call ["size", "call"] [] := T.F_p_check_call.binds fun _ _ _ _ _ _ us hl => match us, hl with | [_, _], _ => rfl
theorem Env.b_p_check_word {K : PySem.W.Frag} {mg : Str → Option Value} (T : Env K mg) : Binds K T.d_p_check_word ["size", "word"] [] := T.F_p_check_word.binds fun _ _ _ _ _ _ us hl => match us, hl with | [_, _], _ => rfl
theorem Env.b_p_is_call {K : PySem.W.Frag} {mg : Str → Option Value} (T : Env K mg) : Binds K T.d_p_is_call ["value", "size"] [] := T.F_p_is_call.binds fun _ _ _ _ _ _ us hl => match us, hl with | [_, _], _ => rfl
theorem Env.b_p_join_two {K : PySem.W.Frag} {mg : Str → Option Value} (T : Env K mg) : Binds K T.d_p_join_two ["joined", "a", "b"] [] := T.F_p_join_two.binds fun _ _ _ _ _ _ us hl => match us, hl with | [_, _, _], _ => rfl
theorem Env.b_p_called {K : PySem.W.Frag} {mg : Str → Option Value} (T : Env K mg) : Binds K T.d_p_called ["pairing", "call"] [] := T.F_p_called.binds fun _ _ _ _ _ _ us hl => match us, hl with | [_, _], _ => rfl
theorem Env.b_p_called_all {K : PySem.W.Frag} {mg : Str → Option Value} (T : Env K mg) : Binds K T.d_p_called_all ["pairing", "word"] [] := T.F_p_called_all.binds fun _ _ _ _ _ _ us hl => match us, hl with | [_, _], _ => rfl
theorem Env.b_p_check_sizes {K : PySem.W.Frag} {mg : Str → Option Value} (T : Env K mg) : Binds K T.d_p_check_sizes ["first", "second"] [] := T.F_p_check_sizes.binds fun _ _ _ _ _ _ us hl => match us, hl with | [_, _], _ => rfl
theorem Env.b_p_choice_at {K : PySem.W.Frag} {mg : Str → Option Value} (T : Env K mg) : Binds K T.d_p_choice_at ["choices", "number"] [] := T.F_p_choice_at.binds fun _ _ _ _ _ _ us hl => match us, hl with | [_, _], _ => rfl
theorem Env.b_p_cycle_from {K : PySem.W.Frag} {mg : Str → Option Value} (T : Env K mg) : Binds K T.d_p_cycle_from ["one", "other", "person"] [] := T.F_p_cycle_from.binds fun _ _ _ _ _ _ us hl => match us, hl with | [_, _, _], _ => rfl
theorem Env.b_p_cycles {K : PySem.W.Frag} {mg : Str → Option Value} (T : Env K mg) : Binds K T.d_p_cycles ["one", "other"] [] := T.F_p_cycles.binds fun _ _ _ _ _ _ us hl => match us, hl with | [_, _], _ => rfl
theorem Env.b_p_distance {K : PySem.W.Frag} {mg : Str → Option Value} (T : Env K mg) : Binds K T.d_p_distance ["one", "other"] [] := T.F_p_distance.binds fun _ _ _ _ _ _ us hl => match us, hl with | [_, _], _ => rfl
theorem Env.b_p_ways_to_split {K : PySem.W.Frag} {mg : Str → Option Value} (T : Env K mg) : Binds K T.d_p_ways_to_split ["sizes"] [] := T.F_p_ways_to_split.binds fun _ _ _ _ _ _ us hl => match us, hl with | [_], _ => rfl
theorem Env.b_p_words_many {K : PySem.W.Frag} {mg : Str → Option Value} (T : Env K mg) : Binds K T.d_p_words_many ["one", "other"] [] := T.F_p_words_many.binds fun _ _ _ _ _ _ us hl => match us, hl with | [_, _], _ => rfl
theorem Env.b_p_splitting_calls {K : PySem.W.Frag} {mg : Str → Option Value} (T : Env K mg) : Binds K T.d_p_splitting_calls ["cycle"] [] := T.F_p_splitting_calls.binds fun _ _ _ _ _ _ us hl => match us, hl with | [_], _ => rfl
theorem Env.b_p_first_calls {K : PySem.W.Frag} {mg : Str → Option Value} (T : Env K mg) : Binds K T.d_p_first_calls ["one", "other"] [] := T.F_p_first_calls.binds fun _ _ _ _ _ _ us hl => match us, hl with | [_, _], _ => rfl
theorem Env.b_p_word_at {K : PySem.W.Frag} {mg : Str → Option Value} (T : Env K mg) : Binds K T.d_p_word_at ["one", "other", "number"] [] := T.F_p_word_at.binds fun _ _ _ _ _ _ us hl => match us, hl with | [_, _, _], _ => rfl
theorem Env.b_p_leads {K : PySem.W.Frag} {mg : Str → Option Value} (T : Env K mg) : Binds K T.d_p_leads ["one", "other", "value"] [] := T.F_p_leads.binds fun _ _ _ _ _ _ us hl => match us, hl with | [_, _, _], _ => rfl
theorem Env.b_box {K : PySem.W.Frag} {mg : Str → Option Value} (T : Env K mg) : Binds K T.d_box ["_law_script", "_law_k"] [] := T.F_box.binds fun _ _ _ _ _ _ us hl => match us, hl with | [_, _], _ => rfl
theorem Env.b_take {K : PySem.W.Frag} {mg : Str → Option Value} (T : Env K mg) : Binds K T.d_take ["_law_box_here", "_law_below"] [] := T.F_take.binds fun _ _ _ _ _ _ us hl => match us, hl with | [_, _], _ => rfl
theorem Env.b_pick {K : PySem.W.Frag} {mg : Str → Option Value} (T : Env K mg) : Binds K T.d_pick ["_law_box_here", "_law_some"] [] := T.F_pick.binds fun _ _ _ _ _ _ us hl => match us, hl with | [_, _], _ => rfl
theorem Env.b_same {K : PySem.W.Frag} {mg : Str → Option Value} (T : Env K mg) : Binds K T.d_same ["_law_found", "_law_due"] [] := T.F_same.binds fun _ _ _ _ _ _ us hl => match us, hl with | [_, _], _ => rfl
theorem Env.b_strewn {K : PySem.W.Frag} {mg : Str → Option Value} (T : Env K mg) : Binds K T.d_strewn ["_law_box_here", "_law_some"] [] := T.F_strewn.binds fun _ _ _ _ _ _ us hl => match us, hl with | [_, _], _ => rfl
theorem Env.b_drawn_tie {K : PySem.W.Frag} {mg : Str → Option Value} (T : Env K mg) : Binds K T.d_drawn_tie ["_law_box_here", "_law_size"] [] := T.F_drawn_tie.binds fun _ _ _ _ _ _ us hl => match us, hl with | [_, _], _ => rfl
theorem Env.b_calls {K : PySem.W.Frag} {mg : Str → Option Value} (T : Env K mg) : Binds K T.d_calls ["_law_size"] [] := T.F_calls.binds fun _ _ _ _ _ _ us hl => match us, hl with | [_], _ => rfl
theorem Env.b_tour_of {K : PySem.W.Frag} {mg : Str → Option Value} (T : Env K mg) : Binds K T.d_tour_of ["_law_box_here", "_law_size", "_law_most"] [] := T.F_tour_of.binds fun _ _ _ _ _ _ us hl => match us, hl with | [_, _, _], _ => rfl
theorem Env.b_asked {K : PySem.W.Frag} {mg : Str → Option Value} (T : Env K mg) : Binds K T.d_asked ["_law_tie", "_law_call"] [] := T.F_asked.binds fun _ _ _ _ _ _ us hl => match us, hl with | [_, _], _ => rfl
theorem Env.b_toured {K : PySem.W.Frag} {mg : Str → Option Value} (T : Env K mg) : Binds K T.d_toured ["_law_tie", "_law_tour"] [] := T.F_toured.binds fun _ _ _ _ _ _ us hl => match us, hl with | [_, _], _ => rfl
theorem Env.b_rounds {K : PySem.W.Frag} {mg : Str → Option Value} (T : Env K mg) : Binds K T.d_rounds ["_law_tie", "_law_mate"] [] := T.F_rounds.binds fun _ _ _ _ _ _ us hl => match us, hl with | [_, _], _ => rfl
theorem Env.b_sized {K : PySem.W.Frag} {mg : Str → Option Value} (T : Env K mg) : Binds K T.d_sized ["_law_door", "_law_tie", "_law_mate"] [] := T.F_sized.binds fun _ _ _ _ _ _ us hl => match us, hl with | [_, _, _], _ => rfl
theorem Env.b_right {K : PySem.W.Frag} {mg : Str → Option Value} (T : Env K mg) : Binds K T.d_right ["_law_box_here"] [] := T.F_right.binds fun _ _ _ _ _ _ us hl => match us, hl with | [_], _ => rfl
end Pc
namespace Pc
open PySem PySem.Spec PyProof.Rows L2 RZ
section
variable {P : Program} {w : World} {K : PySem.W.Frag} {mg : Str → Option Value} {base : Heap}
theorem ok_i_OtherSize (T : Env K mg) : FnOk P w K mg base CX0 1 T.f_i_OtherSize T.d_i_OtherSize ["self", "size"] (spInit1 T.C_OtherSize "size") := by
  refine T.F_i_OtherSize.ok sc_i_OtherSize (fun vs H Q E h => ?_) (fun cdv A outer s H vs Q E hr h => ?_)
  · obtain ⟨a, v, rfl, _⟩ := h
    rfl
  · obtain ⟨a, v, rfl, ha, q⟩ := h
    refine ⟨_, pss_cons (ps_expr (pe_binit (o := .Constant .none 0 ⟨0, 0, 0, 0⟩) bsV.fb (by rfl) T.n_ValueError (by decide +kernel) (by decide) (by decide) (by kernel_rfl) (by decide +kernel) (by decide +kernel) T.vV_ValueError (pa_cons (pv 0) (pa_cons pe_str pa_nil)))) (pss_one (ps_os (newId := "ValueError.__new__") bsV.sf (pv 0) (pv 1))), ?_⟩
    exact ⟨.ref a, rfl, a, _, [.str _], rfl, (by show 1 ≤ 1000; decide), T.own_OtherSize, ha, v, rfl, .ref a, rfl, a, _, rfl, T.own_OtherSize, T.no_OtherSize, ha, fun dx n ne => q dx n ne⟩
end
end Pc
namespace Pc
open PySem PySem.Spec PyProof.Rows L2 RZ
section
variable {P : Program} {w : World} {K : PySem.W.Frag} {mg : Str → Option Value} {base : Heap}
/-! ### a source -/
def spBox (K : PySem.W.Frag) : Sp := fun vs H Q _ => ∃ (a : Addr) (ns : List Int) (k : Nat), vs = [.ref a, .int k] ∧ SqL K H a (ns.map V.int) ∧ k ≤ 100 ∧
  ∀ H' b, Same H H' → H b = none → Box 1000000000 H' b → Q (.ref b) H'
theorem ok_box (T : Env K mg) : FnOk P w K mg base CX0 1 T.f_box T.d_box ["_law_script", "_law_k"] (spBox K) := by
  refine T.F_box.ok sc_box (fun vs H Q E h => ?_) (fun cdv A outer s H vs Q E hr h => ?_)
  · obtain ⟨a, ns, k, rfl, _⟩ := h
    rfl
  · obtain ⟨a, ns, k, rfl, hS, hk, q⟩ := h
    refine ⟨_, pss_cons (ps_set (i := 2) sc_box.nd rfl (.inl rfl)
        (pe_ifExp (pt_cmpR op_lt (pv 1) (pe_callB call_len_seq (by rfl) T.n_len PySem.boot_len (pa_cons (pv 0) pa_nil)) (nomark _)) (pe_ix ix_list (pv 0) (pv 1) (fun _ _ => rfl)) pe_int))
      (pss_one (ps_ret (pe_lst (pa_cons
          (pe_op op_mul (pe_callB call_abs (by rfl) T.n_abs (by decide +kernel) (pa_cons (pv 2) pa_nil))
            (pe_callTy call_int1 (by rfl) T.n_int (by decide +kernel) (pa_cons (pe_cmpR op_ge (pe_callB call_abs (by rfl) T.n_abs (by decide +kernel) (pa_cons (pv 2) pa_nil)) (pe_op op_pow pe_int pe_int) (nomark _)) pa_nil)))
        (pa_cons (pe_op op_add (pe_op op_add (pe_op op_mod (pv 2) pe_int) (pe_op op_mul pe_int (pv 1))) pe_int)
        (pa_cons pe_int pa_nil)))))), ?_⟩
    refine ⟨.int k, rfl, .ref a, rfl, a, ns.map V.int, rfl, .inl hS, _, _, rfl, rfl, _, rfl, ite2 (fun e => ?_) (fun e => ?_)⟩
    · have e1 : k < ns.length := by
        have := of_decide_eq_true e
        rw [List.length_map] at this
        omega
      refine ⟨.ref a, rfl, .int k, rfl, a, _, _, _, rfl, rfl, hS, atI_nat (v := .int ns[k]) (by rw [List.getElem?_map, List.getElem?_eq_getElem e1]; rfl), ?_⟩
      revert e; generalize ns[k] = c; intro _
      refine ⟨_, rfl, _, rfl, _, rfl, _, rfl, 10, 18, rfl, rfl, ⟨by decide, by decide, by decide⟩, _, _, rfl, rfl, .inr ⟨_, rfl, _, _, rfl, rfl, .inr (in64 (one0 _)), _, rfl, _, _, rfl, rfl, (show (0 : Int) < 2147483629 by decide), _, rfl, _, _, rfl, rfl, .inl ⟨by decide, by decide⟩, _, _, rfl, rfl, _, _, rfl, rfl, ?_⟩⟩
      refine ⟨by show 3 ≤ sizeLine; decide, fun b nb => q _ b (same_new nb) nb ⟨_, _, 0, upd_same, Int.mul_nonneg ?_ (one0 _).1, ?_, ?_, by decide, by decide⟩⟩
      · split <;> omega
      · omega
      · omega
    · refine ⟨_, rfl, _, rfl, _, rfl, _, rfl, 10, 18, rfl, rfl, ⟨by decide, by decide, by decide⟩, _, _, rfl, rfl, .inr ⟨_, rfl, _, _, rfl, rfl, .inr (in64 (one0 _)), _, rfl, _, _, rfl, rfl, (show (0 : Int) < 2147483629 by decide), _, rfl, _, _, rfl, rfl, .inl ⟨by decide, by decide⟩, _, _, rfl, rfl, _, _, rfl, rfl, ?_⟩⟩
      refine ⟨by show 3 ≤ sizeLine; decide, fun b nb => q _ b (same_new nb) nb ⟨_, _, 0, upd_same, Int.mul_nonneg ?_ (one0 _).1, ?_, ?_, by decide, by decide⟩⟩
      · split <;> omega
      · omega
      · omega
end
end Pc
namespace Pc
open PySem PySem.Spec PyProof.Rows L2 RZ
section
variable {P : Program} {w : World} {K : PySem.W.Frag} {mg : Str → Option Value} {base : Heap}
/-! ### a draw below a span of at most ten million -/
def spTake : Sp := fun vs H Q _ => ∃ (b : Addr) (n : Nat) (s : Int), vs = [.ref b, .int s] ∧ Box (n + 1) H b ∧ 0 < s ∧ s ≤ 10000000 ∧
  ∀ (r : Int) (H' : Hp), 0 ≤ r → r < s → Box n H' b → Keep b H H' → Q (.int r) H'
theorem ok_take (T : Env K mg) : FnOk P w K mg base CX0 1 T.f_take T.d_take ["_law_box_here", "_law_below"] spTake := by
  refine T.F_take.ok sc_take (fun vs H Q E h => ?_) (fun cdv A outer s H vs Q E hr h => ?_)
  · obtain ⟨b, n, s, rfl, _⟩ := h
    rfl
  · obtain ⟨b, n, s, rfl, ⟨x, y, z, hb, hx, hy, hy2, hz, hz2⟩, hs, hs2, q⟩ := h
    refine ⟨_, pss_cons (ps_if (pt_cmpR op_gt (pe_ix ix_list (pv 0) pe_int (fun _ _ => rfl)) pe_int (nomark _))
        (pss_cons (ps_set (i := 2) sc_take.nd rfl (.inl rfl) (pe_op op_mod (pe_ix ix_list (pv 0) pe_int (fun _ _ => rfl)) (pv 1)))
        (pss_cons (ps_asg (pe_op op_fdiv (pe_ix ix_list (pv 0) pe_int (fun _ _ => rfl)) (pv 1)) (pg_sub (pv 0) pe_int set_list))
        (pss_one (ps_ret (pv 2))))) pss_nil)
      (pss_cons (ps_if (pt_cmpR op_gt (pv 1) (pe_op op_pow pe_int pe_int) (nomark _)) pss_never pss_nil)
      (pss_cons (ps_asg (pe_op op_add (pe_ix ix_list (pv 0) pe_int (fun _ _ => rfl)) pe_int) (pg_sub (pv 0) pe_int set_list))
      (pss_cons (ps_set (i := 3) sc_take.nd rfl (.inl rfl) (pe_op op_mod (pe_op op_pow (pe_op op_add (pe_ix ix_list (pv 0) pe_int (fun _ _ => rfl)) (pe_op op_mul pe_int (pe_ix ix_list (pv 0) pe_int (fun _ _ => rfl)))) pe_int) pe_int))
      (pss_one (ps_ret (pe_op op_mod (pe_op op_fdiv (pe_op op_mod (pe_op op_add (pe_op op_mul (pv 3) (pe_op op_add (pe_op op_mod (pv 3) pe_int) pe_int)) (pe_op op_mul (pe_ix ix_list (pv 0) pe_int (fun _ _ => rfl)) pe_int)) pe_int) pe_int) (pv 1))))))), ?_⟩
    have hS : SqL K H b [.int x, .int y, .int z] := .inl (.inl hb)
    refine ⟨.ref b, rfl, b, _, 0, .int x, rfl, rfl, hS, atI_nat (j := 0) rfl, x, 0, rfl, rfl, _, rfl, ite2 (fun e => ?_) (fun e => ?_)⟩
    · -- the number itself serves
      refine ⟨.ref b, rfl, b, _, 0, .int x, rfl, rfl, hS, atI_nat (j := 0) rfl, .int s, rfl, x, s, rfl, rfl, hs, ?_⟩
      refine ⟨.ref b, rfl, b, _, 0, .int x, rfl, rfl, hS, atI_nat (j := 0) rfl, .int s, rfl, x, s, rfl, rfl, ⟨hs, by omega⟩, .ref b, rfl, b, _, 0, 0, rfl, rfl, hb, rfl, ?_⟩
      refine ⟨_, rfl, q _ _ (Int.emod_nonneg _ (by omega)) (Int.emod_lt_of_pos _ hs) ⟨_, y, z, upd_same, ?_, hy, hy2, hz, by omega⟩ keep_upd⟩
      exact Int.ediv_nonneg hx (by omega)
    · refine ⟨.int s, rfl, 10, 7, rfl, rfl, ⟨by decide, by decide, by decide⟩, s, _, rfl, rfl, _, rfl, ite2 (fun e2 => ?_) (fun _ => ?_)⟩
      · have e3 := of_decide_eq_true e2
        have e4 : (10 : Int) ^ Int.toNat 7 = 10000000 := by decide
        rw [e4] at e3
        omega
      refine ⟨.ref b, rfl, b, _, 2, .int z, rfl, rfl, hS, atI_nat (j := 2) rfl, z, 1, rfl, rfl, .ref b, rfl, b, _, 2, 2, rfl, rfl, hb, rfl, ?_⟩
      have h2 : upd H b (.lst ([V.int x, V.int y, V.int z].set 2 (.int (z + 1)))) b = some (.lst [.int x, .int y, .int (z + 1)]) := upd_same
      have hS2 : SqL K (upd H b (.lst ([V.int x, V.int y, V.int z].set 2 (.int (z + 1))))) b [.int x, .int y, .int (z + 1)] := .inl (.inl h2)
      refine ⟨.ref b, rfl, b, _, 1, .int y, rfl, rfl, hS2, atI_nat (j := 1) rfl, .ref b, rfl, b, _, 2, .int (z + 1), rfl, rfl, hS2, atI_nat (j := 2) rfl, 48271, z + 1, rfl, rfl, .inl ⟨by decide, by decide⟩, y, _, rfl, rfl, _, 5, rfl, rfl, ⟨by decide, by decide, by omega⟩, _, 2147483647, rfl, rfl, (show (0 : Int) < 2147483647 by decide), ?_⟩
      have o1 : 0 ≤ (y + 48271 * (z + 1)) ^ Int.toNat 5 % 2147483647 := Int.emod_nonneg _ (by decide)
      have o2 : (y + 48271 * (z + 1)) ^ Int.toNat 5 % 2147483647 < 2147483647 := Int.emod_lt_of_pos _ (by decide)
      refine ⟨_, rfl, _, rfl, _, 30011, rfl, rfl, (show (0 : Int) < 30011 by decide), _, 7, rfl, rfl, _, _, rfl, rfl, .inl ⟨Int.lt_of_lt_of_le (by decide) o1, Int.lt_trans o2 (by decide)⟩, .ref b, rfl, b, _, 2, .int (z + 1), rfl, rfl, hS2, atI_nat (j := 2) rfl, z + 1, 7919, rfl, rfl, .inr ⟨by decide, by decide⟩, _, _, rfl, rfl, _, 2147483629, rfl, rfl, (show (0 : Int) < 2147483629 by decide), _, 64, rfl, rfl, ⟨by decide, by decide⟩, .int s, rfl, _, s, rfl, rfl, hs, ?_⟩
      exact q _ _ (Int.emod_nonneg _ (by omega)) (Int.emod_lt_of_pos _ hs) ⟨x, y, z + 1, h2, hx, hy, hy2, by omega, by omega⟩ keep_upd
end
end Pc
namespace Pc
open PySem PySem.Spec PyProof.Rows L2 RZ
/-! ### data -/
theorem dp_ints {K : PySem.W.Frag} {H : Hp} : ∀ ns : List Int, DpAll K H (ns.map V.int) (ns.map PyData.int)
  | [] => .nil
  | n :: r => .cons (.int n) (dp_ints r)
theorem lay_ints : ∀ ns : List Int, PyData.canLayAll0 (ns.map PyData.int) = true
  | [] => rfl
  | n :: r => by
    show (PyData.canLay0 (.int n) && PyData.canLayAll0 (r.map PyData.int)) = true
    rw [lay_ints r]; rfl
theorem depth_ints : ∀ ns : List Int, PyData.depthAll (ns.map PyData.int) = 0
  | [] => rfl
  | n :: r => by
    show max (PyData.depth (.int n)) (PyData.depthAll (r.map PyData.int)) = 0
    rw [depth_ints r]; rfl
theorem shaped_list {ds : List PyData} (h : PyData.canLayAll0 ds = true) (d : PyData.depthAll ds ≤ 63) : SeqAt.shaped (.list ds) = true := by
  unfold SeqAt.shaped
  rw [Bool.and_eq_true]
  exact ⟨h, decide_eq_true (show PyData.depthAll ds + 1 ≤ 64 by omega)⟩
theorem shaped_tuple {ds : List PyData} (h : PyData.canLayAll0 ds = true) (d : PyData.depthAll ds ≤ 63) : SeqAt.shaped (.tuple ds) = true := by
  unfold SeqAt.shaped
  rw [Bool.and_eq_true]
  exact ⟨h, decide_eq_true (show PyData.depthAll ds + 1 ≤ 64 by omega)⟩
theorem shaped_ints (ns : List Int) : SeqAt.shaped (.list (ns.map PyData.int)) = true := shaped_list (lay_ints ns) (by rw [depth_ints]; decide)
theorem shaped_intsT (ns : List Int) : SeqAt.shaped (.tuple (ns.map PyData.int)) = true := shaped_tuple (lay_ints ns) (by rw [depth_ints]; decide)
/-- what a slice of a list of ints is -/
theorem cut_ints (ns : List Int) (lo hi : Option Int) : ∃ ms : List Int, cutV (ns.map V.int) lo hi = ms.map V.int ∧ ms = (ns.drop (HT.sIx ns.length 0 lo)).take (HT.sIx ns.length ns.length hi - HT.sIx ns.length 0 lo) := by
  refine ⟨_, ?_, rfl⟩
  unfold cutV
  rw [List.length_map, List.map_take, List.map_drop]
theorem map_set_int (cs : List Int) (j : Nat) (v : Int) : (cs.map V.int).set j (.int v) = (cs.set j v).map V.int := by
  rw [List.map_set]
theorem small63 {n : Nat} (h : n ≤ 63) : n ≤ sizeLine := Nat.le_trans h (by decide)
end Pc
namespace Pc
open PySem PySem.Spec PyProof.Rows L2 RZ
/-! ### xs != [] for any items -/
def rNeNil (K : PySem.W.Frag) : R2 := fun x y H Q => ∃ a b xs, x = .ref a ∧ y = .ref b ∧ SqL K H a xs ∧ SqL K H b [] ∧ Q (.bl (!xs.isEmpty)) H
theorem op_neNil {X : Cx} (hu : X.A.units + 64 < cLine) : OpR X (compareOp .NotEq) (rNeNil X.K) := by
  intro pins s σ H x y v u Q I rx ry h
  obtain ⟨a, b, xs, rfl, rfl, h1, h2, q⟩ := h
  cases rx; cases ry
  obtain ⟨its, rv, p1, _⟩ := I.list h1
  obtain ⟨its2, rv2, p2, _⟩ := I.list h2
  have l1 := rv.length
  have l2 := rv2.length
  have hu0 : X.A.units < cLine := by omega
  cases xs with
  | nil =>
    have z1 : its.length = 0 := l1.symm
    have z2 : its2.length = 0 := l2.symm
    refine SeqAt.RcNeAt.lists (e := fun _ => true) p1.isList p2.isList (by simp [z1, z2]) hu0 (fun j j1 _ => ?_) X.prog X.w X.xe _ ?_
    · rw [List.size_toArray] at j1; omega
    · rw [List.size_toArray, z1]
      exact ⟨.bl false, H, I, rfl, q⟩
  | cons z r =>
    have z1 : its.length ≠ 0 := by rw [← l1]; simp
    have z2 : its2.length = 0 := l2.symm
    refine SeqAt.RcNeAt.lists_lengths p1.isList p2.isList (by simp [z2, z1]) hu0 X.prog X.w X.xe _ ?_
    exact ⟨.bl true, H, I, rfl, q⟩
theorem perm_erase {α : Type} : ∀ {l : List α} {i : Nat} (h : i < l.length), (l[i] :: l.eraseIdx i).Perm l
  | a :: r, 0, _ => List.Perm.refl _
  | a :: r, i + 1, h => (List.Perm.swap a (r[i]'(Nat.lt_of_succ_lt_succ h)) (r.eraseIdx i)).trans ((perm_erase (l := r) (i := i) (Nat.lt_of_succ_lt_succ h)).cons a)
/-- the place of an index that is not negative -/
theorem seq_ix {i : Int} {n : Nat} (h0 : 0 ≤ i) (h : i < n) : seqIndex? i n = some i.toNat := seqIndex_of h0 h
end Pc
namespace Pc
open PySem PySem.Spec PyProof.Rows L2 RZ
section
variable {P : Program} {w : World} {K : PySem.W.Frag} {mg : Str → Option Value} {base : Heap}
/-! ### some things in drawn order -/
def spStrewn (K : PySem.W.Frag) : Sp := fun vs H Q _ => ∃ (b a : Addr) (n : Nat) (xs : List V), vs = [.ref b, .ref a] ∧ Box (n + xs.length) H b ∧ SqL K H a xs ∧ xs.length ≤ 1000 ∧
  ∀ (H' : Hp) (p : Addr) (ys : List V), ys.Perm xs → Keep b H H' → Box n H' b → H p = none → H' p = some (.lst ys) → Q (.ref p) H'
theorem ok_strewn (T : Env K mg) : FnOk P w K mg base CX0 2 T.f_strewn T.d_strewn ["_law_box_here", "_law_some"] (spStrewn K) := by
  have GT : FnOk P w K mg base CX0 1 T.f_take T.d_take ["_law_box_here", "_law_below"] spTake := ok_take T
  refine T.F_strewn.ok sc_strewn (fun vs H Q E h => ?_) (fun cdv A outer s H vs Q E hr h => ?_)
  · obtain ⟨b, a, n, xs, rfl, _⟩ := h
    rfl
  · obtain ⟨b, a, n, xs, rfl, hB, hS, hlen, q⟩ := h
    refine ⟨_, pss_cons (ps_par (by rfl) sc_strewn.nd (i := 2) (j := 3) rfl rfl (by decide) rfl rfl (pa_cons (pe_callTy call_list_of (by rfl) T.n_list (by decide +kernel) (pa_cons (pv 1) pa_nil)) (pa_cons (pe_lst pa_nil) pa_nil)) (by rfl))
      (pss_cons (ps_for PassesOwn.never rfl (pi_range1 (by rfl) T.n_range (pa_cons (pe_callB call_len_seq (by rfl) T.n_len PySem.boot_len (pa_cons (pv 2) pa_nil)) pa_nil)) (pg_name (i := 4) sc_strewn.nd rfl (.inl rfl))
        (pss_one (ps_expr (pe_bm PySem.F.plainAttrs_list PySem.F.slot_list_append PySem.F.type_list_append mt_append (pv 3) (pa_cons
          (pe_bm PySem.F.plainAttrs_list PySem.F.slot_list_pop PySem.F.type_list_pop mt_popAt (pv 2) (pa_cons
            (pe_call GT hr (by rfl) T.g_take T.F_take.kp T.b_take .nil pass0 (pa_cons (pv 0) (pa_cons (pe_callB call_len_seq (by rfl) T.n_len PySem.boot_len (pa_cons (pv 2) pa_nil)) pa_nil))) pa_nil)) pa_nil)))))
      (pss_one (ps_ret (pv 3)))), ?_⟩
    refine ⟨.ref a, rfl, a, xs, rfl, .inl hS, fun l nl => ⟨Nat.zero_le _, fun f nf => ⟨_, _, rfl, ?_⟩⟩⟩
    have s1 : Same H (upd (upd H l (.lst xs)) f (.lst [])) := (same_new nl).trans (same_new nf)
    have nf0 : H f = none := (same_new nl).free nf
    have hlf : l ≠ f := ne_of_none upd_same nf
    have hbl : b ≠ l := hB.ne_new nl
    have hbf : b ≠ f := hB.ne_new nf0
    have l0 : (upd (upd H l (.lst xs)) f (.lst [])) l = some (.lst xs) := by rw [upd_ne hlf, upd_same]
    refine ⟨.ref l, rfl, l, xs, rfl, .inl (.inl (.inl l0)), _, rfl, by omega, by omega, ?_⟩
    rw [show ((xs.length : Int)).toNat = xs.length by omega]
    refine for_range (n := xs.length) (fun t σ H' => ∃ (left found : List V) (y : Option V), σ = [some (.ref b), some (.ref a), some (.ref l), some (.ref f), y] ∧ H' l = some (.lst left) ∧ H' f = some (.lst found) ∧ (left ++ found).Perm xs ∧ Box (n + left.length) H' b ∧ Keep b H H' ∧ left.length + t = xs.length)
      ⟨xs, [], none, rfl, l0, upd_same, by rw [List.append_nil], hB.same s1, Keep.of_same s1, rfl⟩ (fun t σ H' ht hW => ?_) (fun σ H' hW => ?_)
    · obtain ⟨left, found, y, rfl, el2, ef2, hp, hb', hk, hm⟩ := hW
      have hl0 : 0 < left.length := by omega
      have hll : left.length ≤ 1000 := by omega
      refine ⟨.ref f, rfl, .inl ⟨rfl, _, .inl (.inl ef2)⟩, .ref l, rfl, .inl ⟨rfl, _, .inl (.inl el2)⟩, .ref b, rfl, .ref l, rfl, l, left, rfl, .inl (.inl (.inl el2)), ?_⟩
      refine ⟨b, n + (left.length - 1), left.length, rfl, hb'.mono (by omega), by omega, by omega, fun r H2 r0 r1 hb2 k2 => ?_⟩
      have el3 : H2 l = some (.lst left) := k2 l _ hbl.symm el2
      have ef3 : H2 f = some (.lst found) := k2 f _ hbf.symm ef2
      have hj : r.toNat < left.length := by omega
      refine ⟨l, left, r, r.toNat, left[r.toNat], rfl, rfl, el3, by omega, by omega, seq_ix r0 r1, List.getElem?_eq_getElem hj, ?_⟩
      have ef4 : (upd H2 l (.lst (left.eraseIdx r.toNat))) f = some (.lst found) := by rw [upd_ne hlf.symm]; exact ef3
      have hfl : found.length ≤ 1000 := by
        have := hp.length_eq
        rw [List.length_append] at this
        omega
      refine ⟨f, found, _, rfl, rfl, ef4, small1000 hfl, left.eraseIdx r.toNat, found ++ [left[r.toNat]], _, rfl, ?_, upd_same, ?_, ?_, ?_, ?_⟩
      · rw [upd_ne hlf, upd_same]
      · refine List.Perm.trans ?_ hp
        have p1 : (left[r.toNat] :: left.eraseIdx r.toNat).Perm left := perm_erase hj
        have p2 : (left.eraseIdx r.toNat ++ (found ++ [left[r.toNat]])).Perm (left[r.toNat] :: left.eraseIdx r.toNat ++ found) := by
          rw [← List.append_assoc]
          exact List.perm_append_comm.trans (by rw [List.singleton_append, List.cons_append])
        exact p2.trans (p1.append_right found)
      · have : (left.eraseIdx r.toNat).length = left.length - 1 := List.length_eraseIdx_of_lt hj
        rw [this]
        refine (hb2.keep (c := l) keep_upd hbl).keep (c := f) keep_upd hbf
      · intro x o nx hx
        have nxl : x ≠ l := ne_of_none hx nl
        have nxf : x ≠ f := ne_of_none hx nf0
        rw [upd_ne nxf, upd_ne nxl]
        exact k2 x o nx (hk x o nx hx)
      · rw [List.length_eraseIdx_of_lt hj]; omega
    · obtain ⟨left, found, y, rfl, el2, ef2, hp, hb', hk, hm⟩ := hW
      have hl0 : left = [] := List.length_eq_zero_iff.mp (by omega)
      subst hl0
      exact ⟨.ref f, rfl, q _ f found hp hk hb' nf0 ef2⟩
end
end Pc
namespace Pc
open PySem PySem.Spec PyProof.Rows L2 RZ
/-! ### pairings as lists of natural numbers -/
/-- the numbers as values -/
def nv (l : List Nat) : List V := l.map fun (i : Nat) => V.int (i : Int)
theorem nv_length (l : List Nat) : (nv l).length = l.length := List.length_map _
theorem nv_get {l : List Nat} {i x : Nat} (h : l[i]? = some x) : (nv l)[i]? = some (.int x) := by
  unfold nv; rw [List.getElem?_map, h]; rfl
theorem nv_at {l : List Nat} {i x : Nat} (h : l[i]? = some x) : atI (nv l) (i : Int) = some (.int x) := atI_nat (nv_get h)
theorem nv_set (l : List Nat) (i x : Nat) : (nv l).set i (.int (x : Int)) = nv (l.set i x) := by
  unfold nv; rw [List.map_set]
theorem nv_get' {l : List Nat} {i : Nat} {v : V} (h : (nv l)[i]? = some v) : ∃ x, l[i]? = some x ∧ v = .int (x : Int) := by
  unfold nv at h
  rw [List.getElem?_map] at h
  cases e : l[i]? with
  | none => rw [e] at h; cases h
  | some x => rw [e] at h; exact ⟨x, rfl, (Option.some.inj h).symm⟩
theorem ixN_nat {n i : Nat} (h : i < n) : ixN n (i : Int) = some i := by
  unfold ixN
  rw [if_pos (by omega), if_pos (by omega)]; rfl
theorem get_some {α : Type} {l : List α} {i : Nat} (h : i < l.length) : ∃ x, l[i]? = some x := ⟨_, List.getElem?_eq_getElem h⟩
theorem get_lt {α : Type} {l : List α} {i : Nat} {x : α} (h : l[i]? = some x) : i < l.length := (List.getElem?_eq_some_iff.mp h).1
/-- a pairing of n people -/
structure IsPair (n : Nat) (ps : List Nat) : Prop where
  len : ps.length = n
  par : ∀ x, x < n → ∃ y, ps[x]? = some y ∧ y < n ∧ y ≠ x ∧ ps[y]? = some x
/-- after t turns: the first t pairs are joined -/
def PInv (os fs : List Nat) (t : Nat) : Prop := fs.length = os.length ∧ ∀ j, j < t → ∀ x y, os[2 * j]? = some x → os[2 * j + 1]? = some y → fs[x]? = some y ∧ fs[y]? = some x
theorem PInv.step {os fs : List Nat} {t x y : Nat} (hnd : os.Nodup) (hlt : ∀ z ∈ os, z < os.length) (h : PInv os fs t) (hx : os[2 * t]? = some x) (hy : os[2 * t + 1]? = some y) :
    PInv os ((fs.set x y).set y x) (t + 1) := by
  obtain ⟨hl, hp⟩ := h
  have xl : x < fs.length := by rw [hl]; exact hlt x (List.mem_of_getElem? hx)
  have yl : y < fs.length := by rw [hl]; exact hlt y (List.mem_of_getElem? hy)
  have xy : x ≠ y := fun e => by
    subst e
    have := nd_ix hnd hx hy
    omega
  refine ⟨by rw [List.length_set, List.length_set, hl], fun j hj u v hu hv => ?_⟩
  by_cases e : j = t
  · subst e
    have e1 : u = x := Option.some.inj (hu.symm.trans hx)
    have e2 : v = y := Option.some.inj (hv.symm.trans hy)
    subst e1 e2
    refine ⟨?_, ?_⟩
    · rw [List.getElem?_set_ne (Ne.symm xy), List.getElem?_set_self xl]
    · rw [List.getElem?_set_self (by rw [List.length_set]; exact yl)]
  · obtain ⟨h1, h2⟩ := hp j (by omega) u v hu hv
    have a1 : x ≠ u := fun z => by subst z; have := nd_ix hnd hx hu; omega
    have a2 : y ≠ u := fun z => by subst z; have := nd_ix hnd hy hu; omega
    have a3 : x ≠ v := fun z => by subst z; have := nd_ix hnd hx hv; omega
    have a4 : y ≠ v := fun z => by subst z; have := nd_ix hnd hy hv; omega
    refine ⟨?_, ?_⟩
    · rw [List.getElem?_set_ne a2, List.getElem?_set_ne a1]; exact h1
    · rw [List.getElem?_set_ne a4, List.getElem?_set_ne a3]; exact h2
theorem PInv.done {os fs : List Nat} {n : Nat} (hp : os.Perm (List.range n)) (he : n % 2 = 0) (h : PInv os fs (n / 2)) : IsPair n fs := by
  have hl : os.length = n := by rw [hp.length_eq, List.length_range]
  have hnd : os.Nodup := hp.nodup_iff.mpr List.nodup_range
  refine ⟨by rw [h.1, hl], fun x hx => ?_⟩
  have hm : x ∈ os := hp.mem_iff.mpr (List.mem_range.mpr hx)
  obtain ⟨i, hi, ei⟩ := List.mem_iff_getElem.mp hm
  have gi : os[i]? = some x := by rw [List.getElem?_eq_getElem hi, ei]
  have lt_n : ∀ {k z : Nat}, os[k]? = some z → z < n := fun {k z} hz => List.mem_range.mp (hp.mem_iff.mp (List.mem_of_getElem? hz))
  by_cases hq : i % 2 = 0
  · have i1 : i + 1 < os.length := by omega
    obtain ⟨y, gy⟩ := get_some i1
    have g1 : os[2 * (i / 2)]? = some x := by rw [show 2 * (i / 2) = i by omega]; exact gi
    have g2 : os[2 * (i / 2) + 1]? = some y := by rw [show 2 * (i / 2) + 1 = i + 1 by omega]; exact gy
    obtain ⟨r1, r2⟩ := h.2 (i / 2) (by omega) x y g1 g2
    exact ⟨y, r1, lt_n gy, fun e => by subst e; have := nd_ix hnd gi gy; omega, r2⟩
  · have i1 : i - 1 < os.length := by omega
    obtain ⟨y, gy⟩ := get_some i1
    have g1 : os[2 * (i / 2)]? = some y := by rw [show 2 * (i / 2) = i - 1 by omega]; exact gy
    have g2 : os[2 * (i / 2) + 1]? = some x := by rw [show 2 * (i / 2) + 1 = i by omega]; exact gi
    obtain ⟨r1, r2⟩ := h.2 (i / 2) (by omega) y x g1 g2
    exact ⟨y, r2, lt_n gy, fun e => by subst e; have := nd_ix hnd gi gy; omega, r1⟩
/-- range(0, n, 2) -/
theorem fits_long {i : Int} (h1 : -(2 ^ 62) ≤ i) (h2 : i < 2 ^ 62) : Builtin.Range.rangeFitsLong i = true := by
  unfold Builtin.Range.rangeFitsLong
  rw [Bool.and_eq_true]
  exact ⟨decide_eq_true (by omega), decide_eq_true (by omega)⟩
theorem rgc_two {n : Nat} (h : n ≤ 1000000) : RgC 0 (n : Int) 2 ((n + 1) / 2) := by
  have e : Builtin.Range.rangeSize 0 (n : Int) 2 = (((n + 1) / 2 : Nat) : Int) := by
    unfold Builtin.Range.rangeSize
    rw [if_pos (by decide)]
    split <;> omega
  refine ⟨by decide, by decide, ?_, e⟩
  unfold Builtin.Range.small
  rw [e, fits_long (i := 0) (by decide) (by decide), fits_long (i := (n : Int)) (by omega) (by omega), fits_long (i := 2) (by decide) (by decide), fits_long (i := (((n + 1) / 2 : Nat) : Int)) (by omega) (by omega), if_pos (by decide), fits_long (i := (n : Int) + (2 - 1)) (by omega) (by omega), Bool.or_true]
  rfl
theorem rep_flat {α : Type} (n : Nat) (x : α) : (List.replicate n [x]).flatten = List.replicate n x := by
  induction n with
  | zero => rfl
  | succ n ih => rw [List.replicate_succ, List.flatten_cons, ih, List.replicate_succ]; rfl
end Pc
namespace Pc
open PySem PySem.Spec PyProof.Rows L2 RZ
theorem perm_map_inv {α β : Type} (f : α → β) {zs ys : List β} (h : zs.Perm ys) : ∀ l : List α, zs = l.map f → ∃ l' : List α, ys = l'.map f ∧ l'.Perm l := by
  induction h with
  | nil => exact fun l e => ⟨l, e, List.Perm.refl _⟩
  | cons x _ ih =>
    intro l e
    cases l with
    | nil => cases e
    | cons a r =>
      injection e with e1 e2
      obtain ⟨l', h1, h2⟩ := ih r e2
      exact ⟨a :: l', by rw [h1, e1]; rfl, h2.cons a⟩
  | swap x y t =>
    intro l e
    cases l with
    | nil => cases e
    | cons a r =>
      cases r with
      | nil => injection e with _ e2; cases e2
      | cons b r =>
        injection e with e1 e2
        injection e2 with e2 e3
        exact ⟨b :: a :: r, by rw [e1, e2, e3]; rfl, List.Perm.swap _ _ _⟩
  | trans _ _ ih1 ih2 =>
    intro l e
    obtain ⟨l1, h1, h2⟩ := ih1 l e
    obtain ⟨l2, h3, h4⟩ := ih2 l1 h1
    exact ⟨l2, h3, h4.trans h2⟩
theorem rg_nv (n : Nat) : rgV 0 (n : Int) = nv (List.range n) := by
  unfold rgV nv
  rw [Int.sub_zero, Int.toNat_natCast]
  refine List.map_congr_left fun i _ => ?_
  rw [Int.zero_add]
end Pc
namespace Pc
open PySem PySem.Spec PyProof.Rows L2 RZ
/-! ### data where more is tracked -/
theorem same_tup {K : PySem.W.Frag} {H H' : Hp} {a : Addr} {xs : List V} (e : Same H H') (h : SqT K H a xs) : SqT K H' a xs := by
  rcases h with (h | ⟨o, h⟩) | h
  · exact .inl (.inl (e _ _ h))
  · exact .inl (.inr ⟨o, e _ _ h⟩)
  · exact .inr h
mutual
theorem dp_same {K : PySem.W.Frag} {H H' : Hp} (e : Same H H') : ∀ {v : V} {d : PyData}, Dp K H v d → Dp K H' v d
  | _, _, .non => .non
  | _, _, .bl b => .bl b
  | _, _, .int i => .int i
  | _, _, .str x => .str x
  | _, _, .lst h a => .lst (e.seq h) (dpa_same e a)
  | _, _, .tup h a => .tup (same_tup e h) (dpa_same e a)
theorem dpa_same {K : PySem.W.Frag} {H H' : Hp} (e : Same H H') : ∀ {vs : List V} {ds : List PyData}, DpAll K H vs ds → DpAll K H' vs ds
  | _, _, .nil => .nil
  | _, _, .cons h a => .cons (dp_same e h) (dpa_same e a)
end
theorem dpa_len {K : PySem.W.Frag} {H : Hp} : ∀ {vs : List V} {ds : List PyData}, DpAll K H vs ds → vs.length = ds.length
  | _, _, .nil => rfl
  | _, _, .cons _ a => by rw [List.length_cons, List.length_cons, dpa_len a]
theorem dpa_get {K : PySem.W.Frag} {H : Hp} : ∀ {vs : List V} {ds : List PyData} {i : Nat} {v : V}, DpAll K H vs ds → vs[i]? = some v → ∃ d, ds[i]? = some d ∧ Dp K H v d
  | _, _, _, _, .nil, h => by simp at h
  | _, _, 0, _, .cons (d := d) h _, e => by
    cases Option.some.inj e
    exact ⟨d, rfl, h⟩
  | _, _, i + 1, v, .cons _ a, e => dpa_get (i := i) a e
theorem depth_get : ∀ {ds : List PyData} {i : Nat} {d : PyData}, ds[i]? = some d → d.depth ≤ PyData.depthAll ds
  | [], _, _, h => by simp at h
  | d :: r, 0, _, h => by
    cases Option.some.inj h
    exact Nat.le_max_left _ _
  | d :: r, i + 1, x, h => Nat.le_trans (depth_get (i := i) (ds := r) h) (Nat.le_max_right _ _)
mutual
/-- no list in it is longer than a hundred thousand -/
def narrow : PyData → Prop
  | .list xs => xs.length ≤ 100000 ∧ narrowAll xs
  | .tuple xs => xs.length ≤ 100000 ∧ narrowAll xs
  | _ => True
def narrowAll : List PyData → Prop
  | [] => True
  | x :: xs => narrow x ∧ narrowAll xs
end
theorem narrow_get : ∀ {ds : List PyData} {i : Nat} {d : PyData}, narrowAll ds → ds[i]? = some d → narrow d
  | [], _, _, _, h => by simp at h
  | d :: r, 0, _, n, h => by
    cases Option.some.inj h
    exact n.1
  | d :: r, i + 1, x, n, h => narrow_get (i := i) (ds := r) n.2 h
theorem narrow_of : ∀ {ds : List PyData}, (∀ d ∈ ds, narrow d) → narrowAll ds
  | [], _ => trivial
  | d :: r, h => ⟨h d List.mem_cons_self, narrow_of fun x hx => h x (List.mem_cons_of_mem _ hx)⟩
theorem narrow_ints (ns : List Int) : narrowAll (ns.map PyData.int) := narrow_of fun d hd => by
  obtain ⟨i, _, rfl⟩ := List.mem_map.mp hd
  exact trivial
theorem line_big {n : Nat} (h : n ≤ 100000) : n < sizeLine := Nat.lt_of_le_of_lt h (by decide)
theorem ty_lst {K : PySem.W.Frag} {H : Hp} {a : Addr} {xs : List V} (h : SqL K H a xs) : TyX K H (.ref a) (.type "list") := by
  rcases h with (h | ⟨o, h⟩) | ⟨o, its, n, h, c, _⟩
  · exact .base (.lst h)
  · exact .base (.frz h)
  · exact .kList h c
theorem ty_tup {K : PySem.W.Frag} {H : Hp} {a : Addr} {xs : List V} (h : SqT K H a xs) : TyX K H (.ref a) (.type "tuple") := by
  rcases h with (h | ⟨o, h⟩) | ⟨o, its, n, h, c, _⟩
  · exact .base (.tup h)
  · exact .fTuple h
  · exact .kTuple h c
theorem kit2 {K : PySem.W.Frag} {t a b : String} {p q : Bool} (h1 : kitB t a = some p) (h2 : kitB t b = some q) : PySem.W.kitAny K (.type t) [.type a, .type b] = some (p || q) := by
  refine kitAny_cons (kit_ty h1) (fun e => kitAny_cons (kit_ty h2) (fun e2 => ?_) (fun e2 => ?_)) (fun e => ?_)
  · subst e e2; rfl
  · subst e e2; rfl
  · subst e; rfl
section
variable {K : PySem.W.Frag}
theorem any_lt_int : PySem.W.kitAny K (.type "int") [.type "list", .type "tuple"] = some false := kit2 (p := false) (q := false) (by decide +kernel) (by decide +kernel)
theorem any_sb_int : PySem.W.kitAny K (.type "int") [.type "str", .type "bool"] = some false := kit2 (p := false) (q := false) (by decide +kernel) (by decide +kernel)
theorem any_bs_int : PySem.W.kitAny K (.type "int") [.type "bool", .type "str"] = some false := kit2 (p := false) (q := false) (by decide +kernel) (by decide +kernel)
theorem one_int_int : PySem.W.kitOne K (.type "int") (.type "int") = some true := kit_ty (by decide +kernel)
theorem one_int_bool : PySem.W.kitOne K (.type "int") (.type "bool") = some false := kit_ty (by decide +kernel)
theorem one_int_list : PySem.W.kitOne K (.type "int") (.type "list") = some false := kit_ty (by decide +kernel)
theorem one_int_tuple : PySem.W.kitOne K (.type "int") (.type "tuple") = some false := kit_ty (by decide +kernel)
theorem any_lt_none : PySem.W.kitAny K (.type "NoneType") [.type "list", .type "tuple"] = some false := kit2 (p := false) (q := false) (by decide +kernel) (by decide +kernel)
theorem any_sb_none : PySem.W.kitAny K (.type "NoneType") [.type "str", .type "bool"] = some false := kit2 (p := false) (q := false) (by decide +kernel) (by decide +kernel)
theorem any_bs_none : PySem.W.kitAny K (.type "NoneType") [.type "bool", .type "str"] = some false := kit2 (p := false) (q := false) (by decide +kernel) (by decide +kernel)
theorem one_none_int : PySem.W.kitOne K (.type "NoneType") (.type "int") = some false := kit_ty (by decide +kernel)
theorem one_none_bool : PySem.W.kitOne K (.type "NoneType") (.type "bool") = some false := kit_ty (by decide +kernel)
theorem one_none_list : PySem.W.kitOne K (.type "NoneType") (.type "list") = some false := kit_ty (by decide +kernel)
theorem one_none_tuple : PySem.W.kitOne K (.type "NoneType") (.type "tuple") = some false := kit_ty (by decide +kernel)
theorem any_lt_bool : PySem.W.kitAny K (.type "bool") [.type "list", .type "tuple"] = some false := kit2 (p := false) (q := false) (by decide +kernel) (by decide +kernel)
theorem any_sb_bool : PySem.W.kitAny K (.type "bool") [.type "str", .type "bool"] = some true := kit2 (p := false) (q := true) (by decide +kernel) (by decide +kernel)
theorem any_bs_bool : PySem.W.kitAny K (.type "bool") [.type "bool", .type "str"] = some true := kit2 (p := true) (q := false) (by decide +kernel) (by decide +kernel)
theorem one_bool_int : PySem.W.kitOne K (.type "bool") (.type "int") = some true := kit_ty (by decide +kernel)
theorem one_bool_bool : PySem.W.kitOne K (.type "bool") (.type "bool") = some true := kit_ty (by decide +kernel)
theorem one_bool_list : PySem.W.kitOne K (.type "bool") (.type "list") = some false := kit_ty (by decide +kernel)
theorem one_bool_tuple : PySem.W.kitOne K (.type "bool") (.type "tuple") = some false := kit_ty (by decide +kernel)
theorem any_lt_str : PySem.W.kitAny K (.type "str") [.type "list", .type "tuple"] = some false := kit2 (p := false) (q := false) (by decide +kernel) (by decide +kernel)
theorem any_sb_str : PySem.W.kitAny K (.type "str") [.type "str", .type "bool"] = some true := kit2 (p := true) (q := false) (by decide +kernel) (by decide +kernel)
theorem any_bs_str : PySem.W.kitAny K (.type "str") [.type "bool", .type "str"] = some true := kit2 (p := false) (q := true) (by decide +kernel) (by decide +kernel)
theorem one_str_int : PySem.W.kitOne K (.type "str") (.type "int") = some false := kit_ty (by decide +kernel)
theorem one_str_bool : PySem.W.kitOne K (.type "str") (.type "bool") = some false := kit_ty (by decide +kernel)
theorem one_str_list : PySem.W.kitOne K (.type "str") (.type "list") = some false := kit_ty (by decide +kernel)
theorem one_str_tuple : PySem.W.kitOne K (.type "str") (.type "tuple") = some false := kit_ty (by decide +kernel)
theorem any_lt_list : PySem.W.kitAny K (.type "list") [.type "list", .type "tuple"] = some true := kit2 (p := true) (q := false) (by decide +kernel) (by decide +kernel)
theorem any_sb_list : PySem.W.kitAny K (.type "list") [.type "str", .type "bool"] = some false := kit2 (p := false) (q := false) (by decide +kernel) (by decide +kernel)
theorem any_bs_list : PySem.W.kitAny K (.type "list") [.type "bool", .type "str"] = some false := kit2 (p := false) (q := false) (by decide +kernel) (by decide +kernel)
theorem one_list_int : PySem.W.kitOne K (.type "list") (.type "int") = some false := kit_ty (by decide +kernel)
theorem one_list_bool : PySem.W.kitOne K (.type "list") (.type "bool") = some false := kit_ty (by decide +kernel)
theorem one_list_list : PySem.W.kitOne K (.type "list") (.type "list") = some true := kit_ty (by decide +kernel)
theorem one_list_tuple : PySem.W.kitOne K (.type "list") (.type "tuple") = some false := kit_ty (by decide +kernel)
theorem any_lt_tuple : PySem.W.kitAny K (.type "tuple") [.type "list", .type "tuple"] = some true := kit2 (p := false) (q := true) (by decide +kernel) (by decide +kernel)
theorem any_sb_tuple : PySem.W.kitAny K (.type "tuple") [.type "str", .type "bool"] = some false := kit2 (p := false) (q := false) (by decide +kernel) (by decide +kernel)
theorem any_bs_tuple : PySem.W.kitAny K (.type "tuple") [.type "bool", .type "str"] = some false := kit2 (p := false) (q := false) (by decide +kernel) (by decide +kernel)
theorem one_tuple_int : PySem.W.kitOne K (.type "tuple") (.type "int") = some false := kit_ty (by decide +kernel)
theorem one_tuple_bool : PySem.W.kitOne K (.type "tuple") (.type "bool") = some false := kit_ty (by decide +kernel)
theorem one_tuple_list : PySem.W.kitOne K (.type "tuple") (.type "list") = some false := kit_ty (by decide +kernel)
theorem one_tuple_tuple : PySem.W.kitOne K (.type "tuple") (.type "tuple") = some true := kit_ty (by decide +kernel)
end
theorem cls2 (a b : String) : Paired ClsV [.ty a, .ty b] [.type a, .type b] := .cons (.ty a) (.cons (.ty b) .nil)
/-- zip of two tuples -/
theorem walk_zipT {K : PySem.W.Frag} {a b : Addr} {xs ys : List V} {n : Nat} (hn : n = min xs.length ys.length) : Walk (ItzT K a b) n (fun H => SqT K H a xs ∧ SqT K H b ys) (YPair (fun i => xs[i]?) (fun i => ys[i]?)) := by
  subst hn
  refine ⟨fun i _ hi q => ?_, fun _ q => ⟨xs, ys, q.1, q.2, by omega⟩, fun i H v H' _ q y => ?_⟩
  · obtain ⟨x, hx⟩ := get_some (l := xs) (i := i) (by omega)
    obtain ⟨z, hz⟩ := get_some (l := ys) (i := i) (by omega)
    exact ⟨xs, ys, x, z, q.1, q.2, hx, hz⟩
  · obtain ⟨T, x, z, h1, h2, h3, h4, h5⟩ := y
    exact ⟨T, x, z, h1, h2, h3, h4 xs q.1, h5 ys q.2⟩
theorem fn_never {P : Program} {w : World} {K : PySem.W.Frag} {mg : Str → Option Value} {base : Heap} {CX : CXT} {k : Nat} {f : Addr} {fd : FuncData} {ps : List Str} {sp : Sp} (h : ∀ vs H Q E, ¬ sp vs H Q E) : FnOk P w K mg base CX k f fd ps sp :=
  ⟨fun vs H Q E q => absurd q (h vs H Q E), fun _ _ _ H _ _ vs Q E _ _ _ _ q => absurd q (h vs H Q E)⟩
/-- a comprehension without a test -/
theorem yes_if {σ : L2.St} {H : Hp} {A B : Hp → Prop} (h : A H) : tYes σ H (fun b H3 => if b = true then A H3 else B H3) := by
  show if true = true then A H else B H
  exact iteT h
theorem all_rep : ∀ n : Nat, (List.replicate n true).all id = true
  | 0 => rfl
  | n + 1 => by rw [List.replicate_succ, List.all_cons, all_rep n]; rfl
end Pc
namespace Pc
open PySem PySem.Spec PyProof.Rows L2 RZ
theorem one_int_str {K : PySem.W.Frag} : PySem.W.kitOne K (.type "int") (.type "str") = some false := kit_ty (by decide +kernel)
theorem one_none_str {K : PySem.W.Frag} : PySem.W.kitOne K (.type "NoneType") (.type "str") = some false := kit_ty (by decide +kernel)
theorem one_bool_str {K : PySem.W.Frag} : PySem.W.kitOne K (.type "bool") (.type "str") = some false := kit_ty (by decide +kernel)
theorem one_str_str {K : PySem.W.Frag} : PySem.W.kitOne K (.type "str") (.type "str") = some true := kit_ty (by decide +kernel)
end Pc
namespace Pc
open PySem PySem.Spec PyProof.Rows L2 RZ
section
variable {P : Program} {w : World} {K : PySem.W.Frag} {mg : Str → Option Value} {base : Heap}
/-! ### the same data twice -/
def spSame (K : PySem.W.Frag) (n : Nat) : Sp := fun vs H Q _ => ∃ (x y : V) (d : PyData), vs = [x, y] ∧ Dp K H x d ∧ Dp K H y d ∧ d.depth < n ∧ narrow d ∧ ∀ H', Same H H' → Q (.bl true) H'
theorem same_step (T : Env K mg) (n : Nat) (G : FnOk P w K mg base CX0 n T.f_same T.d_same ["_law_found", "_law_due"] (spSame K n)) : FnOk P w K mg base CX0 (n + 1) T.f_same T.d_same ["_law_found", "_law_due"] (spSame K (n + 1)) := by
  refine T.F_same.ok sc_same (fun vs H Q E h => ?_) (fun cdv A outer s H vs Q E hr h => ?_)
  · obtain ⟨x, y, d, rfl, _⟩ := h
    rfl
  · obtain ⟨x, y, d, rfl, hx, hy, hd, hw, q⟩ := h
    refine ⟨_, pss_cons (ps_if (pt_val (pe_callB call_isiT (by rfl) T.n_isinstance (by decide +kernel) (pa_cons (pv 1) (pa_cons (pe_tup (pa_cons (pe_bltn (v := .ty "list") (by rfl) T.n_list (by decide +kernel) rfl) (pa_cons (pe_bltn (v := .ty "tuple") (by rfl) T.n_tuple (by decide +kernel) rfl) pa_nil))) pa_nil))))
        (pss_cons (ps_if (PW.pt (pw_or (pt_cmpR op_ne (pe_callB call_isi (by rfl) T.n_isinstance (by decide +kernel) (pa_cons (pv 0) (pa_cons (pe_bltn (v := .ty "list") (by rfl) T.n_list (by decide +kernel) rfl) pa_nil))) (pe_callB call_isi (by rfl) T.n_isinstance (by decide +kernel) (pa_cons (pv 1) (pa_cons (pe_bltn (v := .ty "list") (by rfl) T.n_list (by decide +kernel) rfl) pa_nil))) (nomark _))
            (pw_or1 (pt_cmpR op_ne (pe_callB call_isi (by rfl) T.n_isinstance (by decide +kernel) (pa_cons (pv 0) (pa_cons (pe_bltn (v := .ty "tuple") (by rfl) T.n_tuple (by decide +kernel) rfl) pa_nil))) (pe_callB call_isi (by rfl) T.n_isinstance (by decide +kernel) (pa_cons (pv 1) (pa_cons (pe_bltn (v := .ty "tuple") (by rfl) T.n_tuple (by decide +kernel) rfl) pa_nil))) (nomark _)))))
          (pss_one (ps_ret pe_bl)) pss_nil)
        (pss_one (ps_ret (pe_and (pe_cmpR op_eq (pe_callB call_len_seq (by rfl) T.n_len PySem.boot_len (pa_cons (pv 0) pa_nil)) (pe_callB call_len_seq (by rfl) T.n_len PySem.boot_len (pa_cons (pv 1) pa_nil)) (nomark _))
          (pe_one (pe_callB (cr_all rfl) (by rfl) T.n_all (by decide +kernel) (pa_cons
            (pe_lc (own := [("_law_mine", 2), ("_law_its", 3)]) (g := gTup K 2 (gCons (gName 2) (gCons (gName 3) gNil))) (tt := tYes) (by rfl) sc_same.nd (pi_zipA (by rfl) T.n_zip (pa_cons (pv 0) (pa_cons (pv 1) pa_nil)))
              (blkOk_by (N := N_same) (sc := defScope s_same) (by decide +kernel))
              (fun _ _ _ _ _ => pg_tup (by rfl) (pgs_cons (pg_name (i := 2) sc_same.nd rfl (.inl rfl)) (pgs_cons (pg_name (i := 3) sc_same.nd rfl (.inl rfl)) pgs_nil)))
              (fun _ _ _ _ _ => pts_nil)
              (fun _ _ _ _ _ => pe_call G hr (by rfl) T.g_same T.F_same.kp T.b_same .nil pass0 (pa_cons (pv 2) (pa_cons (pv 3) pa_nil)))) pa_nil))))))) pss_nil)
      (pss_cons (ps_if (PW.pt (pw_or (pt_cmpR op_isN (pv 1) pe_non (nomark _)) (pw_or1 (pt_val (pe_callB call_isi (by rfl) T.n_isinstance (by decide +kernel) (pa_cons (pv 1) (pa_cons (pe_bltn (v := .ty "str") (by rfl) T.n_str (by decide +kernel) rfl) pa_nil)))))))
        (pss_one (ps_ret (pe_and (pe_cmpR op_eq (pv 0) (pv 1) (nomark _)) (pe_one (pe_cmpR op_eq (pe_callB call_isi (by rfl) T.n_isinstance (by decide +kernel) (pa_cons (pv 0) (pa_cons (pe_bltn (v := .ty "str") (by rfl) T.n_str (by decide +kernel) rfl) pa_nil))) (pe_callB call_isi (by rfl) T.n_isinstance (by decide +kernel) (pa_cons (pv 1) (pa_cons (pe_bltn (v := .ty "str") (by rfl) T.n_str (by decide +kernel) rfl) pa_nil))) (nomark _)))))) pss_nil)
      (pss_one (ps_ret (pe_and (pe_callB call_isi (by rfl) T.n_isinstance (by decide +kernel) (pa_cons (pv 0) (pa_cons (pe_bltn (v := .ty "int") (by rfl) T.n_int (by decide +kernel) rfl) pa_nil))) (pe_and (pe_cmpR op_eq (pe_callB call_isi (by rfl) T.n_isinstance (by decide +kernel) (pa_cons (pv 0) (pa_cons (pe_bltn (v := .ty "bool") (by rfl) T.n_bool (by decide +kernel) rfl) pa_nil))) (pe_callB call_isi (by rfl) T.n_isinstance (by decide +kernel) (pa_cons (pv 1) (pa_cons (pe_bltn (v := .ty "bool") (by rfl) T.n_bool (by decide +kernel) rfl) pa_nil))) (nomark _)) (pe_one (pe_cmpR op_eq (pv 0) (pv 1) (nomark _)))))))), ?_⟩
    cases d with
    | dict _ => cases hx
    | int i =>
      cases hx; cases hy
      refine ⟨_, rfl, by show 2 ≤ sizeLine; decide, fun t nt => ⟨_, t, _, _, _, _, rfl, upd_same, cls2 _ _, .base (.int i), any_lt_int, _, rfl, iteF ?_⟩⟩
      refine ⟨_, rfl, rfl, _, rfl, iteF ⟨_, rfl, _, _, _, _, _, rfl, .ty _, .base (.int i), one_int_str, _, rfl, iteF ?_⟩⟩
      refine ⟨_, rfl, _, _, _, _, _, rfl, .ty _, .base (.int i), one_int_int, _, rfl, iteT ⟨_, rfl, _, _, _, _, _, rfl, .ty _, .base (.int i), one_int_bool, _, rfl, _, _, _, _, _, rfl, .ty _, .base (.int i), one_int_bool, rfl, _, rfl, iteT ⟨_, rfl, _, rfl, rfl, ?_⟩⟩⟩
      rw [decide_eq_true rfl]
      exact q _ (same_new nt)
    | none =>
      cases hx; cases hy
      refine ⟨_, rfl, by show 2 ≤ sizeLine; decide, fun t nt => ⟨_, t, _, _, _, _, rfl, upd_same, cls2 _ _, .base .non, any_lt_none, _, rfl, iteF ?_⟩⟩
      refine ⟨_, rfl, rfl, _, rfl, iteT ?_⟩
      refine ⟨_, rfl, _, rfl, rfl, _, rfl, iteT ⟨_, rfl, _, _, _, _, _, rfl, .ty _, .base .non, one_none_str, _, rfl, _, _, _, _, _, rfl, .ty _, .base .non, one_none_str, rfl, ?_⟩⟩
      rw [decide_eq_true rfl]
      exact q _ (same_new nt)
    | bool b =>
      cases hx; cases hy
      refine ⟨_, rfl, by show 2 ≤ sizeLine; decide, fun t nt => ⟨_, t, _, _, _, _, rfl, upd_same, cls2 _ _, .base (.bl b), any_lt_bool, _, rfl, iteF ?_⟩⟩
      refine ⟨_, rfl, rfl, _, rfl, iteF ⟨_, rfl, _, _, _, _, _, rfl, .ty _, .base (.bl b), one_bool_str, _, rfl, iteF ?_⟩⟩
      refine ⟨_, rfl, _, _, _, _, _, rfl, .ty _, .base (.bl b), one_bool_int, _, rfl, iteT ⟨_, rfl, _, _, _, _, _, rfl, .ty _, .base (.bl b), one_bool_bool, _, rfl, _, _, _, _, _, rfl, .ty _, .base (.bl b), one_bool_bool, rfl, _, rfl, iteT ⟨_, rfl, _, rfl, rfl, ?_⟩⟩⟩
      rw [decide_eq_true rfl]
      exact q _ (same_new nt)
    | str z =>
      cases hx; cases hy
      refine ⟨_, rfl, by show 2 ≤ sizeLine; decide, fun t nt => ⟨_, t, _, _, _, _, rfl, upd_same, cls2 _ _, .base (.str z), any_lt_str, _, rfl, iteF ?_⟩⟩
      refine ⟨_, rfl, rfl, _, rfl, iteF ⟨_, rfl, _, _, _, _, _, rfl, .ty _, .base (.str z), one_str_str, _, rfl, iteT ?_⟩⟩
      refine ⟨_, rfl, _, rfl, rfl, _, rfl, ?_⟩
      rw [decide_eq_true rfl]
      refine iteT ⟨_, rfl, _, _, _, _, _, rfl, .ty _, .base (.str z), one_str_str, _, rfl, _, _, _, _, _, rfl, .ty _, .base (.str z), one_str_str, rfl, ?_⟩
      rw [decide_eq_true rfl]
      exact q _ (same_new nt)
    | list ds =>
      cases hx with
      | lst hsx hax =>
      cases hy with
      | lst hsy hay =>
      rename_i a xs b ys
      have hlx := dpa_len hax
      have hly := dpa_len hay
      obtain ⟨hw1, hw2⟩ := hw
      refine ⟨_, rfl, by show 2 ≤ sizeLine; decide, fun t nt => ?_⟩
      have s1 : Same H (upd H t (.tup [.ty "list", .ty "tuple"])) := same_new nt
      have hsx1 := Same.seq s1 hsx
      have hsy1 := Same.seq s1 hsy
      refine ⟨_, t, _, _, _, _, rfl, upd_same, cls2 _ _, ty_lst hsy1, any_lt_list, _, rfl, iteT ?_⟩
      refine ⟨_, rfl, _, _, _, _, _, rfl, .ty _, ty_lst hsx1, one_list_list, _, rfl, _, _, _, _, _, rfl, .ty _, ty_lst hsy1, one_list_list, rfl, _, rfl, iteNS rfl ?_⟩
      refine ⟨_, rfl, _, _, _, _, _, rfl, .ty _, ty_lst hsx1, one_list_tuple, _, rfl, _, _, _, _, _, rfl, .ty _, ty_lst hsy1, one_list_tuple, rfl, _, rfl, iteNS rfl ?_⟩
      refine ⟨_, rfl, a, xs, rfl, .inl hsx1, _, rfl, b, ys, rfl, .inl hsy1, rfl, _, rfl, ?_⟩
      rw [decide_eq_true (show V.int (xs.length : Int) = V.int (ys.length : Int) by rw [hlx, hly])]
      refine iteT ⟨_, rfl, _, rfl, a, b, xs, ys, rfl, .inl ⟨hsx1, hsy1, fun D nD => ?_⟩⟩
      have nD0 : H D = none := s1.free nD
      refine lc_it (walk_zip (n := xs.length) (by omega)) (fun i H' => Same H H' ∧ H' D = some (.lst (List.replicate i (.bl true)))) ⟨s1.trans (same_new nD), upd_same⟩ (fun i H' _ h => ⟨Same.seq h.1 hsx, Same.seq h.1 hsy⟩) (fun i v H1 H2 hi h yy => ?_) (fun H' h => ?_)
      · obtain ⟨sm, eD⟩ := h
        obtain ⟨tp, u, v, rfl, nT, rfl, g1, g2⟩ := yy
        obtain ⟨d1, e1, f1⟩ := dpa_get hax g1
        obtain ⟨d2, e2, f2⟩ := dpa_get hay g2
        cases Option.some.inj (e1.symm.trans e2)
        have st : Same H (upd H1 tp (.tup [u, v])) := sm.trans (same_new nT)
        refine ⟨tp, _, rfl, .inl (.inl upd_same), rfl, _, _, rfl, _, _, rfl, rfl, rfl, yes_if ?_⟩
        refine ⟨_, rfl, _, rfl, u, v, d1, rfl, dp_same st f1, dp_same st f2, ?_, narrow_get hw2 e1, fun H3 s3 => ⟨_, s3 _ _ (same_new nT _ _ eD), ?_, ?_, ?_⟩⟩
        · have := depth_get e1
          have hd' : PyData.depthAll ds + 1 < n + 1 := hd
          omega
        · rw [List.length_replicate]
          exact line_big (by omega)
        · intro c o hc
          rw [upd_ne (ne_of_none hc nD0)]
          exact s3 _ _ (st _ _ hc)
        · rw [upd_same, List.replicate_succ']
      · obtain ⟨sm, eD⟩ := h
        refine ⟨D, List.replicate xs.length true, rfl, ?_, ?_⟩
        · rw [List.map_replicate]
          exact .inl (.inl eD)
        · rw [all_rep]
          exact q _ sm
    | tuple ds =>
      cases hx with
      | tup hsx hax =>
      cases hy with
      | tup hsy hay =>
      rename_i a xs b ys
      have hlx := dpa_len hax
      have hly := dpa_len hay
      obtain ⟨hw1, hw2⟩ := hw
      refine ⟨_, rfl, by show 2 ≤ sizeLine; decide, fun t nt => ?_⟩
      have s1 : Same H (upd H t (.tup [.ty "list", .ty "tuple"])) := same_new nt
      have hsx1 := same_tup s1 hsx
      have hsy1 := same_tup s1 hsy
      refine ⟨_, t, _, _, _, _, rfl, upd_same, cls2 _ _, ty_tup hsy1, any_lt_tuple, _, rfl, iteT ?_⟩
      refine ⟨_, rfl, _, _, _, _, _, rfl, .ty _, ty_tup hsx1, one_tuple_list, _, rfl, _, _, _, _, _, rfl, .ty _, ty_tup hsy1, one_tuple_list, rfl, _, rfl, iteNS rfl ?_⟩
      refine ⟨_, rfl, _, _, _, _, _, rfl, .ty _, ty_tup hsx1, one_tuple_tuple, _, rfl, _, _, _, _, _, rfl, .ty _, ty_tup hsy1, one_tuple_tuple, rfl, _, rfl, iteNS rfl ?_⟩
      refine ⟨_, rfl, a, xs, rfl, .inr hsx1, _, rfl, b, ys, rfl, .inr hsy1, rfl, _, rfl, ?_⟩
      rw [decide_eq_true (show V.int (xs.length : Int) = V.int (ys.length : Int) by rw [hlx, hly])]
      refine iteT ⟨_, rfl, _, rfl, a, b, xs, ys, rfl, .inr ⟨hsx1, hsy1, fun D nD => ?_⟩⟩
      have nD0 : H D = none := s1.free nD
      refine lc_it (walk_zipT (n := xs.length) (by omega)) (fun i H' => Same H H' ∧ H' D = some (.lst (List.replicate i (.bl true)))) ⟨s1.trans (same_new nD), upd_same⟩ (fun i H' _ h => ⟨same_tup h.1 hsx, same_tup h.1 hsy⟩) (fun i v H1 H2 hi h yy => ?_) (fun H' h => ?_)
      · obtain ⟨sm, eD⟩ := h
        obtain ⟨tp, u, v, rfl, nT, rfl, g1, g2⟩ := yy
        obtain ⟨d1, e1, f1⟩ := dpa_get hax g1
        obtain ⟨d2, e2, f2⟩ := dpa_get hay g2
        cases Option.some.inj (e1.symm.trans e2)
        have st : Same H (upd H1 tp (.tup [u, v])) := sm.trans (same_new nT)
        refine ⟨tp, _, rfl, .inl (.inl upd_same), rfl, _, _, rfl, _, _, rfl, rfl, rfl, yes_if ?_⟩
        refine ⟨_, rfl, _, rfl, u, v, d1, rfl, dp_same st f1, dp_same st f2, ?_, narrow_get hw2 e1, fun H3 s3 => ⟨_, s3 _ _ (same_new nT _ _ eD), ?_, ?_, ?_⟩⟩
        · have := depth_get e1
          have hd' : PyData.depthAll ds + 1 < n + 1 := hd
          omega
        · rw [List.length_replicate]
          exact line_big (by omega)
        · intro c o hc
          rw [upd_ne (ne_of_none hc nD0)]
          exact s3 _ _ (st _ _ hc)
        · rw [upd_same, List.replicate_succ']
      · obtain ⟨sm, eD⟩ := h
        refine ⟨D, List.replicate xs.length true, rfl, ?_, ?_⟩
        · rw [List.map_replicate]
          exact .inl (.inl eD)
        · rw [all_rep]
          exact q _ sm
theorem ok_same (T : Env K mg) : ∀ n : Nat, FnOk P w K mg base CX0 n T.f_same T.d_same ["_law_found", "_law_due"] (spSame K n)
  | 0 => fn_never fun vs H Q E h => by
    obtain ⟨x, y, d, _, _, _, hd, _⟩ := h
    exact absurd hd (Nat.not_lt_zero _)
  | n + 1 => same_step T n (ok_same T n)
end
end Pc
namespace Pc
open PySem PySem.Spec PyProof.Rows L2 RZ
/-! ### enumerate of a tuple -/
theorem draws_tuple {prog : Program} {w : World} {A : Around} (hh : A.handled = none) (it l : Addr) (hne : l ≠ it) (items : Array Value) :
    Draws prog w A it [it, l] items.size (fun i v => items[i]? = some v) (fun i h => h.IsTupleIter it l i ∧ h.IsTuple l items) where
  live i h st := by
    obtain ⟨⟨o, ho, _⟩, _⟩ := st
    exact ⟨o, ho⟩
  frame i h h' st hk := ⟨Heap.IsTupleIter.at st.1 (hk it (by simp)), Heap.IsTuple.at st.2 (hk l (by simp))⟩
  item i s Q E hi st hQ := by
    have hx : items[i]? = some items[i] := by simp [hi]
    exact nextOf_tuple_item st.1 st.2 hx fun h' hit' hs' => hQ _ h' s.toks hx ⟨hit', st.2.extBut hs'.extBut hne⟩ hs'
  done s Q E st hE := nextOf_tuple_end hh st.1 st.2 (by simp) hE
set_option maxHeartbeats 4000000 in
theorem enum_newT (l : Addr) (items : Array Value) (n : Nat) (dct : Option Addr) (sl : Array (Option Value)) :
    Meets (Builtin.«enumerate.__new__» ⟨[.type "enumerate", .ref l], []⟩) (fun _ R s =>
      s.heap.get? l = some { cls := .type "tuple", dict := dct, data := .seq items n, slots := sl } ∧
      R (.ok (.ret (.ref (s.heap.push { cls := .type "tuple_iterator", data := .fields #[.ref l, .int 0 0] }).objs.size)))
        { s with heap := Heap.push (s.heap.push { cls := .type "tuple_iterator", data := .fields #[.ref l, .int 0 0] }) { cls := .type "enumerate", data := .fields #[.none, .bool false, .ref s.heap.objs.size, rawInt 0, .none, .none] } }) := by
  refine .of_wp fun prog w A R s h => ?_
  obtain ⟨hp, g, d, tk, os⟩ := s
  obtain ⟨hl, h⟩ := h
  have subE := sub_enumerate
  have isT : Heap.IsTuple (Shared.heap ⟨hp, g, d, tk, os⟩) l items := ⟨_, hl, rfl, n, rfl⟩
  wp_walk using AutoSeq1.wpAny_loadPart' hl
  refine wpAny_stack_any fun st => wpAny_pure ?_
  split
  · rename_i c _ _ _ _ _
    cases (c == Value.type "enumerate") <;> (wp_walk using AutoSeq1.wpAny_loadPart' hl, wpAny_pyIter_tuple isT; exact ⟨_, rfl, h⟩)
  · wp_walk using AutoSeq1.wpAny_loadPart' hl, wpAny_pyIter_tuple isT
    exact ⟨_, rfl, h⟩
theorem call_enumT {prog : Program} {w : World} {A : Around} {E : Value → Shared → Prop} {s : Shared} {l : Addr} {items : Array Value} {Q : Value → Shared → Prop} (hL : s.heap.IsTuple l items)
    (h : ∀ h', IsEnum h' (s.heap.objs.size + 1) s.heap.objs.size 0 .none → h'.IsTupleIter s.heap.objs.size l 0 →
      (∀ b o, s.heap.get? b = some o → h'.get? b = some o) → Q (.ref (s.heap.objs.size + 1)) { s with heap := h' }) :
    wpAny (model prog w) A (call (.type "enumerate") [.ref l]) Q E s := by
  obtain ⟨⟨c, dct, dt, sl⟩, hl, hc, n, hd⟩ := hL
  have hc' : c = .type "tuple" := hc
  have hd' : dt = .seq items n := hd
  subst hc' hd'
  refine callType_new F.called_enumerate (by decide) (F.typeCall_enumerate_1 _) (F.newCall_enumerate_1 _) (fun obj => F.args_object_init_2 obj _) F.entry_enumerate_new (enum_newT l items n dct sl) ⟨hl, ?_⟩
  have hz : (s.heap.push { cls := .type "tuple_iterator", data := .fields #[.ref l, .int 0 0] }).objs.size = s.heap.objs.size + 1 := Heap.size_push ..
  have he := Heap.get?_push_size (s.heap.push { cls := .type "tuple_iterator", data := .fields #[.ref l, .int 0 0] })
    (o := { cls := .type "enumerate", data := .fields #[.none, .bool false, .ref s.heap.objs.size, rawInt 0, .none, .none] }) rfl
  rw [hz] at he
  show _ ∧ _
  rw [hz]
  exact ⟨⟨_, he, rfl⟩, h _ he ⟨{ cls := .type "tuple_iterator", data := .fields #[.ref l, .int 0 0] }, Heap.get?_push_of_some _ (Heap.get?_push_size _ rfl), rfl, rfl⟩ fun b o x => Heap.get?_push_of_some _ (Heap.get?_push_of_some _ x)⟩
/-- the tuple at a, its items in new pairs with their places -/
def IteT (K : PySem.W.Frag) (a : Addr) : It where
  go i H := ∃ (xs : List V) (x : V), SqT K H a xs ∧ xs[i]? = some x
  yld i H v H' := ∃ T x, v = .ref T ∧ H T = none ∧ H' = upd H T (.tup [.int (i : Nat), x]) ∧ ∀ xs, SqT K H a xs → xs[i]? = some x
  stop i H := ∃ xs : List V, SqT K H a xs ∧ xs.length ≤ i
theorem turn_enumT {P : Program} {w : World} {K : PySem.W.Frag} {elts : List Expr} {kk : Nat} {tpos : Pos} (a e it : Addr) (hei : e ≠ it) (hae : a ≠ e) (hai : a ≠ it) :
    Turn P w K (.Tuple elts kk tpos) (IteT K a) [e, it] e (fun i h => (∃ old, IsEnum h e it ((i : Nat) : Int) old) ∧ h.IsTupleIter it a i) where
  mem := by simp
  obj i h st b hb := by
    obtain ⟨⟨old, he⟩, ⟨o, ho, hc, hd⟩⟩ := st
    rcases (show b = e ∨ b = it by simpa using hb) with z | z
    · rw [z]; exact ⟨_, he, fun v q => nomatch q⟩
    · rw [z]; exact ⟨o, ho, fun v q => by rw [hd] at q; cases q⟩
  keep i h h' st k := by
    obtain ⟨⟨old, he⟩, hi⟩ := st
    exact ⟨⟨old, k e (by simp) _ he⟩, hi.at fun o q => k it (by simp) o q⟩
  item := by
    intro X hP hw hK hc i pins s σ H E I hf st hg
    subst hP hw hK
    obtain ⟨⟨old, he⟩, hit⟩ := st
    obtain ⟨xs, x, hq, hx⟩ := hg
    obtain ⟨its, rv, p, hz⟩ := I.tuple hq
    have p2 : s.heap.IsTuple a its.toArray := p
    obtain ⟨u, hu, ru⟩ := rv.get hx
    have hlt : i < its.toArray.size := by
      rw [List.size_toArray]
      exact get_lt hu
    have D := draws_tuple (prog := X.prog) (w := X.w) (A := X.A.in1) (show X.A.in1.handled = none from I.ok.hd hc) it a hai its.toArray
    have hel : e < s.heap.objs.size := Heap.lt_size he
    have hil : it < s.heap.objs.size := by obtain ⟨_, q, _⟩ := hit; exact Heap.lt_size q
    refine wpAny_pyNext_enum_itemD D he ⟨hit, p2⟩ hlt hei (by simp [hei, hae.symm]) fun y h' tk hy ho hst hT hsz hk => ?_
    have ey : y = u := by
      have : its.toArray[i]? = some y := hy
      rw [List.getElem?_toArray, hu] at this
      exact (Option.some.inj this).symm
    subst ey
    refine ⟨_, rfl, wpAny_letOwnedTupleGo_enum (s := { s with heap := h', toks := tk + 1 }) ho fun h'' he' sb => ?_⟩
    have hT2 : h''.get? s.heap.objs.size = some { cls := .type "tuple", data := .seq #[.int i tk, y] } := (sb.2 _ (Nat.ne_of_gt hel)).trans hT
    have new : ObjOk X.prog X.w (upd H s.heap.objs.size (.tup [.int (i : Nat), x])) h'' s.heap.objs.size (.tup [.int (i : Nat), x]) :=
      ⟨by show 2 ≤ sizeLine; decide, [.int i tk, y], .cons ⟨_, rfl⟩ (.cons ru .nil), ⟨_, hT2, rfl, _, rfl⟩⟩
    have I1 := I.turnedNew (t' := tk + 1) (h' := h'') (ch := [e, it]) (fun b ob hb q => (sb.2 b (fun z => hb (by simp [z]))).trans (hk b ob (fun z => hb (by simp [z])) (fun z => hb (by simp [z])) q)) hf (Nat.le_refl _) new
    refine ⟨.ref s.heap.objs.size, _, I1, rfl, ⟨_, x, rfl, I.hok.fresh (Nat.le_refl _), rfl, fun ys hy => by rw [I.tuple_inj hy hq]; exact hx⟩, ⟨⟨y, ?_⟩, hst.1.at fun o q => (sb.2 it hei.symm).trans q⟩, fun b hb => ?_⟩
    · rw [show ((i + 1 : Nat) : Int) = (i : Int) + 1 by omega]; exact he'
    · have hb' : b < s.heap.objs.size := by
        rcases (show b = e ∨ b = it by simpa using hb) with z | z
        · rw [z]; exact hel
        · rw [z]; exact hil
      rw [upd_ne (Nat.ne_of_lt hb')]
      exact (hf b hb).1
  done := by
    intro X hP hw hK hc i pins s σ H E I hf st hg
    subst hP hw hK
    obtain ⟨⟨old, he⟩, hit⟩ := st
    obtain ⟨xs, hq, hx⟩ := hg
    obtain ⟨its, rv, p, hz⟩ := I.tuple hq
    have p2 : s.heap.IsTuple a its.toArray := p
    obtain ⟨f0, f1, f2, f3, f4, f5⟩ := hf it (by simp)
    have hl := rv.length
    have hT : s.TypeIs (.ref e) "enumerate" := ⟨_, he, rfl⟩
    unfold pyNext
    refine wpAny_bind (wpAny_attempt (wpAny_callSpecial?_slot (name := Str.ofString "__next__") hT F.slot_enumerate_next (wpAny_call_entry F.slot_enumerate_next hT F.entry_enumerate_next ?_ (F.args_enumerate_next_1 _))))
    show wpAny _ _ (field (.ref e) 2 >>= _) _ _ _
    refine wpAny_bind (wpAny_field he rfl (x := .ref it) rfl ?_)
    refine wpAny_bind (nextOf_tuple_end (show X.A.in1.handled = none from I.ok.hd hc) hit p2 (by simp; omega) fun h' x he' hx' => ?_)
    obtain ⟨o, ho, hcl⟩ := hx'
    refine wpAny_bind (wpAny_isInstance (T := "StopIteration") (b := true) ⟨o, ho, hcl⟩ isSubtype_stop ?_)
    exact wpAny_pure ⟨rfl, I.turned (t' := s.toks) (fun b o hb q => he' b o hb q) f0 f1 f3 f4 f5⟩
  self A i s Q E st h := by
    obtain ⟨⟨_, he⟩, _⟩ := st
    exact wpAny_pyIter_enum he h
/-- enumerate of a list or a tuple -/
def iEnumA (K : PySem.W.Frag) (ta : TA) : TI := fun σ H R => ta σ H fun vs H1 => ∃ a xs, vs = [.ref a] ∧ ((SqL K H1 a xs ∧ R (Ite K a) H1) ∨ (SqT K H1 a xs ∧ R (IteT K a) H1))
theorem pi_enumA {X : Cx} {e : Expr} {ta : TA} {p pos tpos : Pos} {elts : List Expr} {kk : Nat} (hg : Gl X "enumerate") (hm : X.mg "enumerate" = none) (ha : PA X [e] ta) (hs : starEach [e] X.env = [(false, eval e X.env)] := by rfl) :
    PI X (.Tuple elts kk tpos) (.Call (.Name "enumerate" p) [e] [] pos) (iEnumA X.K ta) := by
  constructor
  intro pins s σ H R I h
  refine Call_ (ld_blt I hg hm boot_enumerate (callWith_type1 (thn (ha.run pos pins s σ H _ I h) fun us s1 r => ?_) hs rfl))
  obtain ⟨vs, H1, I1, r1, a, xs, ex, q1⟩ := r
  subst ex
  cases r1 with
  | cons r rr =>
    cases rr
    cases r
    have fr : ∀ b, b ∈ [s1.heap.objs.size + 1, s1.heap.objs.size] → FpOk X pins H1 b := fun b hb => by
      have hle : s1.heap.objs.size ≤ b := by
        rcases (show b = s1.heap.objs.size + 1 ∨ b = s1.heap.objs.size by simpa using hb) with z | z <;> omega
      exact I1.fpOk hle (I1.hok.fresh hle)
    rcases q1 with ⟨hq, q⟩ | ⟨hq, q⟩
    · obtain ⟨its, rv, p', hz⟩ := I1.list hq
      refine call_enumerate_list p'.isList fun h' he hit _ hk => wpAny_pyIter_enum he ?_
      exact ⟨_, _, _, _, H1, rfl, I1.kept (t' := s1.toks) hk, turn_enum a (s1.heap.objs.size + 1) s1.heap.objs.size, ⟨⟨.none, he⟩, hit, Nat.succ_ne_self _⟩, fr, q⟩
    · obtain ⟨its, rv, p', hz⟩ := I1.tuple hq
      have p2 : s1.heap.IsTuple a its.toArray := p'
      have hlt : a < s1.heap.objs.size := by obtain ⟨o, ho, _⟩ := p2; exact Heap.lt_size ho
      refine call_enumT p2 fun h' he hit hk => wpAny_pyIter_enum he ?_
      exact ⟨_, _, _, _, H1, rfl, I1.kept (t' := s1.toks) hk, turn_enumT a (s1.heap.objs.size + 1) s1.heap.objs.size (Nat.succ_ne_self _) (Nat.ne_of_lt (Nat.lt_succ_of_lt hlt)) (Nat.ne_of_lt hlt), ⟨⟨.none, he⟩, hit⟩, fr, q⟩
theorem walk_enumT {K : PySem.W.Frag} {a : Addr} {xs : List V} : Walk (IteT K a) xs.length (fun H => SqT K H a xs) (YPair (fun i => some (.int (i : Nat))) (fun i => xs[i]?)) where
  goes i H hi q := by
    obtain ⟨x, hx⟩ := get_some hi
    exact ⟨xs, x, q, hx⟩
  stops H q := ⟨xs, q, Nat.le_refl _⟩
  yields i H v H' hi q y := by
    obtain ⟨T, x, h1, h2, h3, h4⟩ := y
    exact ⟨T, .int (i : Nat), x, h1, h2, h3, rfl, h4 xs q⟩
end Pc
namespace Pc
open PySem PySem.Spec PyProof.Rows L2 RZ
/-! ### t[::-1] of a pair -/
section
variable {prog : Program} {w : World} {A : Around} {E : Value → Shared → Prop} {s : Shared}
theorem applied_rev2 {sl : Addr} {vk : Value} {Q : Int × Int × Nat → Shared → Prop} (hs : s.heap.IsSliceOf sl .none .none vk) (pk : IsPart vk (some (-1))) (h : Q (1, -1, 2) s) :
    wpAny (model prog w) A (Builtin.Slice.sliceApplied (.ref sl) (pure (2 : Int))) Q E s := by
  obtain ⟨os, hos, hcs, hds⟩ := id hs
  unfold Builtin.Slice.sliceApplied Builtin.Slice.sliceFields
  refine wpAny_bind (wpAny_bind (wpAny_field hos hds (x := .none) rfl ?_))
  refine wpAny_bind (wpAny_field hos hds (x := .none) rfl ?_)
  refine wpAny_bind (wpAny_field hos hds (x := vk) rfl (wpAny_pure ?_))
  refine wpAny_bind (HT.slicePart_ pk ?_)
  show wpAny _ _ (if ((-1 : Int) == 0) = true then _ else _) _ _ s
  rw [if_neg (by decide)]
  refine wpAny_bind (HT.slicePart_ .none (wpAny_bind (HT.slicePart_ .none (wpAny_bind (wpAny_pure ?_)))))
  exact wpAny_pure h
theorem item_rev2 {t sl : Addr} {u v vk : Value} {Q : Value → Shared → Prop} (ht : IsTup s.heap t #[u, v]) (hs : s.heap.IsSliceOf sl .none .none vk) (pk : IsPart vk (some (-1)))
    (h : Q (.ref s.heap.objs.size) { s with heap := s.heap.push { cls := .type "tuple", data := .seq #[v, u] } }) : wpAny (model prog w) A (getItem (.ref t) (.ref sl)) Q E s := by
  obtain ⟨os, hos, hcs, hds⟩ := id hs
  have hTs : s.TypeIs (.ref sl) "slice" := ⟨os, hos, hcs⟩
  unfold getItem
  try with_reducible refine wpAny_holding ?_
  first | refine wpAny_bind (wpAny_pure ?_) | skip
  refine wpAny_bind (wpAny_sequenceKey ht.typeIs (by decide) ?_)
  refine wpAny_bind (wpAny_callSpecial?_slot (name := Str.ofString "__getitem__") ht.typeIs PyProof.Rows.slot_tuple_getitem (wpAny_call_entry PyProof.Rows.slot_tuple_getitem ht.typeIs entry_tuple_getitem ?_ (args_tuple_getitem _ _)))
  show wpAny _ _ (Builtin.Tuple.tupleItemsOf (.ref t) >>= _) _ _ s
  refine wpAny_bind (tupleItemsOf_ ht ?_)
  refine wpAny_bind (wpAny_typeOf hTs ?_)
  rw [if_pos (by decide)]
  refine wpAny_bind (applied_rev2 hs pk ?_)
  show wpAny _ _ (if ((1 : Int) == 0 && (-1 : Int) == 1 && (2 : Nat) == 2) = true then _ else _) _ _ s
  rw [if_neg (by decide)]
  have e : ((List.range 2).filterMap fun (k : Nat) => (#[u, v] : Array Value)[((1 : Int) + (k : Int) * -1).toNat]?).toArray = #[v, u] := rfl
  rw [e]
  have hz : sizeOk (.seq (#[v, u] : Array Value)) := by show 2 ≤ sizeLine; decide
  first
    | exact wpAny_bind (m := Builtin.Tuple.tupleExact _) (wpAny_newObj_type (wpAny_pure ⟨_, rfl, wpAny_pure h⟩) hz)
    | exact wpAny_bind (wpAny_bind (m := Builtin.Tuple.tupleExact _) (wpAny_newObj_type (wpAny_pure (wpAny_pure ⟨_, rfl, wpAny_pure h⟩)) hz))
    | exact wpAny_bind (wpAny_bind (m := Builtin.Tuple.tupleExact _) (wpAny_newObj_type (wpAny_pure ⟨_, rfl, wpAny_pure h⟩) hz))
    | exact wpAny_bind (m := Builtin.Tuple.tupleExact _) (wpAny_newObj_type (wpAny_bind (wpAny_pure (wpAny_pure ⟨_, rfl, wpAny_pure h⟩))) hz)
end
def tRev2 (K : PySem.W.Frag) (te : TE) : TE := fun σ H Q => te σ H fun x H1 => ∃ a y z, x = .ref a ∧ SqT K H1 a [y, z] ∧ ∀ p, H1 p = none → Q (.ref p) (upd H1 p (.tup [z, y]))
theorem pe_rev2 {X : Cx} {e : Expr} {te : TE} {k : Nat} {p1 p2 p3 pos : Pos} (he : PE X e te) : PE X (.Subscript e (.Slice none none (some (.UnaryOp .USub (.Constant (.int 1) k p1) p2)) p3) pos) (tRev2 X.K te) := by
  constructor
  intro pins s σ H Q I h
  refine Subscript_ (thn (he.run pins s σ H _ I h) fun v s1 r => ?_)
  obtain ⟨x, H1, I1, r1, a, y, z, ex, hx, q⟩ := r
  subst ex
  cases r1
  have hst : PO X (some (.UnaryOp .USub (.Constant (.int 1) k p1) p2)) (tPart (tUn (rU fun i => .int (-i)) (tC (.int 1)))) := po_some (pe_un un_neg pe_int)
  refine wpAny_Slice (thn (po_none.run pins s1 σ H1 (fun o H2 => o = none ∧ H2 = H1) I1 ⟨rfl, rfl⟩) fun vl s2 ⟨l, H2, I2, pl, el, e2⟩ => ?_)
  subst el e2
  refine thn (po_none.run pins s2 σ H2 (fun o H3 => o = none ∧ H3 = H2) I2 ⟨rfl, rfl⟩) fun vu s3 ⟨u, H3, I3, pu, eu, e3⟩ => ?_
  subst eu e3
  refine thn (hst.run pins s3 σ H3 (fun o H4 => o = some (-1) ∧ H4 = H3) I3 ⟨1, rfl, -1, rfl, rfl, rfl⟩) fun vs s4 ⟨o, H4, I4, ps, eo, e4⟩ => ?_
  subst eo e4
  cases pl
  cases pu
  have I5 : Inv X pins σ H4 { s4 with heap := s4.heap.push { cls := .type "slice", data := .fields #[.none, .none, vs] } } := I4.kept (t' := s4.toks) fun b ob q => Heap.get?_push_of_some _ q
  obtain ⟨its, r, ht, hz⟩ := I5.tuple hx
  obtain ⟨w1, w2, ei, r1, r2⟩ := vals2 r
  subst ei
  show wpAny (model X.prog X.w) X.A (subscriptTail e (.Slice none none (some (.UnaryOp .USub (.Constant (.int 1) k p1) p2)) p3) (.ref a) (.ref s4.heap.objs.size)) (EP X pins σ Q) X.xe _
  refine tail_any (ops := [.ref a, .ref s4.heap.objs.size]) ht.typeIs PyProof.Rows.slot_tuple_getitem.lookup ?_ (by with_unfolding_all rfl)
  refine item_rev2 ht (Heap.IsSliceOf.new _ .none .none vs) ps ?_
  refine ⟨.ref _, _, I5.laid (t' := s4.toks) (o := .tup [z, y]) (fun b ob q => Heap.get?_push_of_some _ q) (Nat.le_refl _) ?_, rfl, q _ (I5.hok.fresh (Nat.le_refl _))⟩
  exact ⟨by show 2 ≤ sizeLine; decide, [w2, w1], .cons r2 (.cons r1 .nil), IsTup.new _ _⟩
end Pc
namespace Pc
open PySem PySem.Spec PyProof.Rows L2 RZ
/-! ### defs that run where no repr is under way (repr asks for that) -/
structure FnG (P : Program) (w : World) (K : PySem.W.Frag) (mg : Str → Option Value) (base : Heap) (CX : CXT) (k : Nat) (f : Addr) (fd : FuncData) (ps : List Str) (sp : Sp) : Prop where
  len : ∀ vs H Q E, sp vs H Q E → vs.length = ps.length
  run : ∀ (A : Around) (outer : List PySem.Env) (s : Shared) (H : Hp) (args : Args) (us : List Value) (vs : List V) (Q : VK) (E : XK), Room k A → A.guards = some [] → Env0 P w K mg base A outer s H →
    BindsTo s fd args (ps.zip us) → Vals vs us → sp vs H Q E → codeAny (model P w) A (.call (.ref f) args) (CR CX outer P w H s Q E) s
section
variable {P : Program} {w : World} {K : PySem.W.Frag} {mg : Str → Option Value} {base : Heap}
theorem fun_g {x qual : Str} {st : Stmt} {f : Addr} {fd : FuncData} {N ps : List Str} {k : Nat} {sp : Sp} (F : Fun K x qual st f fd) (S : FnScope N ps (defScope st)) (len : ∀ vs H Q E, sp vs H Q E → vs.length = ps.length)
    (hbody : ∀ (cdv : Value) (A : Around) (outer : List PySem.Env) (s : Shared) (H : Hp) (vs : List V) (Q : VK) (E : XK), Room k (A.deeper (envOfC qual (defScope st) s.heap.objs.size f cdv)) → A.guards = some [] → sp vs H Q E →
      ∃ t, PSs (cxOf CX0 P w K mg base N qual (defScope st) f cdv A outer s H E).nox (defBody st) t ∧ t { nx := fun _ H' => Q .non H', rt := Q } (start N vs) H) : FnG P w K mg base CX0 (k + 1) f fd ps sp := by
  obtain ⟨oc, od, kV, doc, pm, an, cdv, ct, osl, rfl, lk, hcd⟩ := F.ex
  constructor
  · exact len
  intro A outer s H args us vs Q E hr hgd e0 hb r hsp
  have hl := len _ _ _ _ hsp
  have up : ∀ b o, base.get? b = some o → s.heap.get? b = some o := fun b o e => (e0.bs b o e).1
  have KX : K.In s.heap := e0.mod.kin.keeps up
  have lim : s.heap.NoLimit := e0.mod.nolimit.keeps up
  obtain ⟨t, ht, hq⟩ := hbody cdv A outer s H vs Q E (hr.deeper _) hgd hsp
  refine codeAny_call_function hr.depth (KX _ _ lk) rfl S.co S.gen rfl (PySem.W.codeRec_of KX hcd) (hb _ _ _ _ ?_)
  refine wpAny_newFunctionEnv_cells S.kind ?_ ?_
  · rintro ⟨n, v⟩ hy
    rcases S.par n (List.of_mem_zip hy).1 with z | z
    · exact Or.inl z
    · exact Or.inr ⟨z, PySem.W.cellsFrom_some _ _ _ (Or.inl z)⟩
  intro env he s1 x
  subst he
  refine ⟨lim.keeps x.toInCall.keep, codeAny_func ?_⟩
  have I := inv_start (CX := CX0) (E := E) S hr.hd e0 hl r x
  refine wpAny_mono (ht.nox.run [] s1 (start N vs) H _ I hq) ?_ (fun _ _ z => z)
  intro fl s' hs
  cases fl with
  | brk => obtain ⟨_, _, _, z⟩ := hs; exact z.elim
  | cont => obtain ⟨_, _, _, z⟩ := hs; exact z.elim
  | next =>
    obtain ⟨σ', H', J, z⟩ := hs
    exact ⟨V.non, H', J.os, J.bare, J.base, J.hok, rfl, z⟩
  | ret u =>
    obtain ⟨v, σ', H', J, rv, z⟩ := hs
    exact ⟨v, H', J.os, J.bare, J.base, J.hok, rv, z⟩
end
section
variable {X : Cx} {CX : CXT} {k : Nat} {f : Addr} {fd : FuncData} {ps : List Str} {sp : Sp} {x : Str} {e : Expr} {es : List Expr} {ds : List Value} {dvs : List V} {E : XK} {t : TA} {p pos : Pos}
theorem pe_callG (F : FnG X.prog X.w X.K X.mg X.base CX k f fd ps sp) (hr : Room k X.A) (hgd : X.A.guards = some []) (hg : Gl X x) (hm : X.mg x = some (.ref f)) (hk : PySem.W.keepIn X.K (.ref f) = true) (hb : Binds X.K fd ps ds) (hd : Vals dvs ds) (hx : Passes CX X E)
    (ha : PA X (e :: es) t) (hdb : (x == ("__debug__" : Str)) = false := by decide) (he : starEach (e :: es) X.env = (false, eval e X.env) :: starEach es X.env := by rfl) (hpl : (backTo pos (starEach es X.env)).any (·.1) = false := by rfl) :
    PE X (.Call (.Name x p) (e :: es) [] pos) (tCall sp dvs E t) := by
  constructor
  intro pins s σ H Q I h
  refine wpAny_Call_Name_kw (ld_glob I hg hm ?_ hdb)
  refine PySem.W.callWith_K (h₀ := X.base) I.ok.mod.kin hk (thn (ha.run pos pins s σ H _ I h) ?_) he hpl
  rintro us s1 ⟨vs, H1, I1, r, q⟩
  refine ⟨I1.kIn, ?_⟩
  have r2 : Vals (vs ++ dvs) (us ++ ds) := r.append hd
  have hl : (us ++ ds).length = ps.length := by
    rw [← r2.length]
    exact F.len _ _ _ _ q
  refine wpAny_call (codeAny_mono (F.run X.A X.stack s1 H1 ⟨us, []⟩ (us ++ ds) (vs ++ dvs) Q E hr hgd I1.env0 (hb s1 us I1.kIn hl) r2 q) ?_)
  intro res s' hq
  cases res with
  | error e => exact hx pins σ H1 s1 e s' I1 hq
  | ok fl =>
    cases fl with
    | ret u => exact I1.after hq
    | next => exact hq.elim
    | brk => exact hq.elim
    | cont => exact hq.elim
end
/-! ### the law's own call, where no repr is under way -/
theorem law_g {P : Program} {w : World} {K : PySem.W.Frag} {mg mb : Str → Option Value} {CX : CXT} {k : Nat} {fa a : Addr} {fd : FuncData} {x : Str} {sp : Sp} {s₁ : Shared} {vs : List Value} {ns : List Int}
    (KX : K.In s₁.heap) (hns : s₁.heap.Ns mainGlobals mg) (hb : s₁.heap.Ns builtinsNs mb) (hbb : ∀ x : Str, x ≠ "__name__" → mb x = bootBuiltins x) (hlim : s₁.heap.NoLimit) (hg : s₁.gens = #[])
    (ha : s₁.heap.get? a = some { cls := .type "list", data := .seq vs.toArray }) (hi : IntsAre vs ns) (hl : ns.length ≤ sizeLine) (hr : Room k callerA)
    (F : ∀ base : Heap, K.In base → base.Ns mainGlobals mg → FnG P w K mg base CX k fa fd [x] sp) (hbind : ∀ (s : Shared) (u : Value), BindsTo s fd ⟨[u], []⟩ [(x, u)])
    (hsp : ∀ H : Hp, SqL K H a (ns.map V.int) → sp [.ref a] H (fun v _ => v = .bl true) fun _ _ _ => False)
    (hCX : ∀ H e s', CX [] H s₁ (fun _ _ _ => False) e s' → False) :
    codeAny (model P w) callerA (.call (.ref fa) ⟨[.ref a], []⟩) (fun r s' => r = .ok (.ret (.bool true)) ∧ OldK s₁.heap s'.heap ∧ s'.os = s₁.os ∧ AllBare s'.gens) s₁ := by
  have rv := vals_ints hi
  have len0 := hi.length
  let lo : Obj := { cls := .type "list", data := .seq vs.toArray }
  have main : ∀ H : Hp, SqL K H a (ns.map V.int) → HOk P w H s₁.heap → (∀ b u, H b = some u → b = a ∧ u = .frz lo (.lst (ns.map V.int)) ∧ K.lookup a = none) →
      codeAny (model P w) callerA (.call (.ref fa) ⟨[.ref a], []⟩) (fun r s' => r = .ok (.ret (.bool true)) ∧ OldK s₁.heap s'.heap ∧ s'.os = s₁.os ∧ AllBare s'.gens) s₁ := by
    intro H hS hok hA
    have free : ∀ {b : Addr} {o : Obj}, s₁.heap.get? b = some o → (∀ n, o.data ≠ .seq vs.toArray n) → H b = none := by
      intro b o e d
      cases z : H b with
      | none => rfl
      | some u =>
        obtain ⟨rfl, _⟩ := hA b u z
        rw [ha] at e
        cases e
        exact absurd rfl (d _)
    have nsK : ∀ {b : Addr} {m : Str → Option Value}, s₁.heap.Ns b m → (hidT s₁.heap H).Ns b m := by
      rintro b m ⟨o, es, ep, e, d, r⟩
      exact ⟨o, es, ep, hidT_get e (free e fun n => by rw [d]; exact fun z => nomatch z), d, r⟩
    have hKb : K.In (hidT s₁.heap H) := by
      intro b o e
      refine hidT_get (KX b o e) ?_
      cases z : H b with
      | none => rfl
      | some u =>
        obtain ⟨rfl, _, hn⟩ := hA b u z
        rw [hn] at e
        cases e
    obtain ⟨mc, l1, l2⟩ := hlim
    have e0 : Env0 P w K mg (hidT s₁.heap H) callerA [] s₁ H :=
      { frames := rfl, mod := ⟨hKb, nsK hns, ⟨mb, nsK hb, hbb⟩, ⟨mc, nsK l1, l2⟩⟩, bs := fun b o e => of_hidT e, bsz := Nat.le_of_eq (hidT_size _ _), funs := trivial, frf := fun b hb => absurd (show b ∈ ([] : List Addr) from hb) (by simp), hok := hok, bare := .of_eq hg }
    have R := (F _ hKb (nsK hns)).run callerA [] s₁ H ⟨[.ref a], []⟩ [.ref a] [.ref a] _ _ hr rfl e0 (hbind s₁ (.ref a)) (.cons rfl .nil) (hsp H hS)
    refine codeAny_mono R ?_
    intro res s' h
    cases res with
    | error e => exact (hCX H e s' h).elim
    | ok fl =>
      cases fl with
      | next => exact h.elim
      | brk => exact h.elim
      | cont => exact h.elim
      | ret u =>
        obtain ⟨v, H', os, bare, un, hok', r', q⟩ := h
        have q' : v = .bl true := q
        subst q'
        obtain rfl : u = Value.bool true := r'
        refine ⟨rfl, OldK.of_keep ?_, os, bare⟩
        intro b o e
        cases z : H b with
        | none => exact un.keep b o e z (fun y => absurd (show b ∈ ([] : List Addr) from y) (by simp)) (by simp)
        | some u =>
          obtain ⟨rfl, rfl, _⟩ := hA b u z
          obtain ⟨g1, _⟩ := hok _ _ z
          obtain ⟨g2, _⟩ := hok' _ _ (un.frzs _ lo _ z)
          rw [e] at g1
          cases g1
          exact g2
  cases hk : K.lookup a with
  | some o =>
    have e := KX a o hk
    rw [ha] at e
    cases e
    refine main (fun _ => none) ?_ (fun b u z => nomatch z) (fun b u z => nomatch z)
    exact Or.inr ⟨_, vs.toArray, _, hk, rfl, rfl, rfl, by rw [List.size_toArray, len0]; exact hl, by simpa using rv⟩
  | none =>
    have sp1 : ∀ b u, (upd (fun _ => none) a (.frz lo (.lst (ns.map V.int)))) b = some u → b = a ∧ u = .frz lo (.lst (ns.map V.int)) ∧ K.lookup a = none := by
      intro b u z
      by_cases hba : b = a
      · subst hba
        rw [upd_same] at z
        exact ⟨rfl, (Option.some.inj z).symm, hk⟩
      · rw [upd_ne hba] at z
        cases z
    refine main (upd (fun _ => none) a (.frz lo (.lst (ns.map V.int)))) (Or.inl (Or.inr ⟨lo, upd_same⟩)) ?_ sp1
    intro b u z
    obtain ⟨rfl, rfl, _⟩ := sp1 b u z
    exact ⟨ha, by rw [List.length_map]; exact hl, vs, _, rv, ha⟩
theorem walk_g {l : PySem.W.OpenLaw} {n k : Nat} {q : Program} {loose : List Str} {XP : (Str → Option Value) → Heap → Prop} {YP : World → Heap → Prop} {d : DefRec} {K : Params → PySem.W.Frag} {sp : World → Sp} {x : Str}
    (hn : l.most = some n) (hn2 : n ≤ sizeLine) (hdf : d.params.defaults = []) (hr : Room k callerA) (hY : ∀ (w : World) (h : Heap), YP w h → (K w.params).In h)
    (F : ∀ (w : World) (mg : Str → Option Value) (fa : Addr) (h : Heap), (K w.params).In h → h.Ns mainGlobals mg → mg d.name = some (.ref fa) →
      ∃ fd : FuncData, (∀ (s : Shared) (u : Value), BindsTo s fd ⟨[u], []⟩ [(x, u)]) ∧ ∀ base : Heap, (K w.params).In base → base.Ns mainGlobals mg → FnG l.prog w (K w.params) mg base CX0 k fa fd [x] (sp w))
    (hsp : ∀ (w : World) (H : Hp) (a : Addr) (ns : List Int), ns.length ≤ n → SqL (K w.params) H a (ns.map V.int) → sp w [.ref a] H (fun v _ => v = .bl true) fun _ _ _ => False) :
    PySem.W.WalkO q loose XP YP l.row.toRowW d [] (fun f vs => PySem.call f vs) := by
  refine Att.attach_call hn hdf ?_
  intro w s₀ s₁ mg mb fa o pm cd doc a vs ns G Y ho hd hcd hmg hobj hints hlen hg
  obtain ⟨fd, hb, hF⟩ := F w mg fa _ (hY w _ Y) G.T.g hmg
  exact law_g (hY w _ Y) G.T.g G.T.b G.T.builtins G.T.nolimit hg hobj hints (Nat.le_trans hlen hn2) hr hF hb (fun H hS => hsp w H a ns hlen hS) fun _ _ _ z => z
/-! ### repr of data -/
theorem call_reprD {X : Cx} (hgd : X.A.guards = some []) (hu : X.A.units + 64 < cLine) : CallR X (.builtin "repr") (fun xs H Q => ∃ (a : Addr) (d : PyData), xs = [.ref a] ∧ Dp X.K H (.ref a) d ∧ d.canLay0 = true ∧ d.showable = true ∧ d.depth ≤ 60 ∧ d.shown.length ≤ sizeLine ∧ Q (.str d.shown) H) := by
  intro pins s σ H xs us Q I r h
  obtain ⟨a, d, rfl, hd, hl, hs, hdp, hz, q⟩ := h
  obtain ⟨u, rfl, ru⟩ := vals1 r
  cases ru
  obtain ⟨as, rd⟩ := Dp.reads I d (.ref a) (.ref a) hd rfl
  refine repr_of_reads' rd hs (PyData.noDict_hsm (PyData.hasDict_of_canLay d hl)) hgd (by omega) (fun _ _ e => e) ?_ hz
  intro h' u tk hk
  exact ⟨.str d.shown, H, I.kept (t' := tk) hk, ⟨u, rfl⟩, q⟩
end Pc
namespace Pc
open PySem PySem.Spec PyProof.Rows L2 RZ
/-! ### data of small size: its depth is at most k, its text has at most m signs -/
structure Fine (k m : Nat) (d : PyData) : Prop where
  lay : d.canLay0 = true
  show_ : d.showable = true
  depth : d.depth ≤ k
  nar : narrow d
  len : d.shown.length ≤ m
theorem Fine.mono {k m k' m' : Nat} {d : PyData} (h : Fine k m d) (hk : k ≤ k') (hm : m ≤ m') : Fine k' m' d := ⟨h.lay, h.show_, Nat.le_trans h.depth hk, h.nar, Nat.le_trans h.len hm⟩
theorem Fine.shaped {k m : Nat} {d : PyData} (h : Fine k m d) (hk : k ≤ 64) : SeqAt.shaped d = true := by
  unfold SeqAt.shaped
  rw [Bool.and_eq_true]
  exact ⟨h.lay, decide_eq_true (Nat.le_trans h.depth hk)⟩
theorem str_len (t : String) : (Str.ofString t).length = t.length := by
  rw [Str.ofString_eq_toList]
  show (t.toList.map Char.toNat).toArray.size = t.length
  rw [List.size_toArray, List.length_map, String.length_toList]
theorem log_lt {i : Int} {k : Nat} (h : i.natAbs < 2 ^ k) (hk : 0 < k) : i.natAbs.log2 < k := by
  by_cases h0 : i.natAbs = 0
  · rw [h0]; exact hk
  · exact (Nat.log2_lt h0).mpr h
theorem fine_int {i : Int} (h : i.natAbs < 2 ^ 60) : Fine 0 61 (.int i) := by
  have hl := log_lt h (by decide)
  refine ⟨rfl, decide_eq_true (Nat.lt_of_lt_of_le hl (by decide)), Nat.le_refl _, trivial, ?_⟩
  show (Str.ofString (toString i)).length ≤ 61
  rw [str_len]
  exact int_text_length_le (by decide) hl
theorem fine_nat {i : Nat} (h : i < 2 ^ 60) : Fine 0 61 (.int (i : Int)) := fine_int (by rw [Int.natAbs_natCast]; exact h)
theorem all_lay {ds : List PyData} (h : ∀ d ∈ ds, d.canLay0 = true) : PyData.canLayAll0 ds = true := by
  induction ds with
  | nil => rfl
  | cons d r ih =>
    show (d.canLay0 && PyData.canLayAll0 r) = true
    rw [h d List.mem_cons_self, ih fun x hx => h x (List.mem_cons_of_mem _ hx)]; rfl
theorem all_showable {ds : List PyData} (h : ∀ d ∈ ds, d.showable = true) : PyData.showableAll ds = true := by
  induction ds with
  | nil => rfl
  | cons d r ih =>
    show (d.showable && PyData.showableAll r) = true
    rw [h d List.mem_cons_self, ih fun x hx => h x (List.mem_cons_of_mem _ hx)]; rfl
theorem all_depth {ds : List PyData} {k : Nat} (h : ∀ d ∈ ds, d.depth ≤ k) : PyData.depthAll ds ≤ k := by
  induction ds with
  | nil => exact Nat.zero_le _
  | cons d r ih => exact Nat.max_le.mpr ⟨h d List.mem_cons_self, ih fun x hx => h x (List.mem_cons_of_mem _ hx)⟩
theorem all_shown {ds : List PyData} {m : Nat} (h : ∀ d ∈ ds, d.shown.length ≤ m) : ((PyData.shownAll ds).map (·.length)).sum ≤ ds.length * m ∧ (PyData.shownAll ds).length = ds.length := by
  induction ds with
  | nil => exact ⟨Nat.zero_le _, rfl⟩
  | cons d r ih =>
    obtain ⟨h1, h2⟩ := ih fun x hx => h x (List.mem_cons_of_mem _ hx)
    have h3 := h d List.mem_cons_self
    refine ⟨?_, congrArg (· + 1) h2⟩
    show ((d.shown :: PyData.shownAll r).map (·.length)).sum ≤ (r.length + 1) * m
    rw [List.map_cons, List.sum_cons, Nat.add_mul, Nat.one_mul]
    omega
theorem fine_list {ds : List PyData} {k m n : Nat} (h : ∀ d ∈ ds, Fine k m d) (hn : ds.length ≤ n) (hb : n ≤ 100000) : Fine (k + 1) (n * (m + 2) + 3) (.list ds) := by
  refine ⟨all_lay fun d hd => (h d hd).lay, all_showable fun d hd => (h d hd).show_, Nat.succ_le_succ (all_depth fun d hd => (h d hd).depth), ⟨Nat.le_trans hn hb, narrow_of fun d hd => (h d hd).nar⟩, ?_⟩
  obtain ⟨h1, h2⟩ := all_shown fun d hd => (h d hd).len
  have h3 := listText_len_le (PyData.shownAll ds)
  have h4 : ds.length * m ≤ n * m := Nat.mul_le_mul_right _ hn
  show (listText (PyData.shownAll ds)).length ≤ _
  rw [Nat.mul_add]
  omega
theorem fine_tuple {ds : List PyData} {k m n : Nat} (h : ∀ d ∈ ds, Fine k m d) (hn : ds.length ≤ n) (hb : n ≤ 100000) : Fine (k + 1) (n * (m + 2) + 3) (.tuple ds) := by
  refine ⟨all_lay fun d hd => (h d hd).lay, all_showable fun d hd => (h d hd).show_, Nat.succ_le_succ (all_depth fun d hd => (h d hd).depth), ⟨Nat.le_trans hn hb, narrow_of fun d hd => (h d hd).nar⟩, ?_⟩
  obtain ⟨h1, h2⟩ := all_shown fun d hd => (h d hd).len
  have h3 := tupleText_len_le (PyData.shownAll ds)
  have h4 : ds.length * m ≤ n * m := Nat.mul_le_mul_right _ hn
  show (tupleText (PyData.shownAll ds)).length ≤ _
  rw [Nat.mul_add]
  omega
/-- numbers as data -/
def nd (l : List Nat) : List PyData := l.map fun (i : Nat) => PyData.int (i : Int)
theorem nd_length (l : List Nat) : (nd l).length = l.length := List.length_map _
theorem dp_nats {K : PySem.W.Frag} {H : Hp} : ∀ l : List Nat, DpAll K H (nv l) (nd l)
  | [] => .nil
  | i :: r => .cons (.int i) (dp_nats r)
theorem fine_nd {l : List Nat} (h : ∀ i ∈ l, i < 2 ^ 60) : ∀ d ∈ nd l, Fine 0 61 d := fun d hd => by
  obtain ⟨i, hi, rfl⟩ := List.mem_map.mp hd
  exact fine_nat (h i hi)
/-- a tuple of numbers -/
theorem fine_tup {l : List Nat} {n : Nat} (h : ∀ i ∈ l, i < 2 ^ 60) (hn : l.length ≤ n) (hb : n ≤ 100000) : Fine 1 (n * 63 + 3) (.tuple (nd l)) := fine_tuple (fine_nd h) (by rw [nd_length]; exact hn) hb
/-! ### lists of pairs of numbers -/
/-- at the places as stand the pairs ps -/
def Prs (H : Hp) (as : List Addr) (ps : List (Nat × Nat)) : Prop := Paired (fun a (p : Nat × Nat) => H a = some (.tup [.int p.1, .int p.2])) as ps
theorem Prs.length {H : Hp} {as : List Addr} {ps : List (Nat × Nat)} (h : Prs H as ps) : as.length = ps.length := Paired.length h
theorem prs_same {H H' : Hp} (e : Same H H') : ∀ {as : List Addr} {ps : List (Nat × Nat)}, Prs H as ps → Prs H' as ps
  | _, _, .nil => .nil
  | _, _, .cons h r => .cons (e _ _ h) (prs_same e r)
theorem prs_keep {b : Addr} {H H' : Hp} {ys : List V} (k : Keep b H H') (hb : H b = some (.lst ys)) : ∀ {as : List Addr} {ps : List (Nat × Nat)}, Prs H as ps → Prs H' as ps
  | _, _, .nil => .nil
  | _, _, .cons h r => .cons (k.tup hb h) (prs_keep k hb r)
theorem prs_get {H : Hp} : ∀ {as : List Addr} {ps : List (Nat × Nat)} {i : Nat} {a : Addr}, Prs H as ps → as[i]? = some a → ∃ p, ps[i]? = some p ∧ H a = some (.tup [.int p.1, .int p.2])
  | _, _, _, _, .nil, h => by simp at h
  | _, _, 0, _, .cons (b := p) h _, e => by
    cases Option.some.inj e
    exact ⟨p, rfl, h⟩
  | _, _, i + 1, a, .cons _ r, e => prs_get (i := i) r e
theorem prs_append {H : Hp} : ∀ {as bs : List Addr} {ps qs : List (Nat × Nat)}, Prs H as ps → Prs H bs qs → Prs H (as ++ bs) (ps ++ qs)
  | _, _, _, _, .nil, s => s
  | _, _, _, _, .cons h r, s => .cons h (prs_append r s)
def pd (p : Nat × Nat) : PyData := .tuple [.int (p.1 : Int), .int (p.2 : Int)]
theorem prs_dp {K : PySem.W.Frag} {H : Hp} : ∀ {as : List Addr} {ps : List (Nat × Nat)}, Prs H as ps → DpAll K H (as.map V.ref) (ps.map pd)
  | _, _, .nil => .nil
  | _, _, .cons h r => .cons (.tup (.inl (.inl h)) (.cons (.int _) (.cons (.int _) .nil))) (prs_dp r)
theorem fine_pd {p : Nat × Nat} (h1 : p.1 < 2 ^ 60) (h2 : p.2 < 2 ^ 60) : Fine 1 129 (pd p) := fine_tuple (n := 2) (fun d hd => by
  rcases List.mem_cons.mp hd with z | z
  · rw [z]; exact fine_nat h1
  · rw [List.mem_singleton.mp z]; exact fine_nat h2) (Nat.le_refl _) (by decide)
/-- a list of pairs -/
theorem fine_pds {ps : List (Nat × Nat)} {n : Nat} (h : ∀ p ∈ ps, p.1 < 2 ^ 60 ∧ p.2 < 2 ^ 60) (hn : ps.length ≤ n) (hb : n ≤ 100000) : Fine 2 (n * 131 + 3) (.list (ps.map pd)) :=
  fine_list (fun d hd => by
    obtain ⟨p, hp, rfl⟩ := List.mem_map.mp hd
    exact fine_pd (h p hp).1 (h p hp).2) (by rw [List.length_map]; exact hn) hb
end Pc
namespace Pc
open PySem PySem.Spec PyProof.Rows L2 RZ
/-! ### a list or a tuple: walked, unpacked -/
/-- a list or a tuple is read -/
def Sq (K : PySem.W.Frag) (H : Hp) (a : Addr) (xs : List V) : Prop := SqL K H a xs ∨ SqT K H a xs
theorem Sq.same {K : PySem.W.Frag} {H H' : Hp} {a : Addr} {xs : List V} (h : Sq K H a xs) (e : Same H H') : Sq K H' a xs := h.imp (fun z => e.seq z) (fun z => same_tup e z)
def iSeq (K : PySem.W.Frag) (tl : TE) : TI := fun σ H R => tl σ H fun x H1 => ∃ a, x = .ref a ∧ (((∃ xs, SqL K H1 a xs) ∧ R (Itl K a) H1) ∨ ((∃ xs, SqT K H1 a xs) ∧ R (Itt K a) H1))
section
variable {X : Cx}
theorem pi_seq {tg l : Expr} {tl : TE} (hl : PE X l tl) : PI X tg l (iSeq X.K tl) := by
  constructor
  intro pins s σ H R I h
  refine thn (hl.run pins s σ H _ I h) ?_
  rintro v s1 ⟨x, H1, I1, r1, a, ex, q⟩
  subst ex
  cases r1
  rcases q with ⟨⟨xs, hx⟩, q⟩ | ⟨⟨xs, hx⟩, q⟩
  · obtain ⟨its, _, p, _⟩ := I1.list hx
    refine wpAny_pyIter_list p.isList ?_
    exact pi_one (tk := s1.toks) I1 _ (turn_list _ _) ⟨_, Heap.get?_push_size _ rfl, rfl, rfl⟩ q
  · obtain ⟨its, _, p, _⟩ := I1.tuple hx
    refine wpAny_pyIter_tuple p ?_
    exact pi_one (tk := s1.toks) I1 _ (turn_tuple _ _) ⟨_, Heap.get?_push_size _ rfl, rfl, rfl⟩ q
/-- names unpacked from a tuple or a list -/
def gSeq (K : PySem.W.Frag) (n : Nat) (t : TGs) : TG := fun v σ H Q => ∃ a xs, v = .ref a ∧ Sq K H a xs ∧ xs.length = n ∧ t xs σ H Q
theorem pg_seq {es : List Expr} {k : Nat} {t : TGs} {n : Nat} {pos : Pos} (hc : X.calm = true) (h : PGs X es t)
    (hn : (assignEach es X.env).length = n := by rfl) (hst : (assignEach es X.env).findIdx? (·.1) = none := by rfl) : PG X (.Tuple es k pos) (gSeq X.K n t) := by
  constructor
  intro pins s σ H v u Q I r hw
  obtain ⟨a, xs, e, hq, hl, hw⟩ := hw
  rcases hq with hq | hq
  · exact (pg_unl (pos := pos) (k := k) hc h hn hst).run pins s σ H v u Q I r ⟨a, xs, e, hq, hl, hw⟩
  · exact (pg_tup (pos := pos) (k := k) hc h hn hst).run pins s σ H v u Q I r ⟨a, xs, e, hq, hl, hw⟩
/-! ### a call with keywords alone -/
def tKw (n : Nat) (sp : Sp) (gV : List V → List V) (E : XK) (tk : TA) : TE := fun σ H Q => tk σ H fun zs H1 => zs.length = n ∧ sp (gV zs) H1 Q E
theorem pe_kw {CX : CXT} {k : Nat} {f : Addr} {fd : FuncData} {ps ks : List Str} {sp : Sp} {E : XK} {x : Str} {p pos : Pos} {kws : List Keyword} {tk : TA} {g : List Value → List Value} {gV : List V → List V}
    (F : FnOk X.prog X.w X.K X.mg X.base CX k f fd ps sp) (hr : Room k X.A) (hg : Gl X x) (hm : X.mg x = some (.ref f)) (hk : PySem.W.keepIn X.K (.ref f) = true)
    (hb : ∀ (s : Shared) (ws : List Value), ws.length = ks.length → BindsTo s fd ⟨[], ks.zip ws⟩ (ps.zip (g ws))) (rel : ∀ {zs : List V} {ws : List Value}, zs.length = ks.length → Vals zs ws → Vals (gV zs) (g ws)) (hx : Passes CX X E) (hkw : PK X kws tk)
    (hall : (backToKw pos (keywordEach kws X.env)).all (·.1.isSome) = true := by rfl) (hks : (backToKw pos (keywordEach kws X.env)).filterMap (·.1) = ks := by rfl) (hdb : (x == ("__debug__" : Str)) = false := by decide)
    (hpl : ((backTo pos (starEach [] X.env)).any (·.1) || (backToKw pos (keywordEach kws X.env)).any (·.1.isNone)) = false := by rfl) :
    PE X (.Call (.Name x p) [] kws pos) (tKw ks.length sp gV E tk) := by
  constructor
  intro pins s σ H Q I h
  refine wpAny_Call_Name_kw (ld_glob I hg hm ?_ hdb)
  refine PySem.W.callWith_KW0 (h₀ := X.base) I.ok.mod.kin hk hall (thn (hkw.run pos pins s σ H _ I h) ?_) hpl
  rintro ws s2 ⟨zs, H2, I2, rz, hz, q⟩
  refine ⟨I2.kIn, ?_⟩
  rw [hks]
  refine wpAny_call (codeAny_mono (F.run X.A X.stack s2 H2 ⟨[], ks.zip ws⟩ (g ws) (gV zs) Q E hr I2.env0 (hb s2 ws (by rw [← rz.length, hz])) (rel hz rz) q) ?_)
  intro res s' hq
  cases res with
  | error e => exact hx pins σ H2 s2 e s' I2 hq
  | ok fl =>
    cases fl with
    | ret u => exact I2.after hq
    | next => exact hq.elim
    | brk => exact hq.elim
    | cont => exact hq.elim
end
theorem kw_to {K : PySem.W.Frag} {x qual : Str} {st : Stmt} {f : Addr} {fd : FuncData} {ps ks : List Str} {g : List Value → List Value} (F : Fun K x qual st f fd)
    (h : ∀ (kV doc pm : Value) (an : Option Addr) (cdv ct : Value) (ws : List Value), ws.length = ks.length → bindArgs (PySem.W.fnOf x qual (defArgs st) (defBody st) (defScope st) .none kV doc pm an cdv ct) ⟨[], ks.zip ws⟩ = pure (ps.zip (g ws))) :
    ∀ (s : Shared) (ws : List Value), ws.length = ks.length → BindsTo s fd ⟨[], ks.zip ws⟩ (ps.zip (g ws)) := by
  obtain ⟨oc, od, kV, doc, pm, an, cdv, ct, osl, rfl, lk, hcd⟩ := F.ex
  intro s ws hl
  exact .of_eq (h kV doc pm an cdv ct ws hl)
end Pc
namespace Pc
open PySem PySem.Spec PyProof.Rows L2 RZ
/-! ### the couples of a pairing -/
/-- the couples whose first person is below i -/
def cplN (ps : List Nat) (i : Nat) : List (Nat × Nat) := ((List.range i).filter fun x => decide (x < ps.getD x 0)).map fun x => (x, ps.getD x 0)
def cpl (ps : List Nat) : List (Nat × Nat) := cplN ps ps.length
theorem getD_of {ps : List Nat} {x y : Nat} (h : ps[x]? = some y) : ps.getD x 0 = y := by
  rw [List.getD_eq_getElem?_getD, h]; rfl
theorem cplN_yes {ps : List Nat} {i y : Nat} (h : ps[i]? = some y) (hl : i < y) : cplN ps (i + 1) = cplN ps i ++ [(i, y)] := by
  unfold cplN
  rw [List.range_succ, List.filter_append, List.map_append]
  congr 1
  rw [List.filter_cons_of_pos (by rw [getD_of h]; exact decide_eq_true hl), List.filter_nil, List.map_cons, List.map_nil, getD_of h]
theorem cplN_no {ps : List Nat} {i y : Nat} (h : ps[i]? = some y) (hl : ¬ i < y) : cplN ps (i + 1) = cplN ps i := by
  unfold cplN
  rw [List.range_succ, List.filter_append, List.map_append, List.filter_cons_of_neg (by rw [getD_of h]; simpa using hl), List.filter_nil, List.map_nil, List.append_nil]
theorem cplN_len (ps : List Nat) (i : Nat) : (cplN ps i).length ≤ i := by
  unfold cplN
  rw [List.length_map]
  exact Nat.le_trans (List.length_filter_le _ _) (by rw [List.length_range]; exact Nat.le_refl _)
theorem mem_cpl {n : Nat} {ps : List Nat} (h : IsPair n ps) {p : Nat × Nat} : p ∈ cpl ps ↔ ps[p.1]? = some p.2 ∧ p.1 < p.2 := by
  unfold cpl cplN
  rw [h.len]
  constructor
  · intro hp
    obtain ⟨x, hx, rfl⟩ := List.mem_map.mp hp
    obtain ⟨h1, h2⟩ := List.mem_filter.mp hx
    obtain ⟨y, e, _⟩ := h.par x (List.mem_range.mp h1)
    rw [getD_of e] at h2 ⊢
    exact ⟨e, of_decide_eq_true h2⟩
  · rintro ⟨e, hl⟩
    refine List.mem_map.mpr ⟨p.1, List.mem_filter.mpr ⟨List.mem_range.mpr ?_, ?_⟩, ?_⟩
    · rw [← h.len]; exact get_lt e
    · rw [getD_of e]; exact decide_eq_true hl
    · rw [getD_of e]
theorem IsPair.back {n : Nat} {ps : List Nat} (h : IsPair n ps) {x y : Nat} (e : ps[x]? = some y) : ps[y]? = some x ∧ y < n ∧ x < n ∧ y ≠ x := by
  have hx : x < n := by rw [← h.len]; exact get_lt e
  obtain ⟨z, e1, e2, e3, e4⟩ := h.par x hx
  cases Option.some.inj (e.symm.trans e1)
  exact ⟨e4, e2, hx, e3⟩
theorem cpl_cover {n : Nat} {ps : List Nat} (h : IsPair n ps) {z : Nat} (hz : z < n) : ∃ p ∈ cpl ps, p.1 = z ∨ p.2 = z := by
  obtain ⟨y, e1, e2, e3, e4⟩ := h.par z hz
  rcases Nat.lt_or_gt_of_ne e3 with l | l
  · exact ⟨(y, z), (mem_cpl h).mpr ⟨e4, l⟩, .inr rfl⟩
  · exact ⟨(z, y), (mem_cpl h).mpr ⟨e1, l⟩, .inl rfl⟩
theorem filter_split {α : Type} (f : α → Bool) : ∀ l : List α, (l.filter f).length + (l.filter fun x => !f x).length = l.length
  | [] => rfl
  | a :: r => by
    have ih := filter_split f r
    cases e : f a with
    | true => rw [List.filter_cons_of_pos e, List.filter_cons_of_neg (by rw [e]; decide), List.length_cons, List.length_cons]; omega
    | false => rw [List.filter_cons_of_neg (by rw [e]; decide), List.filter_cons_of_pos (by rw [e]; rfl), List.length_cons, List.length_cons]; omega
theorem cpl_half {n : Nat} {ps : List Nat} (h : IsPair n ps) : 2 * (cpl ps).length = n := by
  have e1 : (cpl ps).length = ((List.range n).filter fun x => decide (x < ps.getD x 0)).length := by
    unfold cpl cplN; rw [List.length_map, h.len]
  have inj : ∀ x y, x < n → y < n → ps.getD x 0 = ps.getD y 0 → x = y := fun x y hx hy e => by
    obtain ⟨u, a1, _, _, a4⟩ := h.par x hx
    obtain ⟨v, b1, _, _, b4⟩ := h.par y hy
    rw [getD_of a1, getD_of b1] at e
    subst e
    exact Option.some.inj (a4.symm.trans b4)
  have nd0 : (List.range n).Nodup := List.nodup_range
  have p1 : (((List.range n).filter fun x => decide (x < ps.getD x 0)).map fun x => ps.getD x 0).Perm ((List.range n).filter fun x => !decide (x < ps.getD x 0)) := by
    refine (List.perm_ext_iff_of_nodup ?_ (nd0.filter _)).mpr fun z => ?_
    · refine List.Pairwise.map _ (fun a b hab => hab) ?_
      refine List.Pairwise.imp_of_mem (fun {a b} ha hb hab => ?_) (nd0.filter fun x => decide (x < ps.getD x 0))
      exact fun e => hab (inj a b (List.mem_range.mp (List.mem_filter.mp ha).1) (List.mem_range.mp (List.mem_filter.mp hb).1) e)
    · constructor
      · intro hz
        obtain ⟨x, hx, rfl⟩ := List.mem_map.mp hz
        obtain ⟨h1, h2⟩ := List.mem_filter.mp hx
        obtain ⟨y, a1, a2, a3, a4⟩ := h.par x (List.mem_range.mp h1)
        rw [getD_of a1] at h2 ⊢
        have h3 := of_decide_eq_true h2
        refine List.mem_filter.mpr ⟨List.mem_range.mpr a2, ?_⟩
        rw [getD_of a4, decide_eq_false (by omega)]; rfl
      · intro hz
        obtain ⟨h1, h2⟩ := List.mem_filter.mp hz
        obtain ⟨y, a1, a2, a3, a4⟩ := h.par z (List.mem_range.mp h1)
        rw [getD_of a1] at h2
        have h3 : ¬ z < y := by simpa using h2
        refine List.mem_map.mpr ⟨y, List.mem_filter.mpr ⟨List.mem_range.mpr a2, ?_⟩, getD_of a4⟩
        rw [getD_of a4]
        exact decide_eq_true (by omega)
  have e2 := p1.length_eq
  rw [List.length_map] at e2
  have e3 := filter_split (fun x => decide (x < ps.getD x 0)) (List.range n)
  rw [List.length_range] at e3
  omega
/-- what pairs must be so that they make the pairing ps -/
structure Makes (qs : List (Nat × Nat)) (ps : List Nat) : Prop where
  half : 2 * qs.length = ps.length
  ok : ∀ p ∈ qs, ps[p.1]? = some p.2 ∧ ps[p.2]? = some p.1
  all : ∀ z, z < ps.length → ∃ p ∈ qs, p.1 = z ∨ p.2 = z
theorem makes_cpl {n : Nat} {ps : List Nat} (h : IsPair n ps) : Makes (cpl ps) ps where
  half := by rw [cpl_half h, h.len]
  ok p hp := by
    obtain ⟨e, _⟩ := (mem_cpl h).mp hp
    exact ⟨e, (h.back e).1⟩
  all z hz := cpl_cover h (by rw [← h.len]; exact hz)
/-- the pairs of qs in any order, turned or not -/
theorem Makes.turned {qs rs : List (Nat × Nat)} {ps : List Nat} (h : Makes qs ps) (hl : rs.length = qs.length) (h1 : ∀ p ∈ rs, p ∈ qs ∨ (p.2, p.1) ∈ qs) (h2 : ∀ p ∈ qs, p ∈ rs ∨ (p.2, p.1) ∈ rs) : Makes rs ps where
  half := by rw [hl]; exact h.half
  ok p hp := by
    rcases h1 p hp with z | z
    · exact h.ok p z
    · obtain ⟨a, b⟩ := h.ok _ z
      exact ⟨b, a⟩
  all z hz := by
    obtain ⟨p, hp, e⟩ := h.all z hz
    rcases h2 p hp with q | q
    · exact ⟨p, q, e⟩
    · exact ⟨_, q, e.symm⟩
def CInv (ps : List Nat) (qs : List (Nat × Nat)) (fs : List Nat) (i : Nat) : Prop := fs.length = ps.length ∧ ∀ j, j < i → ∀ p, qs[j]? = some p → fs[p.1]? = ps[p.1]? ∧ fs[p.2]? = ps[p.2]?
theorem set_keeps {ps fs : List Nat} {x y z : Nat} (hy : ps[x]? = some y) (hx : x < fs.length) (h : fs[z]? = ps[z]?) : (fs.set x y)[z]? = ps[z]? := by
  by_cases e : x = z
  · subst e
    rw [List.getElem?_set_self hx, hy]
  · rw [List.getElem?_set_ne e]; exact h
theorem CInv.step {ps fs : List Nat} {qs : List (Nat × Nat)} {i : Nat} {p : Nat × Nat} (m : Makes qs ps) (h : CInv ps qs fs i) (hp : qs[i]? = some p) : CInv ps qs ((fs.set p.1 p.2).set p.2 p.1) (i + 1) := by
  obtain ⟨hl, hj⟩ := h
  obtain ⟨o1, o2⟩ := m.ok p (List.mem_of_getElem? hp)
  have l1 : p.1 < fs.length := by rw [hl]; exact get_lt o1
  have l2 : p.2 < (fs.set p.1 p.2).length := by rw [List.length_set, hl]; exact get_lt o2
  refine ⟨by rw [List.length_set, List.length_set, hl], fun j hj2 r hr => ?_⟩
  by_cases e : j = i
  · subst e
    cases Option.some.inj (hp.symm.trans hr)
    refine ⟨set_keeps o2 l2 ?_, ?_⟩
    · rw [List.getElem?_set_self l1, o1]
    · rw [List.getElem?_set_self l2, o2]
  · obtain ⟨a, b⟩ := hj j (by omega) r hr
    exact ⟨set_keeps o2 l2 (set_keeps o1 l1 a), set_keeps o2 l2 (set_keeps o1 l1 b)⟩
theorem CInv.done {ps fs : List Nat} {qs : List (Nat × Nat)} (m : Makes qs ps) (h : CInv ps qs fs qs.length) : fs = ps := by
  refine List.ext_getElem? fun z => ?_
  by_cases hz : z < ps.length
  · obtain ⟨p, hp, e⟩ := m.all z hz
    obtain ⟨i, hi, ei⟩ := List.mem_iff_getElem.mp hp
    obtain ⟨a, b⟩ := h.2 i hi p (by rw [List.getElem?_eq_getElem hi, ei])
    rcases e with e | e
    · rw [← e]; exact a
    · rw [← e]; exact b
  · rw [List.getElem?_eq_none (by rw [h.1]; omega), List.getElem?_eq_none (by omega)]
end Pc
namespace Pc
open PySem PySem.Spec PyProof.Rows L2 RZ
section
variable {K : PySem.W.Frag}
/-- the values us are the pairs qs, each a tuple or a list -/
def Items (K : PySem.W.Frag) (H : Hp) (us : List V) (qs : List (Nat × Nat)) : Prop := us.length = qs.length ∧ ∀ (i : Nat) (v : V), us[i]? = some v → ∃ (c : Addr) (p : Nat × Nat), v = .ref c ∧ qs[i]? = some p ∧ Sq K H c [.int p.1, .int p.2]
theorem Items.same {H H' : Hp} {us : List V} {qs : List (Nat × Nat)} (h : Items K H us qs) (e : Same H H') : Items K H' us qs := ⟨h.1, fun i v hv => by
  obtain ⟨c, p, h1, h2, h3⟩ := h.2 i v hv
  exact ⟨c, p, h1, h2, h3.same e⟩⟩
theorem items_of {H : Hp} {as : List Addr} {qs : List (Nat × Nat)} (h : Prs H as qs) : Items K H (as.map V.ref) qs := ⟨by rw [List.length_map]; exact h.length, fun i v hv => by
  rw [List.getElem?_map] at hv
  cases e : as[i]? with
  | none => rw [e] at hv; cases hv
  | some c =>
    rw [e] at hv
    obtain ⟨p, h1, h2⟩ := prs_get h e
    exact ⟨c, p, (Option.some.inj hv).symm, h1, .inr (.inl (.inl h2))⟩⟩
end
end Pc
namespace Pc
open PySem PySem.Spec PyProof.Rows L2 RZ
theorem paired_perm {α β : Type} {R : α → β → Prop} {as bs : List α} (h : as.Perm bs) : ∀ ps : List β, Paired R as ps → ∃ qs : List β, qs.Perm ps ∧ Paired R bs qs := by
  induction h with
  | nil => exact fun ps h => ⟨ps, List.Perm.refl _, h⟩
  | cons x _ ih =>
    intro ps h
    cases h with
    | cons r t =>
      obtain ⟨qs, h1, h2⟩ := ih _ t
      exact ⟨_ :: qs, h1.cons _, .cons r h2⟩
  | swap x y l =>
    intro ps h
    cases h with
    | cons r t =>
      cases t with
      | cons r2 t2 => exact ⟨_, List.Perm.swap _ _ _, .cons r2 (.cons r t2)⟩
  | trans _ _ ih1 ih2 =>
    intro ps h
    obtain ⟨qs, h1, h2⟩ := ih1 ps h
    obtain ⟨rs, h3, h4⟩ := ih2 qs h2
    exact ⟨rs, h3.trans h1, h4⟩
/-- the same pairs, some turned -/
def Turned (qs rs : List (Nat × Nat)) : Prop := rs.length = qs.length ∧ ∀ (j : Nat) (p q : Nat × Nat), qs[j]? = some p → rs[j]? = some q → q = p ∨ q = (p.2, p.1)
theorem Turned.mem1 {qs rs : List (Nat × Nat)} (h : Turned qs rs) : ∀ p ∈ rs, p ∈ qs ∨ (p.2, p.1) ∈ qs := fun p hp => by
  obtain ⟨j, hj, e⟩ := List.mem_iff_getElem.mp hp
  obtain ⟨q, hq⟩ := get_some (l := qs) (i := j) (by rw [← h.1]; exact hj)
  rcases h.2 j q p hq (by rw [List.getElem?_eq_getElem hj, e]) with z | z
  · exact .inl (z ▸ List.mem_of_getElem? hq)
  · refine .inr ?_
    rw [z]
    exact List.mem_of_getElem? hq
theorem Turned.mem2 {qs rs : List (Nat × Nat)} (h : Turned qs rs) : ∀ p ∈ qs, p ∈ rs ∨ (p.2, p.1) ∈ rs := fun p hp => by
  obtain ⟨j, hj, e⟩ := List.mem_iff_getElem.mp hp
  obtain ⟨q, hq⟩ := get_some (l := rs) (i := j) (by rw [h.1]; exact hj)
  rcases h.2 j p q (by rw [List.getElem?_eq_getElem hj, e]) hq with z | z
  · exact .inl (z ▸ List.mem_of_getElem? hq)
  · exact .inr (z ▸ List.mem_of_getElem? hq)
theorem Makes.perm {qs rs : List (Nat × Nat)} {ps : List Nat} (h : Makes qs ps) (e : rs.Perm qs) : Makes rs ps := h.turned e.length_eq (fun p hp => .inl (e.mem_iff.mp hp)) (fun p hp => .inl (e.mem_iff.mpr hp))
theorem IsPair.lt {n : Nat} {ps : List Nat} (h : IsPair n ps) : ∀ i ∈ ps, i < n := fun i hi => by
  obtain ⟨x, hx, e⟩ := List.mem_iff_getElem.mp hi
  obtain ⟨y, e1, e2, _⟩ := h.par x (by rw [← h.len]; exact hx)
  rw [List.getElem?_eq_getElem hx, e] at e1
  cases Option.some.inj e1
  exact e2
theorem Makes.lt {qs : List (Nat × Nat)} {ps : List Nat} (h : Makes qs ps) : ∀ p ∈ qs, p.1 < ps.length ∧ p.2 < ps.length := fun p hp => ⟨get_lt (h.ok p hp).1, get_lt (h.ok p hp).2⟩
theorem iteN {A B : Prop} (h : B) : if (!true) = true then A else B := by
  rw [if_neg (by decide)]
  exact h
end Pc
namespace Pc
open PySem PySem.Spec PyProof.Rows L2 RZ
/-! ### a loop over a list or a tuple that stays as it is -/
theorem for_seq {K : PySem.W.Frag} {a : Addr} {xs : List V} {g : TG} {tb : TS} {D : Ends} {σ : L2.St} {H0 H : Hp} (hS : Sq K H0 a xs) (Pv : Nat → L2.St → Hp → Prop) (h0 : Pv 0 σ H) (hst : ∀ i σ H', Pv i σ H' → Same H0 H')
    (hs : ∀ i x σ H', xs[i]? = some x → Pv i σ H' → g x σ H' fun σ2 H2 => tb { D with nx := Pv (i + 1), ct := Pv (i + 1), bk := D.nx } σ2 H2) (hd : ∀ σ H', Pv xs.length σ H' → D.nx σ H') :
    ((∃ ys, SqL K H a ys) ∧ ∃ W : Nat → Nat → L2.St → Hp → Prop, (∃ m, W 0 m σ H) ∧ ∀ i m σ H, W i m σ H → ((Itl K a).stop i H ∧ D.nx σ H) ∨ ((Itl K a).go i H ∧ ∃ N : L2.St → Hp → Prop, (∀ σ' H', N σ' H' → ∃ m', m' < m ∧ W (i + 1) m' σ' H') ∧ ∀ x H', (Itl K a).yld i H x H' → g x σ H' fun σ2 H2 => tb { D with nx := N, ct := N, bk := D.nx } σ2 H2)) ∨
    ((∃ ys, SqT K H a ys) ∧ ∃ W : Nat → Nat → L2.St → Hp → Prop, (∃ m, W 0 m σ H) ∧ ∀ i m σ H, W i m σ H → ((Itt K a).stop i H ∧ D.nx σ H) ∨ ((Itt K a).go i H ∧ ∃ N : L2.St → Hp → Prop, (∀ σ' H', N σ' H' → ∃ m', m' < m ∧ W (i + 1) m' σ' H') ∧ ∀ x H', (Itt K a).yld i H x H' → g x σ H' fun σ2 H2 => tb { D with nx := N, ct := N, bk := D.nx } σ2 H2)) := by
  rcases hS with h | h
  · exact .inl ⟨⟨_, (hst 0 σ H h0).seq h⟩, for_list Pv h0 (fun i σ H' _ p => (hst i σ H' p).seq h) hs hd⟩
  · exact .inr ⟨⟨_, same_tup (hst 0 σ H h0) h⟩, for_tup Pv h0 (fun i σ H' _ p => same_tup (hst i σ H' p) h) hs hd⟩
/-! ### two are joined, and the two that are left -/
def jn (fs : List Nat) (a b : Nat) : List Nat := if fs.getD a 0 = b then fs else (((fs.set a b).set b a).set (fs.getD a 0) (fs.getD b 0)).set (fs.getD b 0) (fs.getD a 0)
theorem jn_len (fs : List Nat) (a b : Nat) : (jn fs a b).length = fs.length := by
  unfold jn
  split
  · rfl
  · simp only [List.length_set]
/-- the four are different -/
theorem four {n : Nat} {fs : List Nat} (h : IsPair n fs) {a b c d : Nat} (hab : a ≠ b) (ea : fs[a]? = some c) (eb : fs[b]? = some d) (hcb : c ≠ b) : c ≠ a ∧ d ≠ b ∧ d ≠ a ∧ c ≠ d ∧ a < n ∧ b < n ∧ c < n ∧ d < n := by
  obtain ⟨a1, a2, a3, a4⟩ := h.back ea
  obtain ⟨b1, b2, b3, b4⟩ := h.back eb
  refine ⟨a4, b4, fun e => ?_, fun e => ?_, a3, b3, a2, b2⟩
  · rw [e, ea] at b1; exact hcb (Option.some.inj b1)
  · rw [e, b1] at a1; exact hab (Option.some.inj a1).symm
theorem jn_same {fs : List Nat} {a b : Nat} (e : fs[a]? = some b) : jn fs a b = fs := by
  unfold jn
  rw [getD_of e, if_pos rfl]
theorem jn_get {n : Nat} {fs : List Nat} (h : IsPair n fs) {a b c d : Nat} (hab : a ≠ b) (ea : fs[a]? = some c) (eb : fs[b]? = some d) (hcb : c ≠ b) (z : Nat) :
    (jn fs a b)[z]? = if z = a then some b else if z = b then some a else if z = c then some d else if z = d then some c else fs[z]? := by
  obtain ⟨x1, x2, x3, x4, l1, l2, l3, l4⟩ := four h hab ea eb hcb
  unfold jn
  rw [getD_of ea, getD_of eb, if_neg hcb]
  have hl := h.len
  by_cases z4 : z = d
  · subst z4
    rw [List.getElem?_set_self (by simp only [List.length_set]; omega), if_neg x3, if_neg x2, if_neg (Ne.symm x4), if_pos rfl]
  · rw [List.getElem?_set_ne (Ne.symm z4)]
    by_cases z3 : z = c
    · subst z3
      rw [List.getElem?_set_self (by simp only [List.length_set]; omega), if_neg x1, if_neg hcb, if_pos rfl]
    · rw [List.getElem?_set_ne (Ne.symm z3)]
      by_cases z2 : z = b
      · subst z2
        rw [List.getElem?_set_self (by simp only [List.length_set]; omega), if_neg (Ne.symm hab), if_pos rfl]
      · rw [List.getElem?_set_ne (Ne.symm z2)]
        by_cases z1 : z = a
        · subst z1
          rw [List.getElem?_set_self (by omega), if_pos rfl]
        · rw [List.getElem?_set_ne (Ne.symm z1), if_neg z1, if_neg z2, if_neg z3, if_neg z4]
theorem jn_pair {n : Nat} {fs : List Nat} (h : IsPair n fs) {a b : Nat} (hab : a ≠ b) (ha : a < n) (hb : b < n) : IsPair n (jn fs a b) := by
  obtain ⟨c, ea, _⟩ := h.par a ha
  obtain ⟨d, eb, _⟩ := h.par b hb
  by_cases hcb : c = b
  · subst hcb; rw [jn_same ea]; exact h
  · have G := jn_get h hab ea eb hcb
    obtain ⟨x1, x2, x3, x4, _, _, l3, l4⟩ := four h hab ea eb hcb
    refine ⟨by rw [jn_len]; exact h.len, fun x hx => ?_⟩
    by_cases z1 : x = a
    · subst z1
      exact ⟨b, by rw [G, if_pos rfl], hb, hab.symm, by rw [G, if_neg hab.symm, if_pos rfl]⟩
    · by_cases z2 : x = b
      · subst z2
        exact ⟨a, by rw [G, if_neg z1, if_pos rfl], ha, hab, by rw [G, if_pos rfl]⟩
      · by_cases z3 : x = c
        · subst z3
          exact ⟨d, by rw [G, if_neg z1, if_neg z2, if_pos rfl], l4, x4.symm, by rw [G, if_neg x3, if_neg x2, if_neg x4.symm, if_pos rfl]⟩
        · by_cases z4 : x = d
          · subst z4
            exact ⟨c, by rw [G, if_neg z1, if_neg z2, if_neg z3, if_pos rfl], l3, x4, by rw [G, if_neg x1, if_neg hcb, if_pos rfl]⟩
          · obtain ⟨y, e1, e2, e3, e4⟩ := h.par x hx
            have back : ∀ {u : Nat}, y = u → fs[u]? = some x := fun e => by rw [← e]; exact e4
            refine ⟨y, by rw [G, if_neg z1, if_neg z2, if_neg z3, if_neg z4]; exact e1, e2, e3, ?_⟩
            rw [G, if_neg, if_neg, if_neg, if_neg]
            · exact e4
            · intro e; have q := back e; rw [(h.back eb).1] at q; exact z2 (Option.some.inj q).symm
            · intro e; have q := back e; rw [(h.back ea).1] at q; exact z1 (Option.some.inj q).symm
            · intro e; have q := back e; rw [eb] at q; exact z4 (Option.some.inj q).symm
            · intro e; have q := back e; rw [ea] at q; exact z3 (Option.some.inj q).symm
/-- all pairs are calls of n people -/
def Calls (n : Nat) (qs : List (Nat × Nat)) : Prop := ∀ q ∈ qs, q.1 < q.2 ∧ q.2 < n
/-- the calls done one after another -/
def runs (qs : List (Nat × Nat)) (ps : List Nat) : List Nat := qs.foldl (fun fs q => jn fs q.1 q.2) ps
theorem runs_take {qs : List (Nat × Nat)} {ps : List Nat} {i : Nat} {q : Nat × Nat} (h : qs[i]? = some q) : runs (qs.take (i + 1)) ps = jn (runs (qs.take i) ps) q.1 q.2 := by
  unfold runs
  rw [List.take_add_one, h, List.foldl_append]
  rfl
theorem runs_pair {n : Nat} : ∀ (qs : List (Nat × Nat)) {ps : List Nat}, IsPair n ps → Calls n qs → IsPair n (runs qs ps)
  | [], _, h, _ => h
  | q :: r, ps, h, hc => by
    have h1 := hc q List.mem_cons_self
    exact runs_pair r (jn_pair h (by omega) (by omega) h1.2) (fun x hx => hc x (List.mem_cons_of_mem _ hx))
theorem Calls.take {n : Nat} {qs : List (Nat × Nat)} (h : Calls n qs) (i : Nat) : Calls n (qs.take i) := fun q hq => h q (List.mem_of_mem_take hq)
end Pc
namespace Pc
open PySem PySem.Spec PyProof.Rows L2 RZ
/-! ### lists of tuples of numbers -/
def Tups (H : Hp) (as : List Addr) (ls : List (List Nat)) : Prop := Paired (fun a l => H a = some (.tup (nv l))) as ls
theorem Tups.length {H : Hp} {as : List Addr} {ls : List (List Nat)} (h : Tups H as ls) : as.length = ls.length := Paired.length h
theorem tups_same {H H' : Hp} (e : Same H H') : ∀ {as : List Addr} {ls : List (List Nat)}, Tups H as ls → Tups H' as ls
  | _, _, .nil => .nil
  | _, _, .cons h r => .cons (e _ _ h) (tups_same e r)
theorem tups_keep {b : Addr} {H H' : Hp} {ys : List V} (k : Keep b H H') (hb : H b = some (.lst ys)) : ∀ {as : List Addr} {ls : List (List Nat)}, Tups H as ls → Tups H' as ls
  | _, _, .nil => .nil
  | _, _, .cons h r => .cons (k.tup hb h) (tups_keep k hb r)
theorem tups_append {H : Hp} : ∀ {as bs : List Addr} {ls ms : List (List Nat)}, Tups H as ls → Tups H bs ms → Tups H (as ++ bs) (ls ++ ms)
  | _, _, _, _, .nil, s => s
  | _, _, _, _, .cons h r, s => .cons h (tups_append r s)
theorem tups_get {H : Hp} : ∀ {as : List Addr} {ls : List (List Nat)} {i : Nat} {a : Addr}, Tups H as ls → as[i]? = some a → ∃ l, ls[i]? = some l ∧ H a = some (.tup (nv l))
  | _, _, _, _, .nil, h => by simp at h
  | _, _, 0, _, .cons (b := p) h _, e => by
    cases Option.some.inj e
    exact ⟨p, rfl, h⟩
  | _, _, i + 1, a, .cons _ r, e => tups_get (i := i) r e
def td (l : List Nat) : PyData := .tuple (nd l)
theorem tups_dp {K : PySem.W.Frag} {H : Hp} : ∀ {as : List Addr} {ls : List (List Nat)}, Tups H as ls → DpAll K H (as.map V.ref) (ls.map td)
  | _, _, .nil => .nil
  | _, _, .cons (b := l) h r => .cons (.tup (.inl (.inl h)) (dp_nats l)) (tups_dp r)
theorem fine_tds {ls : List (List Nat)} {n m : Nat} (h : ∀ l ∈ ls, l.length ≤ m ∧ ∀ i ∈ l, i < 2 ^ 60) (hn : ls.length ≤ n) (hb : n ≤ 100000) (hm : m ≤ 100000) : Fine 2 (n * (m * 63 + 5) + 3) (.list (ls.map td)) :=
  fine_list (fun d hd => by
    obtain ⟨l, hl, rfl⟩ := List.mem_map.mp hd
    exact fine_tup (h l hl).2 (h l hl).1 hm) (by rw [List.length_map]; exact hn) hb
/-- the pairings before the first call and behind each -/
def alongs (qs : List (Nat × Nat)) (ps : List Nat) (i : Nat) : List (List Nat) := (List.range (i + 1)).map fun j => runs (qs.take j) ps
theorem alongs_zero (qs : List (Nat × Nat)) (ps : List Nat) : alongs qs ps 0 = [ps] := rfl
theorem alongs_succ (qs : List (Nat × Nat)) (ps : List Nat) (i : Nat) : alongs qs ps (i + 1) = alongs qs ps i ++ [runs (qs.take (i + 1)) ps] := by
  unfold alongs
  rw [List.range_succ, List.map_append]
  rfl
theorem alongs_len (qs : List (Nat × Nat)) (ps : List Nat) (i : Nat) : (alongs qs ps i).length = i + 1 := by
  unfold alongs
  rw [List.length_map, List.length_range]
theorem alongs_mem {n i : Nat} {qs : List (Nat × Nat)} {ps l : List Nat} (hP : IsPair n ps) (hc : Calls n qs) (h : l ∈ alongs qs ps i) : IsPair n l := by
  obtain ⟨j, _, rfl⟩ := List.mem_map.mp h
  exact runs_pair _ hP (hc.take j)
end Pc
namespace Pc
open PySem PySem.Spec PyProof.Rows L2 RZ
/-! ### sheets as lists of natural numbers -/
/-- the empty sheet of n people -/
def emp (n : Nat) : List Nat := (List.range (2 * n)).map fun e => (e + n) % (2 * n)
theorem emp_len (n : Nat) : (emp n).length = 2 * n := by unfold emp; rw [List.length_map, List.length_range]
theorem emp_get {n e : Nat} (h : e < 2 * n) : (emp n)[e]? = some ((e + n) % (2 * n)) := by
  unfold emp
  rw [List.getElem?_map, List.getElem?_range h]
  rfl
theorem emp_lo {n e : Nat} (h : e < n) : (emp n)[e]? = some (n + e) := by
  rw [emp_get (by omega), Nat.mod_eq_of_lt (by omega), Nat.add_comm]
theorem emp_hi {n e : Nat} (h : e < n) : (emp n)[n + e]? = some e := by
  rw [emp_get (by omega), show n + e + n = e + 1 * (2 * n) by omega, Nat.add_mul_mod_self_right, Nat.mod_eq_of_lt (by omega)]
theorem emp_pair {n : Nat} (hn : 0 < n) : IsPair (2 * n) (emp n) := by
  refine ⟨emp_len n, fun x hx => ?_⟩
  by_cases h : x < n
  · exact ⟨n + x, emp_lo h, by omega, by omega, emp_hi h⟩
  · have e : x = n + (x - n) := by omega
    refine ⟨x - n, ?_, by omega, by omega, ?_⟩
    · have := emp_hi (n := n) (e := x - n) (by omega)
      rw [← e] at this; exact this
    · have := emp_lo (n := n) (e := x - n) (by omega)
      rw [← e] at this; exact this
/-- the calls at the lower ends -/
def low (n : Nat) (qs : List (Nat × Nat)) : List (Nat × Nat) := qs.map fun q => (n + q.1, n + q.2)
theorem low_calls {n : Nat} {qs : List (Nat × Nat)} (h : Calls n qs) : Calls (2 * n) (low n qs) := fun q hq => by
  obtain ⟨r, hr, rfl⟩ := List.mem_map.mp hq
  have := h r hr
  exact ⟨by show n + r.1 < n + r.2; omega, by show n + r.2 < 2 * n; omega⟩
theorem low_take (n : Nat) (qs : List (Nat × Nat)) (i : Nat) : (low n qs).take i = low n (qs.take i) := by unfold low; rw [List.map_take]
theorem low_get {n i : Nat} {qs : List (Nat × Nat)} {q : Nat × Nat} (h : qs[i]? = some q) : (low n qs)[i]? = some (n + q.1, n + q.2) := by
  unfold low; rw [List.getElem?_map, h]; rfl
/-- the sheet with calls added -/
def shw (n : Nat) (qs : List (Nat × Nat)) (fs : List Nat) : List Nat := runs (low n qs) fs
theorem shw_take {n i : Nat} {qs : List (Nat × Nat)} {fs : List Nat} {q : Nat × Nat} (h : qs[i]? = some q) : shw n (qs.take (i + 1)) fs = jn (shw n (qs.take i) fs) (n + q.1) (n + q.2) := by
  unfold shw
  rw [← low_take, ← low_take, runs_take (low_get h)]
theorem shw_pair {n : Nat} {qs : List (Nat × Nat)} {fs : List Nat} (hP : IsPair (2 * n) fs) (h : Calls n qs) : IsPair (2 * n) (shw n qs fs) := runs_pair _ hP (low_calls h)
/-- the other order of the stores -/
theorem jn_alt {n : Nat} {fs : List Nat} (h : IsPair n fs) {a b c d : Nat} (hab : a ≠ b) (ea : fs[a]? = some c) (eb : fs[b]? = some d) (hcb : c ≠ b) : (((fs.set c d).set d c).set a b).set b a = jn fs a b := by
  obtain ⟨x1, x2, x3, x4, l1, l2, l3, l4⟩ := four h hab ea eb hcb
  have hl := h.len
  refine List.ext_getElem? fun z => ?_
  rw [jn_get h hab ea eb hcb]
  by_cases z2 : z = b
  · subst z2
    rw [List.getElem?_set_self (by simp only [List.length_set]; omega), if_neg hab.symm, if_pos rfl]
  · rw [List.getElem?_set_ne (Ne.symm z2)]
    by_cases z1 : z = a
    · subst z1
      rw [List.getElem?_set_self (by simp only [List.length_set]; omega), if_pos rfl]
    · rw [List.getElem?_set_ne (Ne.symm z1), if_neg z1, if_neg z2]
      by_cases z4 : z = d
      · subst z4
        rw [List.getElem?_set_self (by simp only [List.length_set]; omega), if_neg (Ne.symm x4), if_pos rfl]
      · rw [List.getElem?_set_ne (Ne.symm z4)]
        by_cases z3 : z = c
        · subst z3
          rw [List.getElem?_set_self (by omega), if_pos rfl]
        · rw [List.getElem?_set_ne (Ne.symm z3), if_neg z3, if_neg z4]
theorem range_shift (n : Nat) : rgV (n : Int) (2 * (n : Int)) = nv ((List.range n).map fun i => n + i) := by
  unfold rgV nv
  rw [show (2 * (n : Int) - (n : Int)).toNat = n by omega, List.map_map]
  refine List.map_congr_left fun i _ => ?_
  show V.int ((n : Int) + (i : Nat)) = V.int (((n + i : Nat) : Int))
  rw [show (((n + i : Nat) : Int)) = (n : Int) + (i : Nat) by omega]
/-- strands in any order: the upper ends in turn, the lower ends as drawn -/
def SInv (n : Nat) (ls fs : List Nat) (t : Nat) : Prop := fs.length = 2 * n ∧ ∀ j, j < t → ∀ l, ls[j]? = some l → fs[j]? = some l ∧ fs[l]? = some j
theorem SInv.step {n : Nat} {ls fs : List Nat} {t l : Nat} (hp : ls.Perm ((List.range n).map fun i => n + i)) (h : SInv n ls fs t) (hl : ls[t]? = some l) : SInv n ls ((fs.set t l).set l t) (t + 1) := by
  have hln : ls.length = n := by rw [hp.length_eq, List.length_map, List.length_range]
  have hnd : ls.Nodup := hp.nodup_iff.mpr (List.Pairwise.map _ (fun a b (hab : a ≠ b) => show n + a ≠ n + b by omega) List.nodup_range)
  have big : ∀ {j x : Nat}, ls[j]? = some x → n ≤ x ∧ x < 2 * n := fun hx => by
    obtain ⟨i, hi, e⟩ := List.mem_map.mp (hp.mem_iff.mp (List.mem_of_getElem? hx))
    have := List.mem_range.mp hi
    omega
  have ht : t < n := by rw [← hln]; exact get_lt hl
  have hb := big hl
  obtain ⟨h1, h2⟩ := h
  refine ⟨by simp only [List.length_set]; exact h1, fun j hj x hx => ?_⟩
  have hjn : j < n := by rw [← hln]; exact get_lt hx
  have hbx := big hx
  by_cases e : j = t
  · subst e
    cases Option.some.inj (hl.symm.trans hx)
    exact ⟨by rw [List.getElem?_set_ne (by omega), List.getElem?_set_self (by omega)], by rw [List.getElem?_set_self (by simp only [List.length_set]; omega)]⟩
  · obtain ⟨g1, g2⟩ := h2 j (by omega) x hx
    have xl : l ≠ x := fun z => by subst z; exact e (nd_ix hnd hx hl)
    exact ⟨by rw [List.getElem?_set_ne (by omega), List.getElem?_set_ne (by omega)]; exact g1, by rw [List.getElem?_set_ne xl, List.getElem?_set_ne (by omega)]; exact g2⟩
theorem SInv.done {n : Nat} {ls fs : List Nat} (hp : ls.Perm ((List.range n).map fun i => n + i)) (h : SInv n ls fs n) : IsPair (2 * n) fs := by
  have hln : ls.length = n := by rw [hp.length_eq, List.length_map, List.length_range]
  refine ⟨h.1, fun x hx => ?_⟩
  by_cases e : x < n
  · obtain ⟨l, hl⟩ := get_some (l := ls) (i := x) (by omega)
    obtain ⟨i, hi, e'⟩ := List.mem_map.mp (hp.mem_iff.mp (List.mem_of_getElem? hl))
    have := List.mem_range.mp hi
    obtain ⟨g1, g2⟩ := h.2 x e l hl
    exact ⟨l, g1, by omega, by omega, g2⟩
  · have hm : x ∈ ls := hp.mem_iff.mpr (List.mem_map.mpr ⟨x - n, List.mem_range.mpr (by omega), by omega⟩)
    obtain ⟨j, hj, ej⟩ := List.mem_iff_getElem.mp hm
    obtain ⟨g1, g2⟩ := h.2 j (by omega) x (by rw [List.getElem?_eq_getElem hj, ej])
    exact ⟨j, g2, by omega, by omega, g1⟩
theorem emp_step (n i : Nat) (h : i < 2 * n) : (emp n).take (i + 1) = (emp n).take i ++ [(i + n) % (2 * n)] := by
  rw [List.take_add_one, emp_get h]
  rfl
theorem nv_snoc' (l : List Nat) (x : Nat) : nv l ++ [.int (x : Int)] = nv (l ++ [x]) := by
  unfold nv
  rw [List.map_append]; rfl
theorem mod_cast_n (i n : Nat) : ((0 : Int) + (i : Nat) + (n : Int)) % (2 * (n : Int)) = (((i + n) % (2 * n) : Nat) : Int) := by
  have h : (((i + n) % (2 * n) : Nat) : Int) = ((i + n : Nat) : Int) % ((2 * n : Nat) : Int) := Int.natCast_emod _ _
  rw [h, Int.natCast_add, Int.natCast_mul, Int.zero_add]
  rfl
end Pc
namespace Pc
open PySem PySem.Spec PyProof.Rows L2 RZ
/-! ### pairs that are chosen from a range -/
def selN (c : Nat → Bool) (g : Nat → Nat × Nat) (i : Nat) : List (Nat × Nat) := ((List.range i).filter c).map g
theorem selN_yes {c : Nat → Bool} {g : Nat → Nat × Nat} {i : Nat} (h : c i = true) : selN c g (i + 1) = selN c g i ++ [g i] := by
  unfold selN
  rw [List.range_succ, List.filter_append, List.map_append, List.filter_cons_of_pos h, List.filter_nil, List.map_cons, List.map_nil]
theorem selN_no {c : Nat → Bool} {g : Nat → Nat × Nat} {i : Nat} (h : c i = false) : selN c g (i + 1) = selN c g i := by
  unfold selN
  rw [List.range_succ, List.filter_append, List.map_append, List.filter_cons_of_neg (by rw [h]; decide), List.filter_nil, List.map_nil, List.append_nil]
theorem selN_len (c : Nat → Bool) (g : Nat → Nat × Nat) (i : Nat) : (selN c g i).length ≤ i := by
  unfold selN
  rw [List.length_map]
  exact Nat.le_trans (List.length_filter_le _ _) (by rw [List.length_range]; exact Nat.le_refl _)
theorem selN_mem {c : Nat → Bool} {g : Nat → Nat × Nat} {i : Nat} {p : Nat × Nat} : p ∈ selN c g i ↔ ∃ x, x < i ∧ c x = true ∧ g x = p := by
  unfold selN
  rw [List.mem_map]
  constructor
  · rintro ⟨x, hx, e⟩
    have := List.mem_filter.mp hx
    exact ⟨x, List.mem_range.mp this.1, this.2, e⟩
  · rintro ⟨x, h1, h2, e⟩
    exact ⟨x, List.mem_filter.mpr ⟨List.mem_range.mpr h1, h2⟩, e⟩
/-- one more pair is put to the list -/
theorem sel_step {H H1 : Hp} {D u : Addr} {as : List Addr} {c : Nat → Bool} {g : Nat → Nat × Nat} {i : Nat} {v1 v2 : V} (nD : H D = none) (sm : Same H H1) (eD : H1 D = some (.lst (as.map V.ref))) (hA : Prs H1 as (selN c g i)) (hc : c i = true) (nu : H1 u = none)
    (hv : [v1, v2] = [V.int ((g i).1 : Int), V.int ((g i).2 : Int)]) (hi : i ≤ 999) : ∃ acc, (upd H1 u (.tup [v1, v2])) D = some (.lst acc) ∧ acc.length < sizeLine ∧
      (Same H (upd (upd H1 u (.tup [v1, v2])) D (.lst (acc ++ [.ref u]))) ∧ ∃ as' : List Addr, (upd (upd H1 u (.tup [v1, v2])) D (.lst (acc ++ [.ref u]))) D = some (.lst (as'.map V.ref)) ∧ Prs (upd (upd H1 u (.tup [v1, v2])) D (.lst (acc ++ [.ref u]))) as' (selN c g (i + 1))) := by
  have su : Same H1 (upd H1 u (.tup [v1, v2])) := same_new nu
  have nuD : u ≠ D := fun e => by rw [e, eD] at nu; cases nu
  refine ⟨_, su _ _ eD, ?_, fun b' o hb => ?_, as ++ [u], ?_, ?_⟩
  · rw [List.length_map, hA.length]
    have := selN_len c g i
    exact small1000 (by omega)
  · rw [upd_ne (ne_of_none hb nD)]; exact su _ _ (sm _ _ hb)
  · rw [upd_same, List.map_append]; rfl
  · rw [selN_yes hc]
    refine prs_append (prs_keep (b := D) (ys := as.map V.ref) keep_upd (su _ _ eD) (prs_same su hA)) (.cons ?_ .nil)
    rw [upd_ne nuD, upd_same, hv]
theorem ix_sq {K : PySem.W.Frag} {H : Hp} {a : Addr} {xs : List V} {i : Int} {v : V} {Q : VK} (h : Sq K H a xs) (e : atI xs i = some v) (q : Q v H) : rIx K (.ref a) (.int i) H Q :=
  h.elim (fun z => .inl ⟨a, xs, i, v, rfl, rfl, z, e, q⟩) (fun z => .inr (.inl ⟨a, xs, i, v, rfl, rfl, z, e, q⟩))
/-! ### upper pairs, lower pairs, strands -/
def upC (fs : List Nat) (n x : Nat) : Bool := decide (x < fs.getD x 0) && decide (fs.getD x 0 < n)
def upG (fs : List Nat) (x : Nat) : Nat × Nat := (x, fs.getD x 0)
def loC (fs : List Nat) (n x : Nat) : Bool := decide (n + x < fs.getD (n + x) 0)
def loG (fs : List Nat) (n x : Nat) : Nat × Nat := (x, fs.getD (n + x) 0 - n)
def stC (fs : List Nat) (n x : Nat) : Bool := decide (n ≤ fs.getD x 0)
def stG (fs : List Nat) (n x : Nat) : Nat × Nat := (x, fs.getD x 0 - n)
def ups (fs : List Nat) (n : Nat) : List (Nat × Nat) := selN (upC fs n) (upG fs) n
def los (fs : List Nat) (n : Nat) : List (Nat × Nat) := selN (loC fs n) (loG fs n) n
def sts (fs : List Nat) (n : Nat) : List (Nat × Nat) := selN (stC fs n) (stG fs n) n
theorem ups_mem {n : Nat} {fs : List Nat} (h : IsPair (2 * n) fs) {p : Nat × Nat} (hp : p ∈ ups fs n) : fs[p.1]? = some p.2 ∧ p.1 < p.2 ∧ p.2 < n := by
  obtain ⟨x, hx, hc, e⟩ := selN_mem.mp hp
  obtain ⟨y, ey, _⟩ := h.par x (by omega)
  unfold upC at hc
  rw [getD_of ey, Bool.and_eq_true, decide_eq_true_iff, decide_eq_true_iff] at hc
  subst e
  show fs[x]? = some (fs.getD x 0) ∧ x < fs.getD x 0 ∧ fs.getD x 0 < n
  rw [getD_of ey]
  exact ⟨ey, hc.1, hc.2⟩
theorem los_mem {n : Nat} {fs : List Nat} (h : IsPair (2 * n) fs) {p : Nat × Nat} (hp : p ∈ los fs n) : fs[n + p.1]? = some (n + p.2) ∧ p.1 < p.2 ∧ p.2 < n := by
  obtain ⟨x, hx, hc, e⟩ := selN_mem.mp hp
  obtain ⟨y, ey, hy, _⟩ := h.par (n + x) (by omega)
  unfold loC at hc
  rw [getD_of ey, decide_eq_true_iff] at hc
  subst e
  show fs[n + x]? = some (n + (fs.getD (n + x) 0 - n)) ∧ x < fs.getD (n + x) 0 - n ∧ fs.getD (n + x) 0 - n < n
  rw [getD_of ey, show n + (y - n) = y by omega]
  exact ⟨ey, by omega, by omega⟩
theorem sts_mem {n : Nat} {fs : List Nat} (h : IsPair (2 * n) fs) {p : Nat × Nat} (hp : p ∈ sts fs n) : fs[p.1]? = some (n + p.2) ∧ p.1 < n ∧ p.2 < n := by
  obtain ⟨x, hx, hc, e⟩ := selN_mem.mp hp
  obtain ⟨y, ey, hy, _⟩ := h.par x (by omega)
  unfold stC at hc
  rw [getD_of ey, decide_eq_true_iff] at hc
  subst e
  show fs[x]? = some (n + (fs.getD x 0 - n)) ∧ x < n ∧ fs.getD x 0 - n < n
  rw [getD_of ey, show n + (y - n) = y by omega]
  exact ⟨ey, by omega, by omega⟩
/-- all joins of a sheet, as pairs of ends -/
def jns (fs : List Nat) (n : Nat) : List (Nat × Nat) := ups fs n ++ ((los fs n).map (fun p => (n + p.1, n + p.2)) ++ (sts fs n).map (fun p => (p.1, n + p.2)))
theorem jns_ok {n : Nat} {fs : List Nat} (h : IsPair (2 * n) fs) : ∀ p ∈ jns fs n, fs[p.1]? = some p.2 ∧ p.1 < p.2 := fun p hp => by
  rcases List.mem_append.mp hp with z | z
  · have := ups_mem h z; exact ⟨this.1, this.2.1⟩
  · rcases List.mem_append.mp z with z | z
    · obtain ⟨r, hr, rfl⟩ := List.mem_map.mp z
      have := los_mem h hr
      exact ⟨this.1, by show n + r.1 < n + r.2; omega⟩
    · obtain ⟨r, hr, rfl⟩ := List.mem_map.mp z
      have := sts_mem h hr
      exact ⟨this.1, by show r.1 < n + r.2; omega⟩
theorem sel_fst {c : Nat → Bool} {g : Nat → Nat × Nat} {i : Nat} (h : ∀ x, (g x).1 = x) : (selN c g i).map Prod.fst = (List.range i).filter c := by
  unfold selN
  rw [List.map_map]
  conv => rhs; rw [← List.map_id ((List.range i).filter c)]
  exact List.map_congr_left fun x _ => h x
theorem jns_nodup {n : Nat} {fs : List Nat} (h : IsPair (2 * n) fs) : ((jns fs n).map Prod.fst).Nodup := by
  have e1 : (ups fs n).map Prod.fst = (List.range n).filter (upC fs n) := sel_fst fun _ => rfl
  have e2 : ((los fs n).map (fun p => (n + p.1, n + p.2))).map Prod.fst = ((List.range n).filter (loC fs n)).map (fun x => n + x) := by
    rw [← sel_fst (c := loC fs n) (g := loG fs n) (i := n) fun _ => rfl, List.map_map, List.map_map]; rfl
  have e3 : ((sts fs n).map (fun p => (p.1, n + p.2))).map Prod.fst = (List.range n).filter (stC fs n) := by
    rw [← sel_fst (c := stC fs n) (g := stG fs n) (i := n) fun _ => rfl, List.map_map]; rfl
  unfold jns
  rw [List.map_append, List.map_append, e1, e2, e3]
  have nr : (List.range n).Nodup := List.nodup_range
  refine List.nodup_append.mpr ⟨nr.filter _, List.nodup_append.mpr ⟨?_, nr.filter _, fun a ha b hb => ?_⟩, fun a ha b hb => ?_⟩
  · exact List.Pairwise.map _ (fun a b (hab : a ≠ b) => show n + a ≠ n + b by omega) (nr.filter _)
  · obtain ⟨x, _, rfl⟩ := List.mem_map.mp ha
    have := List.mem_range.mp (List.mem_filter.mp hb).1
    omega
  · have ha1 := List.mem_range.mp (List.mem_filter.mp ha).1
    have ha2 := (List.mem_filter.mp ha).2
    unfold upC at ha2
    rw [Bool.and_eq_true, decide_eq_true_iff, decide_eq_true_iff] at ha2
    rcases List.mem_append.mp hb with z | z
    · obtain ⟨x, _, rfl⟩ := List.mem_map.mp z; omega
    · have hb2 := (List.mem_filter.mp z).2
      unfold stC at hb2
      rw [decide_eq_true_iff] at hb2
      intro e; subst e; omega
theorem jns_all {n : Nat} {fs : List Nat} (h : IsPair (2 * n) fs) {z y : Nat} (e : fs[z]? = some y) (hz : z < y) : (z, y) ∈ jns fs n := by
  obtain ⟨_, hy, hz2, _⟩ := h.back e
  unfold jns
  by_cases c : z < n
  · by_cases d : y < n
    · refine List.mem_append.mpr (.inl (selN_mem.mpr ⟨z, c, ?_, ?_⟩))
      · unfold upC; rw [getD_of e, decide_eq_true hz, decide_eq_true d]; rfl
      · unfold upG; rw [getD_of e]
    · refine List.mem_append.mpr (.inr (List.mem_append.mpr (.inr (List.mem_map.mpr ⟨(z, y - n), selN_mem.mpr ⟨z, c, ?_, ?_⟩, ?_⟩))))
      · unfold stC; rw [getD_of e]; exact decide_eq_true (by omega)
      · unfold stG; rw [getD_of e]
      · show (z, n + (y - n)) = (z, y); rw [show n + (y - n) = y by omega]
  · have e' : fs[n + (z - n)]? = some y := by rw [show n + (z - n) = z by omega]; exact e
    refine List.mem_append.mpr (.inr (List.mem_append.mpr (.inl (List.mem_map.mpr ⟨(z - n, y - n), selN_mem.mpr ⟨z - n, by omega, ?_, ?_⟩, ?_⟩))))
    · unfold loC; rw [getD_of e']; exact decide_eq_true (by omega)
    · unfold loG; rw [getD_of e']
    · show (n + (z - n), n + (y - n)) = (z, y); rw [show n + (z - n) = z by omega, show n + (y - n) = y by omega]
/-- the ends of joins in a row -/
def flat : List (Nat × Nat) → List Nat
  | [] => []
  | p :: r => p.1 :: p.2 :: flat r
theorem flat_app : ∀ a b : List (Nat × Nat), flat (a ++ b) = flat a ++ flat b
  | [], _ => rfl
  | p :: r, b => by show p.1 :: p.2 :: flat (r ++ b) = _; rw [flat_app r b]; rfl
theorem flat_mem : ∀ {l : List (Nat × Nat)} {z : Nat}, z ∈ flat l ↔ ∃ p ∈ l, z = p.1 ∨ z = p.2
  | [], z => by simp [flat]
  | p :: r, z => by
    show z ∈ p.1 :: p.2 :: flat r ↔ _
    rw [List.mem_cons, List.mem_cons, flat_mem (l := r)]
    constructor
    · rintro (e | e | ⟨q, hq, e⟩)
      · exact ⟨p, List.mem_cons_self, .inl e⟩
      · exact ⟨p, List.mem_cons_self, .inr e⟩
      · exact ⟨q, List.mem_cons_of_mem _ hq, e⟩
    · rintro ⟨q, hq, e⟩
      rcases List.mem_cons.mp hq with z | z
      · subst z; exact e.elim .inl (fun e => .inr (.inl e))
      · exact .inr (.inr ⟨q, z, e⟩)
theorem flat_len : ∀ l : List (Nat × Nat), (flat l).length = 2 * l.length
  | [] => rfl
  | p :: r => by show (flat r).length + 1 + 1 = 2 * (r.length + 1); rw [flat_len r]; omega
theorem flat_nodup {n : Nat} {fs : List Nat} (h : IsPair n fs) : ∀ {l : List (Nat × Nat)}, (∀ p ∈ l, fs[p.1]? = some p.2 ∧ p.1 < p.2) → (l.map Prod.fst).Nodup → (flat l).Nodup
  | [], _, _ => List.nodup_nil
  | p :: r, ho, hd => by
    have hp := ho p List.mem_cons_self
    obtain ⟨n1, n2⟩ := List.nodup_cons.mp (show (p.1 :: r.map Prod.fst).Nodup from hd)
    have hr : ∀ q ∈ r, fs[q.1]? = some q.2 ∧ q.1 < q.2 := fun q hq => ho q (List.mem_cons_of_mem _ hq)
    have ih := flat_nodup h hr n2
    have bp := (h.back hp.1).1
    have ne1 : ∀ q ∈ r, p.1 ≠ q.1 := fun q hq e => n1 (List.mem_map.mpr ⟨q, hq, e.symm⟩)
    show (p.1 :: p.2 :: flat r).Nodup
    refine List.nodup_cons.mpr ⟨fun hm => ?_, List.nodup_cons.mpr ⟨fun hm => ?_, ih⟩⟩
    · rcases List.mem_cons.mp hm with e | e
      · omega
      · obtain ⟨q, hq, e⟩ := flat_mem.mp e
        have hq' := hr q hq
        rcases e with e | e
        · exact ne1 q hq e
        · have bq := (h.back hq'.1).1
          rw [← e, hp.1] at bq
          have := Option.some.inj bq
          omega
    · obtain ⟨q, hq, e⟩ := flat_mem.mp hm
      have hq' := hr q hq
      rcases e with e | e
      · have e1 := hq'.1
        rw [← e, bp] at e1
        have := Option.some.inj e1
        omega
      · have bq := (h.back hq'.1).1
        rw [← e, bp] at bq
        exact ne1 q hq (Option.some.inj bq)
theorem jns_perm {n : Nat} {fs : List Nat} (h : IsPair (2 * n) fs) : (flat (jns fs n)).Perm (List.range (2 * n)) := by
  refine (List.perm_ext_iff_of_nodup (flat_nodup h (jns_ok h) (jns_nodup h)) List.nodup_range).mpr fun z => ?_
  rw [flat_mem, List.mem_range]
  constructor
  · rintro ⟨p, hp, e⟩
    obtain ⟨b1, b2, b3, _⟩ := h.back (jns_ok h p hp).1
    rcases e with e | e <;> omega
  · intro hz
    obtain ⟨y, ey, hy, hne, eb⟩ := h.par z hz
    by_cases c : z < y
    · exact ⟨_, jns_all h ey c, .inl rfl⟩
    · exact ⟨_, jns_all h eb (by omega), .inr rfl⟩
theorem flat_two {f : Nat → Bool} : ∀ {l : List (Nat × Nat)}, (∀ p ∈ l, f p.1 = true ∧ f p.2 = true) → (flat l).countP f = 2 * l.length
  | [], _ => rfl
  | p :: r, h => by
    have hp := h p List.mem_cons_self
    show (p.1 :: p.2 :: flat r).countP f = _
    rw [List.countP_cons_of_pos hp.1, List.countP_cons_of_pos hp.2, flat_two fun q hq => h q (List.mem_cons_of_mem _ hq), List.length_cons]
    omega
theorem flat_none {f : Nat → Bool} : ∀ {l : List (Nat × Nat)}, (∀ p ∈ l, f p.1 = false ∧ f p.2 = false) → (flat l).countP f = 0
  | [], _ => rfl
  | p :: r, h => by
    have hp := h p List.mem_cons_self
    show (p.1 :: p.2 :: flat r).countP f = _
    rw [List.countP_cons_of_neg (by rw [hp.1]; decide), List.countP_cons_of_neg (by rw [hp.2]; decide), flat_none fun q hq => h q (List.mem_cons_of_mem _ hq)]
theorem flat_one {f : Nat → Bool} : ∀ {l : List (Nat × Nat)}, (∀ p ∈ l, f p.1 = true ∧ f p.2 = false) → (flat l).countP f = l.length
  | [], _ => rfl
  | p :: r, h => by
    have hp := h p List.mem_cons_self
    show (p.1 :: p.2 :: flat r).countP f = _
    rw [List.countP_cons_of_pos hp.1, List.countP_cons_of_neg (by rw [hp.2]; decide), flat_one fun q hq => h q (List.mem_cons_of_mem _ hq), List.length_cons]
theorem range_low (n : Nat) : (List.range (2 * n)).countP (fun z => decide (z < n)) = n := by
  rw [show 2 * n = n + n by omega, List.range_add, List.countP_append, List.countP_eq_length.mpr (fun a ha => decide_eq_true (List.mem_range.mp ha)), List.countP_eq_zero.mpr (fun a ha => ?_), List.length_range, Nat.add_zero]
  obtain ⟨x, _, rfl⟩ := List.mem_map.mp ha
  rw [decide_eq_true_iff]; omega
theorem ups_los {n : Nat} {fs : List Nat} (h : IsPair (2 * n) fs) : (ups fs n).length = (los fs n).length := by
  have hp := jns_perm h
  have hl := hp.length_eq
  have hc := hp.countP_eq (fun z => decide (z < n))
  rw [range_low] at hc
  rw [flat_len, List.length_range] at hl
  unfold jns at hc hl
  rw [List.length_append, List.length_append, List.length_map, List.length_map] at hl
  have x1 : (flat (ups fs n)).countP (fun z => decide (z < n)) = 2 * (ups fs n).length := flat_two fun p hp => by
    have := ups_mem h hp
    exact ⟨decide_eq_true (by omega), decide_eq_true (by omega)⟩
  have x2 : (flat ((los fs n).map (fun p => (n + p.1, n + p.2)))).countP (fun z => decide (z < n)) = 0 := flat_none fun p hp => by
    obtain ⟨r, hr, rfl⟩ := List.mem_map.mp hp
    exact ⟨decide_eq_false (by show ¬ n + r.1 < n; omega), decide_eq_false (by show ¬ n + r.2 < n; omega)⟩
  have x3 : (flat ((sts fs n).map (fun p => (p.1, n + p.2)))).countP (fun z => decide (z < n)) = ((sts fs n).map (fun p => (p.1, n + p.2))).length := flat_one fun p hp => by
    obtain ⟨r, hr, rfl⟩ := List.mem_map.mp hp
    have := sts_mem h hr
    exact ⟨decide_eq_true (by show r.1 < n; omega), decide_eq_false (by show ¬ n + r.2 < n; omega)⟩
  rw [flat_app, flat_app, List.countP_append, List.countP_append, x1, x2, x3, List.length_map] at hc
  omega
end Pc
namespace Pc
/-! ### ways along a sheet and a pairing -/
/-- nodup numbers below n are n at most -/
theorem few_below : ∀ (n : Nat) (l : List Nat), l.Nodup → (∀ x ∈ l, x < n) → l.length ≤ n
  | 0, l, _, h => by
    cases l with
    | nil => exact Nat.le_refl _
    | cons a r => exact absurd (h a List.mem_cons_self) (Nat.not_lt_zero _)
  | n + 1, l, hd, h => by
    by_cases hm : n ∈ l
    · have h1 : (l.erase n).length = l.length - 1 := List.length_erase_of_mem hm
      have h2 := few_below n (l.erase n) (hd.erase n) (fun x hx => by
        have hx' := (hd.mem_erase_iff).mp hx
        have := h x hx'.2
        have := hx'.1
        omega)
      omega
    · have h2 := few_below n l hd (fun x hx => by
        have := h x hx
        have : x ≠ n := fun e => hm (e ▸ hx)
        omega)
      omega
/-- a function on the first n + 1 numbers into the n first ones takes one value twice -/
theorem pigeon (n : Nat) (f : Nat → Nat) (h : ∀ i, i ≤ n → f i < n) : ∃ i j, i < j ∧ j ≤ n ∧ f i = f j := by
  apply Classical.byContradiction
  intro hn
  have hd : ((List.range (n + 1)).map f).Nodup := by
    rw [List.nodup_iff_pairwise_ne, List.pairwise_map]
    refine List.Pairwise.imp_of_mem ?_ List.pairwise_lt_range
    intro a b ha hb hab e
    exact hn ⟨a, b, hab, by have := List.mem_range.mp hb; omega, e⟩
  have := few_below n _ hd (fun x hx => by
    obtain ⟨i, hi, rfl⟩ := List.mem_map.mp hx
    exact h i (by have := List.mem_range.mp hi; omega))
  rw [List.length_map, List.length_range] at this
  omega
section
variable (fs ps : List Nat) (n : Nat)
/-- the whole way from an end: along the join, along the couple, and so on until a lower end -/
inductive Trail : Nat → List Nat → Prop
  | stop {z : Nat} : n ≤ fs.getD z 0 → Trail z [z, fs.getD z 0]
  | go {z : Nat} {l : List Nat} : fs.getD z 0 < n → Trail (ps.getD (fs.getD z 0) 0) l → Trail z (z :: fs.getD z 0 :: l)
/-- where the steps of a way begin -/
def hop (z : Nat) : Nat → Nat
  | 0 => z
  | k + 1 => ps.getD (fs.getD (hop z k) 0) 0
end
theorem IsPair.d {n : Nat} {ps : List Nat} (h : IsPair n ps) {x : Nat} (hx : x < n) : ps.getD x 0 < n ∧ ps.getD x 0 ≠ x ∧ ps.getD (ps.getD x 0) 0 = x ∧ ps[x]? = some (ps.getD x 0) := by
  obtain ⟨y, h1, h2, h3, h4⟩ := h.par x hx
  rw [getD_of h1]
  exact ⟨h2, h3, getD_of h4, h1⟩
theorem IsPair.inj {n : Nat} {ps : List Nat} (h : IsPair n ps) {x y : Nat} (hx : x < n) (hy : y < n) (e : ps.getD x 0 = ps.getD y 0) : x = y := by
  rw [← (h.d hx).2.2.1, ← (h.d hy).2.2.1, e]
theorem Trail.det {fs ps : List Nat} {n z : Nat} {l m : List Nat} (h : Trail fs ps n z l) : Trail fs ps n z m → l = m := by
  induction h generalizing m with
  | stop h1 => intro h; cases h with
    | stop _ => rfl
    | go h2 _ => omega
  | go h1 _ ih => intro h; cases h with
    | stop h2 => omega
    | go _ h3 => rw [ih h3]
theorem Trail.len {fs ps : List Nat} {n z : Nat} {l : List Nat} (h : Trail fs ps n z l) : 2 ≤ l.length ∧ l.length % 2 = 0 ∧ n ≤ l.getLastD 0 := by
  induction h with
  | stop h1 => exact ⟨Nat.le_refl _, by simp only [List.length_cons, List.length_nil], h1⟩
  | @go z l h1 _ ih =>
    refine ⟨by simp only [List.length_cons]; omega, by simp only [List.length_cons]; omega, ?_⟩
    cases l with
    | nil => exact absurd ih.1 (by decide)
    | cons a r => exact ih.2.2
theorem hop_step (fs ps : List Nat) (z k : Nat) : hop fs ps (ps.getD (fs.getD z 0) 0) k = hop fs ps z (k + 1) := by
  induction k with
  | zero => rfl
  | succ k ih => rw [hop, ih]; rfl
theorem trail_of {fs ps : List Nat} {n : Nat} : ∀ (m z : Nat), n ≤ fs.getD (hop fs ps z m) 0 → ∃ l, Trail fs ps n z l ∧ l.length ≤ 2 * m + 2
  | 0, z, h => ⟨_, .stop h, Nat.le_refl _⟩
  | m + 1, z, h => by
    by_cases c : fs.getD z 0 < n
    · obtain ⟨l, h1, h2⟩ := trail_of m (ps.getD (fs.getD z 0) 0) (by rw [hop_step]; exact h)
      exact ⟨_, .go c h1, by simp only [List.length_cons]; omega⟩
    · exact ⟨_, .stop (by omega), by simp only [List.length_cons, List.length_nil]; omega⟩
/-- every way from a lower end comes to a lower end -/
theorem trail_ex {fs ps : List Nat} {n : Nat} (hF : IsPair (2 * n) fs) (hP : IsPair n ps) {z : Nat} (hz : n ≤ z) (hz2 : z < 2 * n) : ∃ l, Trail fs ps n z l ∧ l.length ≤ 2 * n + 2 := by
  apply Classical.byContradiction
  intro hn
  have small : ∀ k, k ≤ n → fs.getD (hop fs ps z k) 0 < n := fun k hk => by
    apply Classical.byContradiction
    intro h
    obtain ⟨l, h1, h2⟩ := trail_of (fs := fs) (ps := ps) (n := n) k z (by omega)
    exact hn ⟨l, h1, by omega⟩
  have hl : ∀ k, k ≤ n → hop fs ps z k < 2 * n ∧ (0 < k → hop fs ps z k < n) := fun k hk => by
    cases k with
    | zero => exact ⟨hz2, fun h => absurd h (Nat.lt_irrefl _)⟩
    | succ k =>
      have := (hP.d (small k (by omega))).1
      exact ⟨by show ps.getD _ 0 < 2 * n; omega, fun _ => this⟩
  have diff : ∀ i j, i < j → j ≤ n → hop fs ps z i ≠ hop fs ps z j := fun i => by
    induction i with
    | zero =>
      intro j hj hn2 e
      have := (hl j hn2).2 hj
      have e' : z = hop fs ps z j := e
      omega
    | succ i ih =>
      intro j hj hn2 e
      cases j with
      | zero => omega
      | succ j =>
        have e1 : fs.getD (hop fs ps z i) 0 = fs.getD (hop fs ps z j) 0 := hP.inj (small i (by omega)) (small j (by omega)) e
        exact ih j (by omega) (by omega) (hF.inj (hl i (by omega)).1 (hl j (by omega)).1 e1)
  obtain ⟨i, j, h1, h2, h3⟩ := pigeon n (fun k => fs.getD (hop fs ps z k) 0) small
  exact diff i j h1 h2 (hF.inj (hl i (by omega)).1 (hl j h2).1 h3)
/-- the way of a lower end, and where it ends -/
noncomputable def trl (fs ps : List Nat) (n z : Nat) : List Nat := open Classical in if h : ∃ l, Trail fs ps n z l then h.choose else []
noncomputable def far (fs ps : List Nat) (n z : Nat) : Nat := (trl fs ps n z).getLastD 0
theorem Trail.eq {fs ps : List Nat} {n z : Nat} {l : List Nat} (h : Trail fs ps n z l) : trl fs ps n z = l := by
  unfold trl
  rw [dif_pos ⟨l, h⟩]
  exact (Exists.choose_spec (⟨l, h⟩ : ∃ l, Trail fs ps n z l)).det h
theorem trl_trail {fs ps : List Nat} {n : Nat} (hF : IsPair (2 * n) fs) (hP : IsPair n ps) {z : Nat} (hz : n ≤ z) (hz2 : z < 2 * n) : Trail fs ps n z (trl fs ps n z) ∧ (trl fs ps n z).length ≤ 2 * n + 2 := by
  obtain ⟨l, h1, h2⟩ := trail_ex hF hP hz hz2
  rw [h1.eq]; exact ⟨h1, h2⟩
/-- what is read -/
noncomputable def rd (fs ps : List Nat) (n : Nat) : List Nat := (List.range n).map fun x => far fs ps n (n + x) - n
end Pc
namespace Pc
theorem lastc {l : List Nat} (h : 2 ≤ l.length) (a b d : Nat) : (a :: b :: l).getLastD d = l.getLastD d := by
  cases l with
  | nil => exact absurd h (by decide)
  | cons x r => rfl
theorem Trail.last {fs ps : List Nat} {n z : Nat} {l : List Nat} (hF : IsPair (2 * n) fs) (hP : IsPair n ps) (h : Trail fs ps n z l) : z < 2 * n → l.getLastD 0 < 2 * n := by
  induction h with
  | @stop z h1 => intro hz; exact (hF.d hz).1
  | @go z l h1 h2 ih =>
    intro hz
    rw [lastc h2.len.1]
    have := (hP.d h1).1
    exact ih (by omega)
theorem Trail.rev {fs ps : List Nat} {n z : Nat} {l : List Nat} (hF : IsPair (2 * n) fs) (hP : IsPair n ps) (h : Trail fs ps n z l) : z < 2 * n → ∀ t : List Nat, (n ≤ z → t = []) → (z < n → Trail fs ps n (ps.getD z 0) t) → Trail fs ps n (l.getLastD 0) (l.reverse ++ t) := by
  have one : ∀ {z : Nat} {t : List Nat}, z < 2 * n → (n ≤ z → t = []) → (z < n → Trail fs ps n (ps.getD z 0) t) → Trail fs ps n (fs.getD z 0) (fs.getD z 0 :: z :: t) := fun {z t} hz h1 h2 => by
    have e := (hF.d hz).2.2.1
    by_cases c : z < n
    · have := Trail.go (fs := fs) (ps := ps) (n := n) (z := fs.getD z 0) (l := t) (by rw [e]; exact c) (by rw [e]; exact h2 c)
      rw [e] at this; exact this
    · rw [h1 (by omega)]
      have := Trail.stop (fs := fs) (ps := ps) (n := n) (z := fs.getD z 0) (by rw [e]; omega)
      rw [e] at this; exact this
  induction h with
  | @stop z h1 => intro hz t a b; exact one hz a b
  | @go z l h1 h2 ih =>
    intro hz t a b
    have hz' := hP.d h1
    rw [lastc h2.len.1]
    have := ih (by omega) (fs.getD z 0 :: z :: t) (fun x => by omega) (fun _ => by rw [hz'.2.2.1]; exact one hz a b)
    simp only [List.reverse_cons, List.append_assoc, List.cons_append, List.nil_append]
    exact this
theorem Trail.back {fs ps : List Nat} {n z : Nat} {l : List Nat} (hF : IsPair (2 * n) fs) (hP : IsPair n ps) (h : Trail fs ps n z l) (hz : n ≤ z) (hz2 : z < 2 * n) : Trail fs ps n (l.getLastD 0) l.reverse := by
  have := h.rev hF hP hz2 [] (fun _ => rfl) (fun h => by omega)
  rw [List.append_nil] at this; exact this
theorem Trail.head {fs ps : List Nat} {n z : Nat} {l : List Nat} (h : Trail fs ps n z l) : l[0]? = some z := by
  cases h <;> rfl
theorem Trail.adj {fs ps : List Nat} {n z : Nat} {l : List Nat} (hF : IsPair (2 * n) fs) (hP : IsPair n ps) (h : Trail fs ps n z l) : z < 2 * n → ∀ i x, l[i]? = some x → l[i + 1]? ≠ some x := by
  induction h with
  | @stop z h1 =>
    intro hz i x h1 h2
    have hi : i + 1 < 2 := get_lt h2
    have : i = 0 := by omega
    subst this
    have e1 : z = x := Option.some.inj h1
    have e2 : fs.getD z 0 = x := Option.some.inj h2
    exact (hF.d hz).2.1 (e2.trans e1.symm)
  | @go z l h1 h2 ih =>
    intro hz i x g1 g2
    have hz' := hP.d h1
    cases i with
    | zero =>
      have e1 : z = x := Option.some.inj g1
      have e2 : fs.getD z 0 = x := Option.some.inj g2
      exact (hF.d hz).2.1 (e2.trans e1.symm)
    | succ i =>
      cases i with
      | zero =>
        have e1 : fs.getD z 0 = x := Option.some.inj g1
        have e2 : some (ps.getD (fs.getD z 0) 0) = some x := h2.head.symm.trans g2
        exact hz'.2.1 ((Option.some.inj e2).trans e1.symm)
      | succ i => exact ih (by omega) i x g1 g2
theorem last_get {l : List Nat} (h : 0 < l.length) : l[l.length - 1]? = some (l.getLastD 0) := by
  cases l with
  | nil => exact absurd h (by decide)
  | cons a r => rw [← List.getLast?_eq_getElem?, List.getLast?_eq_some_getLast (List.cons_ne_nil a r), List.getLastD_cons, ← List.getLast_eq_getLastD (h := List.cons_ne_nil a r)]
theorem far_is {fs ps : List Nat} {n z : Nat} {l : List Nat} (h : Trail fs ps n z l) : far fs ps n z = l.getLastD 0 := by
  unfold far; rw [h.eq]
theorem far_d {fs ps : List Nat} {n : Nat} (hF : IsPair (2 * n) fs) (hP : IsPair n ps) {z : Nat} (hz : n ≤ z) (hz2 : z < 2 * n) : n ≤ far fs ps n z ∧ far fs ps n z < 2 * n ∧ far fs ps n (far fs ps n z) = z ∧ far fs ps n z ≠ z := by
  obtain ⟨l, h1, _⟩ := trail_ex hF hP hz hz2
  have hb := h1.back hF hP hz hz2
  have hl := h1.len
  have e := far_is h1
  have e2 := far_is hb
  rw [e, e2]
  refine ⟨hl.2.2, h1.last hF hP hz2, ?_, fun c => ?_⟩
  · have g := last_get (l := l.reverse) (by rw [List.length_reverse]; omega)
    rw [List.length_reverse, List.getElem?_reverse (by omega), show l.length - 1 - (l.length - 1) = 0 by omega, h1.head] at g
    exact (Option.some.inj g).symm
  · rw [c] at hb
    have e3 : l = l.reverse := h1.det hb
    obtain ⟨k, hk⟩ : ∃ k, l.length = 2 * k := ⟨l.length / 2, by omega⟩
    have g1 : l[k - 1]? = l[k]? := by
      have g : l[k - 1]? = l.reverse[k - 1]? := congrArg (fun (m : List Nat) => m[k - 1]?) e3
      rw [List.getElem?_reverse (by omega), show l.length - 1 - (k - 1) = k by omega] at g
      exact g
    have lt : k - 1 < l.length := by omega
    exact h1.adj hF hP hz2 (k - 1) l[k - 1] (List.getElem?_eq_getElem lt) (by rw [show k - 1 + 1 = k by omega, ← g1]; exact List.getElem?_eq_getElem lt)
theorem rd_len (fs ps : List Nat) (n : Nat) : (rd fs ps n).length = n := by unfold rd; rw [List.length_map, List.length_range]
theorem rd_get (fs ps : List Nat) {n x : Nat} (h : x < n) : (rd fs ps n)[x]? = some (far fs ps n (n + x) - n) := by
  unfold rd; rw [List.getElem?_map, List.getElem?_range h]; rfl
theorem rd_pair {fs ps : List Nat} {n : Nat} (hF : IsPair (2 * n) fs) (hP : IsPair n ps) : IsPair n (rd fs ps n) := by
  refine ⟨rd_len _ _ _, fun x hx => ?_⟩
  obtain ⟨h1, h2, h3, h4⟩ := far_d hF hP (z := n + x) (by omega) (by omega)
  refine ⟨_, rd_get fs ps hx, by omega, by omega, ?_⟩
  rw [rd_get fs ps (by omega), show n + (far fs ps n (n + x) - n) = far fs ps n (n + x) by omega, h3, show n + x - n = x by omega]
/-- a sheet that differs only at four ends -/
structure Near (fs gs : List Nat) (n A B c d : Nat) : Prop where
  la : n ≤ A
  lb : n ≤ B
  ab : A ≠ B
  fc : fs.getD c 0 = A
  un : ∀ z, fs.getD z 0 = A → z = c
  fd : fs.getD d 0 = B
  fb : fs.getD B 0 = d
  gc : gs.getD c 0 = d
  eq : ∀ z, z ≠ A → z ≠ B → z ≠ c → z ≠ d → gs.getD z 0 = fs.getD z 0
theorem Trail.near {fs gs ps : List Nat} {n A B c d z : Nat} {l : List Nat} (hP : IsPair n ps) (N : Near fs gs n A B c d) (h : Trail fs ps n z l) : z ≠ A → z ≠ B → l.getLastD 0 ≠ A → l.getLastD 0 ≠ B → Trail gs ps n z l := by
  have la := N.la
  have lb := N.lb
  induction h with
  | @stop z h1 =>
    intro hA hB eA eB
    have e : gs.getD z 0 = fs.getD z 0 := N.eq z hA hB (fun e => eA (by rw [e]; exact N.fc)) (fun e => eB (by rw [e]; exact N.fd))
    rw [← e]; exact .stop (by rw [e]; exact h1)
  | @go z l h1 h2 ih =>
    intro hA hB eA eB
    rw [lastc h2.len.1] at eA eB
    have e : gs.getD z 0 = fs.getD z 0 := N.eq z hA hB (fun e => by rw [e, N.fc] at h1; omega) (fun e => by rw [e, N.fd] at h1; omega)
    have hz' := (hP.d h1).1
    have t := ih (by omega) (by omega) eA eB
    rw [← e] at h1 t ⊢
    exact .go h1 t
theorem Trail.over {fs gs ps : List Nat} {n A B c d z : Nat} {l m : List Nat} (hP : IsPair n ps) (N : Near fs gs n A B c d) (hm : Trail fs ps n B m) (mA : m.getLastD 0 ≠ A) (mB : m.getLastD 0 ≠ B) (h : Trail fs ps n z l) : z ≠ A → z ≠ B → l.getLastD 0 = A → ∃ k, Trail gs ps n z k ∧ k.getLastD 0 = m.getLastD 0 := by
  have la := N.la
  have lb := N.lb
  have fb := N.fb
  induction h with
  | @stop z h1 =>
    intro hA hB eA
    by_cases zc : z = c
    · subst zc
      cases hm with
      | stop h => 
        refine ⟨_, .stop (by rw [N.gc, ← fb]; exact h), ?_⟩
        rw [N.gc, ← fb]; rfl
      | @go _ m h h2 =>
        rw [lastc h2.len.1] at mA mB ⊢
        rw [fb] at h h2
        have := hP.d h
        refine ⟨_, .go (by rw [N.gc]; exact h) (by rw [N.gc]; exact h2.near hP N (by omega) (by omega) mA mB), ?_⟩
        rw [lastc h2.len.1]
    · exact absurd (N.un z eA) zc
  | @go z l h1 h2 ih =>
    intro hA hB eA
    rw [lastc h2.len.1] at eA
    have e : gs.getD z 0 = fs.getD z 0 := N.eq z hA hB (fun e => by rw [e, N.fc] at h1; omega) (fun e => by rw [e, N.fd] at h1; omega)
    have hz' := (hP.d h1).1
    obtain ⟨k, t1, t2⟩ := ih (by omega) (by omega) eA
    rw [← e] at h1 t1
    refine ⟨_, .go h1 t1, ?_⟩
    rw [lastc t1.len.1]; exact t2

theorem jn_near {fs : List Nat} {n A B : Nat} (hF : IsPair (2 * n) fs) (hA : n ≤ A) (hB : n ≤ B) (hA2 : A < 2 * n) (hB2 : B < 2 * n) (hab : A ≠ B) (hc : fs.getD A 0 ≠ B) : Near fs (jn fs A B) n A B (fs.getD A 0) (fs.getD B 0) ∧ Near fs (jn fs A B) n B A (fs.getD B 0) (fs.getD A 0) ∧ (jn fs A B).getD A 0 = B ∧ (jn fs A B).getD B 0 = A := by
  obtain ⟨a1, a2, a3, a4⟩ := hF.d hA2
  obtain ⟨b1, b2, b3, b4⟩ := hF.d hB2
  have G := jn_get hF hab a4 b4 hc
  obtain ⟨x1, x2, x3, x4, _⟩ := four hF hab a4 b4 hc
  have D : ∀ z, (jn fs A B).getD z 0 = ((jn fs A B)[z]?).getD 0 := fun z => List.getD_eq_getElem?_getD
  have un : ∀ {X : Nat}, n ≤ X → X < 2 * n → ∀ z, fs.getD z 0 = X → z = fs.getD X 0 := fun {X} h1 h2 z e => by
    by_cases hz : z < 2 * n
    · rw [← e, (hF.d hz).2.2.1]
    · rw [List.getD_eq_getElem?_getD, List.getElem?_eq_none (by rw [hF.len]; omega)] at e
      have e' : 0 = X := e
      omega
  have E : ∀ z, z ≠ A → z ≠ B → z ≠ fs.getD A 0 → z ≠ fs.getD B 0 → (jn fs A B).getD z 0 = fs.getD z 0 := fun z h1 h2 h3 h4 => by
    rw [D, G, if_neg h1, if_neg h2, if_neg h3, if_neg h4, ← List.getD_eq_getElem?_getD]
  refine ⟨⟨hA, hB, hab, a3, un hA hA2, b3, rfl, ?_, E⟩, ⟨hB, hA, hab.symm, b3, un hB hB2, a3, rfl, ?_, fun z h1 h2 h3 h4 => E z h2 h1 h4 h3⟩, ?_, ?_⟩
  · rw [D, G, if_neg x1, if_neg hc, if_pos rfl]; rfl
  · rw [D, G, if_neg x3, if_neg x2, if_neg (Ne.symm x4), if_pos rfl]; rfl
  · rw [D, G, if_pos rfl]; rfl
  · rw [D, G, if_neg hab.symm, if_pos rfl]; rfl
theorem IsPair.ofd {fs : List Nat} {n x y : Nat} (h : IsPair n fs) (hx : x < n) (e : fs.getD x 0 = y) : fs[x]? = some y := by
  rw [← e]; exact (h.d hx).2.2.2
/-- a call added to a sheet is a call behind what is read -/
theorem rd_jn {fs ps : List Nat} {n a b : Nat} (hF : IsPair (2 * n) fs) (hP : IsPair n ps) (hab : a ≠ b) (ha : a < n) (hb : b < n) : rd (jn fs (n + a) (n + b)) ps n = jn (rd fs ps n) a b := by
  have hR := rd_pair hF hP
  by_cases hc : fs.getD (n + a) 0 = n + b
  · rw [jn_same (hF.ofd (by omega) hc)]
    have t : Trail fs ps n (n + a) [n + a, n + b] := by
      have := Trail.stop (fs := fs) (ps := ps) (n := n) (z := n + a) (by rw [hc]; omega)
      rw [hc] at this; exact this
    refine (jn_same ?_).symm
    rw [rd_get fs ps ha, far_is t]
    show some (n + b - n) = some b
    rw [Nat.add_sub_cancel_left]
  · obtain ⟨N1, N2, gA, gB⟩ := jn_near hF (A := n + a) (B := n + b) (by omega) (by omega) (by omega) (by omega) (by omega) hc
    have hF' : IsPair (2 * n) (jn fs (n + a) (n + b)) := jn_pair hF (by omega) (by omega) (by omega)
    have fA := far_d hF hP (z := n + a) (by omega) (by omega)
    have fB := far_d hF hP (z := n + b) (by omega) (by omega)
    have tA : Trail (jn fs (n + a) (n + b)) ps n (n + a) [n + a, n + b] := by
      have := Trail.stop (fs := jn fs (n + a) (n + b)) (ps := ps) (n := n) (z := n + a) (by rw [gA]; omega)
      rw [gA] at this; exact this
    have tB : Trail (jn fs (n + a) (n + b)) ps n (n + b) [n + b, n + a] := by
      have := Trail.stop (fs := jn fs (n + a) (n + b)) (ps := ps) (n := n) (z := n + b) (by rw [gB]; omega)
      rw [gB] at this; exact this
    obtain ⟨lA, hlA, _⟩ := trail_ex hF hP (z := n + a) (by omega) (by omega)
    obtain ⟨lB, hlB, _⟩ := trail_ex hF hP (z := n + b) (by omega) (by omega)
    have eA := far_is hlA
    have eB := far_is hlB
    have ga := rd_get fs ps ha
    have gb := rd_get fs ps hb
    refine List.ext_getElem? fun x => ?_
    by_cases hx : x < n
    · rw [rd_get _ ps hx]
      have fX := far_d hF hP (z := n + x) (by omega) (by omega)
      obtain ⟨lX, hlX, _⟩ := trail_ex hF hP (z := n + x) (by omega) (by omega)
      have eX := far_is hlX
      by_cases xa : x = a
      · subst xa
        rw [far_is tA, show [n + x, n + b].getLastD 0 - n = b by show n + b - n = b; omega]
        by_cases c : far fs ps n (n + x) - n = b
        · rw [jn_same (by rw [rd_get fs ps hx, c]), rd_get fs ps hx, c]
        · rw [jn_get hR hab ga gb c, if_pos rfl]
      · by_cases xb : x = b
        · subst xb
          rw [far_is tB, show [n + x, n + a].getLastD 0 - n = a by show n + a - n = a; omega]
          by_cases c : far fs ps n (n + a) - n = x
          · rw [jn_same (by rw [rd_get fs ps ha, c]), rd_get fs ps hx, show n + x = far fs ps n (n + a) by omega, fA.2.2.1, Nat.add_sub_cancel_left]
          · rw [jn_get hR hab ga gb c, if_neg (Ne.symm hab), if_pos rfl]
        · by_cases yA : far fs ps n (n + x) = n + a
          · -- the way of x came to a
            have e1 : far fs ps n (n + a) = n + x := by rw [← yA]; exact fX.2.2.1
            have e2 : far fs ps n (n + b) ≠ n + a := fun z => by
              have := fB.2.2.1
              rw [z, e1] at this; omega
            obtain ⟨k, k1, k2⟩ := Trail.over hP N1 hlB (by rw [← eB]; exact e2) (by rw [← eB]; exact fB.2.2.2) hlX (by omega) (by omega) (by rw [← eX]; exact yA)
            rw [far_is k1, k2, ← eB, jn_get hR hab ga gb (by omega), if_neg xa, if_neg xb, if_pos (by omega)]
          · by_cases yB : far fs ps n (n + x) = n + b
            · have e1 : far fs ps n (n + b) = n + x := by rw [← yB]; exact fX.2.2.1
              have e2 : far fs ps n (n + a) ≠ n + b := fun z => by
                have := fA.2.2.1
                rw [z, e1] at this; omega
              obtain ⟨k, k1, k2⟩ := Trail.over hP N2 hlA (by rw [← eA]; exact e2) (by rw [← eA]; exact fA.2.2.2) hlX (by omega) (by omega) (by rw [← eX]; exact yB)
              have e3 : far fs ps n (n + a) ≠ n + x := fun z => by
                have := fA.2.2.1
                rw [z, yB] at this; omega
              rw [far_is k1, k2, ← eA, jn_get hR hab ga gb (by omega), if_neg xa, if_neg xb, if_neg (by omega), if_pos (by omega)]
            · have t := hlX.near hP N1 (by omega) (by omega) (by rw [← eX]; exact yA) (by rw [← eX]; exact yB)
              rw [far_is t, ← eX, ← rd_get fs ps hx]
              by_cases c : far fs ps n (n + a) - n = b
              · rw [jn_same (by rw [rd_get fs ps ha, c])]
              · have e1 : far fs ps n (n + a) ≠ n + x := fun z => by
                  have := fA.2.2.1
                  rw [z] at this; exact yA this
                have e2 : far fs ps n (n + b) ≠ n + x := fun z => by
                  have := fB.2.2.1
                  rw [z] at this; exact yB this
                rw [jn_get hR hab ga gb c, if_neg xa, if_neg xb, if_neg (by omega), if_neg (by omega)]
    · rw [List.getElem?_eq_none (by rw [rd_len]; omega), List.getElem?_eq_none (by rw [jn_len, rd_len]; omega)]
end Pc
namespace Pc
theorem rd_emp {ps : List Nat} {n : Nat} (hn : 0 < n) (hP : IsPair n ps) : rd (emp n) ps n = ps := by
  refine List.ext_getElem? fun x => ?_
  by_cases hx : x < n
  · obtain ⟨h1, _, _, h4⟩ := hP.d hx
    have e1 : (emp n).getD (n + x) 0 = x := getD_of (emp_hi hx)
    have e2 : (emp n).getD (ps.getD x 0) 0 = n + ps.getD x 0 := getD_of (emp_lo h1)
    have t2 := Trail.stop (fs := emp n) (ps := ps) (n := n) (z := ps.getD x 0) (by rw [e2]; omega)
    have t := Trail.go (fs := emp n) (ps := ps) (n := n) (z := n + x) (by rw [e1]; exact hx) (by rw [e1]; exact t2)
    rw [rd_get _ ps hx, far_is t, h4]
    show some ((emp n).getD (ps.getD x 0) 0 - n) = _
    rw [e2, Nat.add_sub_cancel_left]
  · rw [List.getElem?_eq_none (by rw [rd_len]; omega), List.getElem?_eq_none (by rw [hP.len]; omega)]
theorem rd_runs {n : Nat} {ps : List Nat} (hP : IsPair n ps) : ∀ (qs : List (Nat × Nat)) {fs : List Nat}, IsPair (2 * n) fs → Calls n qs → rd (shw n qs fs) ps n = runs qs (rd fs ps n)
  | [], _, _, _ => rfl
  | q :: r, fs, hF, hc => by
    have h1 := hc q List.mem_cons_self
    have h2 := rd_runs hP r (jn_pair hF (a := n + q.1) (b := n + q.2) (by omega) (by omega) (by omega)) (fun x hx => hc x (List.mem_cons_of_mem _ hx))
    rw [rd_jn hF hP (by omega) (by omega) h1.2] at h2
    exact h2
/-- guarantee (a) -/
theorem rd_word {n : Nat} {ps : List Nat} {qs : List (Nat × Nat)} (hn : 0 < n) (hP : IsPair n ps) (hc : Calls n qs) : rd (shw n qs (emp n)) ps n = runs qs ps := by
  rw [rd_runs hP qs (emp_pair hn) hc, rd_emp hn hP]
end Pc
namespace Pc
open PySem PySem.Spec PyProof.Rows L2 RZ
/-- x //= c -/
def ipHalf : TIp := fun x y H Q => ∃ i j, x = .int i ∧ y = .int j ∧ (0 < j ∧ j < 1073741824) ∧ Q (.int (i / j)) H
theorem ip_half {X : Cx} : PIp X .FloorDiv ipHalf := by
  intro pins s σ H x y v u Q I r1 r2 h
  obtain ⟨i, j, e1, e2, hj, q⟩ := h
  subst e1 e2
  obtain ⟨t, rfl⟩ := r1
  obtain ⟨t', rfl⟩ := r2
  refine PyProof.Rows.ifloordiv_int (by omega) ?_ (.inl (PyProof.noPylong_small (by omega)))
  rw [Int.fdiv_eq_ediv_of_nonneg i (by omega)]
  exact ⟨.int _, H, I.tok _, ⟨_, rfl⟩, q⟩
theorem bl_dec (a b : Bool) : decide (V.bl a = V.bl b) = (a == b) := by cases a <;> cases b <;> rfl
end Pc
namespace Pc
theorem iteY {b : Bool} {A B : Prop} (h : b = true) (a : A) : if b = true then A else B := by rw [if_pos h]; exact a
theorem iteX {b : Bool} {A B : Prop} (h : b = false) (a : B) : if b = true then A else B := by rw [h, if_neg Bool.false_ne_true]; exact a
end Pc
namespace Pc
open PySem PySem.Spec PyProof.Rows L2 RZ
theorem in_nat (i : Nat) (l : List Nat) : inV (.int (i : Int)) (nv l) = decide (i ∈ l) := by
  unfold inV nv
  rw [List.any_map, Bool.eq_iff_iff, List.any_eq_true, decide_eq_true_iff]
  constructor
  · rintro ⟨x, hx, e⟩
    have e' : eqV (.int (x : Int)) (.int (i : Int)) = true := e
    have : (x : Int) = (i : Int) := by simpa [eqV] using e'
    have : x = i := by omega
    exact this ▸ hx
  · intro h
    exact ⟨i, h, by show eqV (.int (i : Int)) (.int (i : Int)) = true; simp [eqV]⟩
theorem flat_nat (l : List Nat) : (nv l).all flatV = true := by
  unfold nv
  rw [List.all_map, List.all_eq_true]
  exact fun x _ => rfl
end Pc
namespace Pc
open PySem PySem.Spec PyProof.Rows L2 RZ
section
variable {P : Program} {w : World} {K : PySem.W.Frag} {mg : Str → Option Value} {base : Heap}
/-! ### one of some -/
def spOf (K : PySem.W.Frag) : Sp := fun vs H Q _ => ∃ (b a : Addr) (n : Nat) (xs : List V), vs = [.ref b, .ref a] ∧ Box (n + 1) H b ∧ a ≠ b ∧ H a = some (.lst xs) ∧ 0 < xs.length ∧ xs.length ≤ 1000 ∧
  ∀ (H' : Hp) (i : Nat) (v : V), xs[i]? = some v → Keep b H H' → Box n H' b → Q v H'
theorem ok_pick (T : Env K mg) : FnOk P w K mg base CX0 2 T.f_pick T.d_pick ["_law_box_here", "_law_some"] (spOf K) := by
  have GT : FnOk P w K mg base CX0 1 T.f_take T.d_take ["_law_box_here", "_law_below"] spTake := ok_take T
  refine T.F_pick.ok sc_pick (fun vs H Q E h => ?_) (fun cdv A outer s H vs Q E hr h => ?_)
  · obtain ⟨b, a, n, xs, rfl, _⟩ := h
    rfl
  · obtain ⟨b, a, n, xs, rfl, hB, hab, ha, h0, hl, q⟩ := h
    refine ⟨_, pss_one (ps_ret (pe_ix ix_list (pv 1) (pe_call GT hr (by rfl) T.g_take T.F_take.kp T.b_take .nil pass0 (pa_cons (pv 0) (pa_cons (pe_callB call_len_seq (by rfl) T.n_len PySem.boot_len (pa_cons (pv 1) pa_nil)) pa_nil))) (fun _ _ => rfl))), ?_⟩
    refine ⟨.ref a, rfl, .ref b, rfl, .ref a, rfl, a, xs, rfl, .inl (.inl (.inl ha)), b, n, xs.length, rfl, hB, by omega, by omega, fun r H' r0 r1 hB' k => ?_⟩
    obtain ⟨v, hv⟩ := get_some (l := xs) (i := r.toNat) (by omega)
    refine ⟨a, xs, r, v, rfl, rfl, .inl (.inl (k _ _ hab ha)), ?_, q H' r.toNat v hv k hB'⟩
    have := atI_nat hv
    rw [show ((r.toNat : Nat) : Int) = r by omega] at this
    exact this
end
end Pc
namespace Pc
open PySem PySem.Spec PyProof.Rows L2 RZ
section
variable {P : Program} {w : World} {K : PySem.W.Frag} {mg : Str → Option Value} {base : Heap}
/-! ### one call by the law -/
def spAsked (K : PySem.W.Frag) : Sp := fun vs H Q _ => ∃ (p c : Addr) (a b : Nat) (ps : List Nat) (n : Nat), vs = [.ref p, .ref c] ∧ SqT K H p (nv ps) ∧ SqT K H c [.int a, .int b] ∧ IsPair n ps ∧ a < b ∧ b < n ∧
  ∀ (H' : Hp) (t : Addr), Same H H' → H t = none → H' t = some (.tup (nv (jn ps a b))) → Q (.ref t) H'
theorem ok_asked (T : Env K mg) : FnOk P w K mg base CX0 1 T.f_asked T.d_asked ["_law_tie", "_law_call"] (spAsked K) := by
  refine T.F_asked.ok sc_asked (fun vs H Q E h => ?_) (fun cdv A outer s H vs Q E hr h => ?_)
  · obtain ⟨p, c, a, b, ps, n, rfl, _⟩ := h
    rfl
  · obtain ⟨p, c, a, b, ps, n, rfl, hp, hc, hP, hab, hb, q⟩ := h
    refine ⟨_, pss_cons (ps_asg (pv 1) (pg_tup rfl (pgs_cons (pg_name (i := 2) sc_asked.nd rfl (.inl rfl)) (pgs_cons (pg_name (i := 3) sc_asked.nd rfl (.inl rfl)) pgs_nil)))) <|
      pss_cons (ps_set (i := 4) sc_asked.nd rfl (.inl rfl) (pe_callTy call_list_of (by rfl) T.n_list (by decide +kernel) (pa_cons (pv 0) pa_nil))) <|
      pss_cons (ps_if (pt_cmpR op_ne (pe_ix ix_tup (pv 0) (pv 2) (fun _ _ => rfl)) (pv 3) (nomark _))
        (pss_cons (ps_asg (pe_tup (pa_cons (pv 3) (pa_cons (pv 2) pa_nil))) (pg_tup rfl (pgs_cons (pg_sub (pv 4) (pv 2) set_list) (pgs_cons (pg_sub (pv 4) (pv 3) set_list) pgs_nil)))) <|
        pss_one (ps_asg (pe_tup (pa_cons (pe_ix ix_tup (pv 0) (pv 3) (fun _ _ => rfl)) (pa_cons (pe_ix ix_tup (pv 0) (pv 2) (fun _ _ => rfl)) pa_nil)))
          (pg_tup rfl (pgs_cons (pg_sub (pv 4) (pe_ix ix_tup (pv 0) (pv 2) (fun _ _ => rfl)) set_list) (pgs_cons (pg_sub (pv 4) (pe_ix ix_tup (pv 0) (pv 3) (fun _ _ => rfl)) set_list) pgs_nil))))) pss_nil) <|
      pss_one (ps_ret (pe_callTy call_tuple_of (by rfl) T.n_tuple (by decide +kernel) (pa_cons (pv 4) pa_nil))), ?_⟩
    have hl := hP.len
    obtain ⟨u, ea, hu, _⟩ := hP.par a (by omega)
    obtain ⟨v, eb, hv, _⟩ := hP.par b hb
    refine ⟨.ref c, rfl, c, _, rfl, hc, rfl, _, _, rfl, _, _, rfl, rfl, ?_⟩
    refine ⟨.ref p, rfl, p, _, rfl, .inr hp, fun l nl => ?_⟩
    have s0 : Same H (upd H l (.lst (nv ps))) := same_new nl
    have hp0 := same_tup s0 hp
    refine ⟨.ref p, rfl, _, rfl, p, _, _, _, rfl, rfl, hp0, nv_at ea, _, rfl, rfl, _, rfl, ite2 (fun e => ?_) (fun e => ?_)⟩
    · have e1 : u ≠ b := fun z => by
        rw [z, decide_eq_true rfl] at e
        exact absurd e (by decide)
      have ln : ∀ {l : List V}, l.length = ps.length → ∀ {i : Nat}, i < n → ixN l.length (i : Int) = some i := fun {l} hl2 {i} hi => ixN_nat (by rw [hl2, hl]; exact hi)
      refine ⟨_, rfl, _, rfl, by show 2 ≤ sizeLine; decide, fun t nt => ?_⟩
      have s1 : Same (upd H l (.lst (nv ps))) _ := same_new (o := .tup [.int b, .int a]) nt
      refine ⟨t, _, rfl, .inl (.inl upd_same), rfl, _, _, rfl, .ref l, rfl, _, rfl, l, _, _, a, rfl, rfl, s1 _ _ upd_same, ln (nv_length _) (by omega), ?_⟩
      refine ⟨_, _, rfl, .ref l, rfl, _, rfl, l, _, _, b, rfl, rfl, upd_same, ln (by rw [List.length_set, nv_length]) hb, rfl, ?_⟩
      have keepP : ∀ x o, H x = some o → (upd (upd (upd (upd H l (.lst (nv ps))) t (.tup [.int b, .int a])) l (.lst ((nv ps).set a (.int b)))) l (.lst (((nv ps).set a (.int b)).set b (.int a)))) x = some o := fun x o hx => by
        have nx : x ≠ l := ne_of_none hx nl
        rw [upd_ne nx, upd_ne nx]; exact s1 _ _ (s0 _ _ hx)
      have el2 : (upd (upd (upd (upd H l (.lst (nv ps))) t (.tup [.int b, .int a])) l (.lst ((nv ps).set a (.int b)))) l (.lst (((nv ps).set a (.int b)).set b (.int a)))) l = some (.lst (((nv ps).set a (.int b)).set b (.int a))) := upd_same
      revert keepP el2
      generalize upd (upd (upd (upd H l (.lst (nv ps))) t (.tup [.int b, .int a])) l (.lst ((nv ps).set a (.int b)))) l (.lst (((nv ps).set a (.int b)).set b (.int a))) = H2
      intro keepP el2
      have hp2 : SqT K H2 p (nv ps) := same_tup keepP hp
      refine ⟨.ref p, rfl, _, rfl, p, _, _, _, rfl, rfl, hp2, nv_at eb, .ref p, rfl, _, rfl, p, _, _, _, rfl, rfl, hp2, nv_at ea, by show 2 ≤ sizeLine; decide, fun t2 nt2 => ?_⟩
      have s3 : Same H2 _ := same_new (o := .tup [.int v, .int u]) nt2
      have hp3 := same_tup s3 hp2
      refine ⟨t2, _, rfl, .inl (.inl upd_same), rfl, _, _, rfl, .ref l, rfl, .ref p, rfl, _, rfl, p, _, _, _, rfl, rfl, hp3, nv_at ea, l, _, _, u, rfl, rfl, s3 _ _ el2, ln (by rw [List.length_set, List.length_set, nv_length]) hu, ?_⟩
      have hp4 : SqT K (upd (upd H2 t2 (.tup [.int v, .int u])) l (.lst ((((nv ps).set a (.int b)).set b (.int a)).set u (.int v)))) p (nv ps) := same_tup (H := H) (fun x o hx => by rw [upd_ne (ne_of_none hx nl)]; exact s3 _ _ (keepP _ _ hx)) hp
      refine ⟨_, _, rfl, .ref l, rfl, .ref p, rfl, _, rfl, p, _, _, _, rfl, rfl, hp4, nv_at eb, l, _, _, v, rfl, rfl, upd_same, ln (by rw [List.length_set, List.length_set, List.length_set, nv_length]) hv, rfl, ?_⟩
      refine ⟨.ref l, rfl, l, _, rfl, .inl ⟨.inl (.inl upd_same), fun r nr => ?_⟩⟩
      have sf : Same H _ := fun x o hx => by
        have nx : x ≠ l := ne_of_none hx nl
        show (upd (upd (upd H2 t2 (.tup [.int v, .int u])) l (.lst ((((nv ps).set a (.int b)).set b (.int a)).set u (.int v)))) l (.lst (((((nv ps).set a (.int b)).set b (.int a)).set u (.int v)).set v (.int u)))) x = some o
        rw [upd_ne nx, upd_ne nx]
        exact s3 _ _ (keepP _ _ hx)
      refine q _ r (sf.trans (same_new nr)) (sf.free nr) ?_
      rw [upd_same, nv_set, nv_set, nv_set, nv_set]
      unfold jn
      rw [getD_of ea, getD_of eb, if_neg e1]
    · have e1 : u = b := by
        by_cases z : u = b
        · exact z
        · exact absurd (by rw [decide_eq_false (fun y => z (by have := V.int.inj y; omega))]; rfl) e
      subst e1
      refine ⟨.ref l, rfl, l, _, rfl, .inl ⟨.inl (.inl upd_same), fun r nr => ?_⟩⟩
      refine q _ r (s0.trans (same_new nr)) (s0.free nr) ?_
      rw [upd_same, jn_same ea]
end
end Pc
namespace Pc
open PySem PySem.Spec PyProof.Rows L2 RZ
section
variable {P : Program} {w : World} {K : PySem.W.Frag} {mg : Str → Option Value} {base : Heap}
/-! ### the law's own calls, one after another -/
def spToured (K : PySem.W.Frag) : Sp := fun vs H Q _ => ∃ (p wd : Addr) (as : List Addr) (qs : List (Nat × Nat)) (ps : List Nat) (n : Nat), vs = [.ref p, .ref wd] ∧ H p = some (.tup (nv ps)) ∧ SqL K H wd (as.map V.ref) ∧ Prs H as qs ∧ IsPair n ps ∧ Calls n qs ∧
  ∀ (H' : Hp) (t : Addr), Same H H' → H' t = some (.tup (nv (runs qs ps))) → Q (.ref t) H'
theorem ok_toured (T : Env K mg) : FnOk P w K mg base CX0 2 T.f_toured T.d_toured ["_law_tie", "_law_tour"] (spToured K) := by
  have GS : FnOk P w K mg base CX0 1 T.f_asked T.d_asked ["_law_tie", "_law_call"] (spAsked K) := ok_asked T
  refine T.F_toured.ok sc_toured (fun vs H Q E h => ?_) (fun cdv A outer s H vs Q E hr h => ?_)
  · obtain ⟨p, wd, as, qs, ps, n, rfl, _⟩ := h
    rfl
  · obtain ⟨p, wd, as, qs, ps, n, rfl, hp, hw, hA, hP, hc, q⟩ := h
    refine ⟨_, pss_cons (ps_for PassesOwn.never rfl (pi_list (pv 1)) (pg_name (i := 2) sc_toured.nd rfl (.inl rfl)) (pss_one (ps_set (i := 0) sc_toured.nd rfl (.inl rfl) (pe_call GS hr (by rfl) T.g_asked T.F_asked.kp T.b_asked .nil pass0 (pa_cons (pv 0) (pa_cons (pv 2) pa_nil)))))) <|
      pss_one (ps_ret (pv 0)), ?_⟩
    refine ⟨.ref wd, rfl, wd, rfl, ⟨_, hw⟩, for_list (xs := as.map V.ref) (fun i σ H' => Same H H' ∧ ∃ (y : Option V) (t : Addr), σ = [some (.ref t), some (.ref wd), y] ∧ H' t = some (.tup (nv (runs (qs.take i) ps)))) ⟨Same.refl _, none, p, rfl, hp⟩ (fun i σ H' _ h => h.1.seq hw) (fun i x σ H' hx h => ?_) (fun σ H' h => ?_)⟩
    · obtain ⟨sm, y, t, rfl, et⟩ := h
      rw [List.getElem?_map] at hx
      cases ec : as[i]? with
      | none => rw [ec] at hx; cases hx
      | some c =>
      rw [ec] at hx
      cases Option.some.inj hx
      obtain ⟨r, er, hcr⟩ := prs_get hA ec
      have hq := hc r (List.mem_of_getElem? er)
      refine ⟨.ref t, rfl, .ref c, rfl, t, c, r.1, r.2, _, n, rfl, .inl (.inl et), .inl (.inl (sm _ _ hcr)), runs_pair _ hP (hc.take i), hq.1, hq.2, fun H2 u s2 nu eu => ⟨sm.trans s2, _, u, rfl, ?_⟩⟩
      rw [runs_take er]
      exact eu
    · obtain ⟨sm, y, t, rfl, et⟩ := h
      rw [List.length_map, hA.length, List.take_length] at et
      exact ⟨.ref t, rfl, q H' t sm et⟩
end
end Pc
namespace Pc
/-- all calls of n people -/
def callsOf (n x : Nat) : List (Nat × Nat) := (List.range (n - (x + 1))).map fun j => (x, x + 1 + j)
def allC (n : Nat) : Nat → List (Nat × Nat)
  | 0 => []
  | i + 1 => allC n i ++ callsOf n i
theorem callsOf_mem {n x : Nat} {p : Nat × Nat} : p ∈ callsOf n x ↔ p.1 = x ∧ x < p.2 ∧ p.2 < n := by
  unfold callsOf
  rw [List.mem_map]
  constructor
  · rintro ⟨j, hj, rfl⟩
    have := List.mem_range.mp hj
    exact ⟨rfl, by show x < x + 1 + j; omega, by show x + 1 + j < n; omega⟩
  · rintro ⟨h1, h2, h3⟩
    exact ⟨p.2 - (x + 1), List.mem_range.mpr (by omega), Prod.ext h1.symm (by show x + 1 + (p.2 - (x + 1)) = p.2; omega)⟩
theorem allC_mem {n : Nat} : ∀ {i : Nat} {p : Nat × Nat}, p ∈ allC n i ↔ p.1 < i ∧ p.1 < p.2 ∧ p.2 < n
  | 0, p => ⟨fun h => by simp [allC] at h, fun h => absurd h.1 (Nat.not_lt_zero _)⟩
  | i + 1, p => by
    show p ∈ allC n i ++ callsOf n i ↔ _
    rw [List.mem_append, allC_mem (i := i), callsOf_mem]
    omega
theorem allC_calls (n i : Nat) : Calls n (allC n i) := fun q hq => by
  have := allC_mem.mp hq
  exact ⟨this.2.1, this.2.2⟩
theorem allC_len (n : Nat) : ∀ i, (allC n i).length ≤ i * n
  | 0 => Nat.zero_le _
  | i + 1 => by
    show (allC n i ++ callsOf n i).length ≤ _
    rw [List.length_append, Nat.succ_mul]
    have := allC_len n i
    have : (callsOf n i).length ≤ n := by unfold callsOf; rw [List.length_map, List.length_range]; omega
    omega
end Pc
namespace Pc
open PySem PySem.Spec PyProof.Rows L2 RZ
section
variable {P : Program} {w : World} {K : PySem.W.Frag} {mg : Str → Option Value} {base : Heap}
/-! ### all calls -/
def spCalls : Sp := fun vs H Q _ => ∃ n : Nat, vs = [.int n] ∧ n ≤ 40 ∧
  ∀ (H' : Hp) (p : Addr) (as : List Addr), Same H H' → H p = none → H' p = some (.lst (as.map V.ref)) → Prs H' as (allC n n) → Q (.ref p) H'
theorem ok_calls (T : Env K mg) : FnOk P w K mg base CX0 1 T.f_calls T.d_calls ["_law_size"] spCalls := by
  refine T.F_calls.ok sc_calls (fun vs H Q E h => ?_) (fun cdv A outer s H vs Q E hr h => ?_)
  · obtain ⟨n, rfl, _⟩ := h
    rfl
  · obtain ⟨n, rfl, hn, q⟩ := h
    refine ⟨_, pss_cons (ps_set (i := 1) sc_calls.nd rfl (.inl rfl) (pe_lst pa_nil)) <|
      pss_cons (ps_for PassesOwn.never rfl (pi_range1 (by rfl) T.n_range (pa_cons (pv 0) pa_nil)) (pg_name (i := 2) sc_calls.nd rfl (.inr rfl))
        (pss_one (ps_set (i := 1) sc_calls.nd rfl (.inl rfl) (pe_op op_cat (pv 1) (pe_lc (own := [("_law_high", 3)]) (g := gName 3) (tt := tYes) (te := tTup (tCons (tVar 2) (tCons (tVar 3) tNil))) rfl sc_calls.nd
          (pi_range2 (by rfl) T.n_range (pa_cons (pe_op op_add (pv 2) pe_int) (pa_cons (pv 0) pa_nil))) (blkOk_by (N := N_calls) (sc := defScope s_calls) (by decide +kernel)) (fun _ _ _ _ _ => pg_name (i := 3) sc_calls.nd rfl (.inl rfl)) (fun _ _ _ _ _ => pts_nil)
          (fun _ _ _ _ _ => pe_tup (pa_cons (pv 2) (pa_cons (pv 3) pa_nil)))))))) <|
      pss_one (ps_ret (pv 1)), ?_⟩
    refine ⟨by show 0 ≤ sizeLine; decide, fun e ne => ?_⟩
    refine ⟨_, rfl, _, rfl, by omega, by omega, ?_⟩
    rw [show ((n : Int)).toNat = n by omega]
    refine for_range (n := n) (fun i σ H' => Same H H' ∧ ∃ (f : Addr) (as : List Addr) (y : Option V), σ = [some (.int n), some (.ref f), y, none] ∧ H f = none ∧ H' f = some (.lst (as.map V.ref)) ∧ Prs H' as (allC n i)) ⟨same_new ne, e, [], none, rfl, ne, upd_same, .nil⟩ (fun i σ H1 hi h => ?_) (fun σ H1 h => ?_)
    · obtain ⟨sm, f, as, y, rfl, nf, ef, hA⟩ := h
      refine ⟨_, rfl, _, rfl, _, 1, rfl, rfl, _, rfl, _, _, rfl, ⟨by omega, by omega, by omega, by omega⟩, fun D nD => ?_⟩
      rw [show ((n : Int) - ((0 : Int) + (i : Nat) + 1)).toNat = n - (i + 1) by omega]
      have hlc : (callsOf n i).length = n - (i + 1) := by unfold callsOf; rw [List.length_map, List.length_range]
      refine lc_range (n := n - (i + 1)) (fun j H' => Same H1 H' ∧ ∃ bs : List Addr, H' D = some (.lst (bs.map V.ref)) ∧ Prs H' bs ((callsOf n i).take j)) ⟨same_new nD, [], upd_same, .nil⟩ (fun j H' hj hPv => ?_) (fun H' hPv => ?_)
      · obtain ⟨s2, bs, eD, hBs⟩ := hPv
        refine ⟨rfl, yes_if ⟨_, rfl, _, rfl, by show 2 ≤ sizeLine; decide, fun u nu => ⟨_, same_new nu _ _ eD, ?_, fun x o hx => ?_, bs ++ [u], ?_, ?_⟩⟩⟩
        · rw [List.length_map, hBs.length, List.length_take]; exact small1000 (by omega)
        · rw [upd_ne (ne_of_none hx nD)]; exact same_new nu _ _ (s2 _ _ hx)
        · rw [upd_same, List.map_append]; rfl
        · have uD : u ≠ D := fun z => by rw [z, eD] at nu; cases nu
          have ej : (callsOf n i)[j]? = some (i, i + 1 + j) := by unfold callsOf; rw [List.getElem?_map, List.getElem?_range hj]; rfl
          rw [List.take_add_one, ej]
          refine prs_append (prs_keep (b := D) keep_upd (same_new nu _ _ eD) (prs_same (same_new nu) hBs)) (.cons ?_ .nil)
          rw [upd_ne uD, upd_same]
          show some (HO.tup [V.int ((0 : Int) + (i : Nat)), V.int ((0 : Int) + (i : Nat) + 1 + (j : Nat))]) = some (HO.tup [V.int (i : Nat), V.int ((i + 1 + j : Nat) : Int)])
          rw [show (0 : Int) + (i : Nat) + 1 + (j : Nat) = ((i + 1 + j : Nat) : Int) by omega, Int.zero_add]
      · obtain ⟨s2, bs, eD, hBs⟩ := hPv
        rw [← hlc, List.take_length] at hBs
        have hA' := prs_same s2 hA
        refine ⟨f, D, _, _, rfl, rfl, s2 _ _ ef, eD, ?_, fun g ng => ?_⟩
        · have l1 := allC_len n i
          have : i * n ≤ 40 * 40 := Nat.mul_le_mul (by omega) hn
          rw [List.length_map, List.length_map, hA.length, hBs.length, hlc]
          exact Nat.le_of_lt (line_big (by omega))
        refine ⟨(sm.trans s2).trans (same_new ng), g, as ++ bs, _, rfl, (sm.trans s2).free ng, by rw [upd_same, List.map_append], ?_⟩
        exact prs_same (same_new ng) (prs_append hA' hBs)
    · obtain ⟨sm, f, as, y, rfl, nf, ef, hA⟩ := h
      exact ⟨_, rfl, q H1 f as sm nf ef hA⟩
end
end Pc
namespace Pc
open PySem PySem.Spec PyProof.Rows L2 RZ
section
variable {P : Program} {w : World} {K : PySem.W.Frag} {mg : Str → Option Value} {base : Heap}
/-! ### drawn words -/
def spTour : Sp := fun vs H Q _ => ∃ (b : Addr) (k n m : Nat), vs = [.ref b, .int n, .int m] ∧ Box (k + m + 2) H b ∧ 2 ≤ n ∧ n ≤ 30 ∧ m ≤ 1000 ∧
  ∀ (H' : Hp) (p : Addr) (as : List Addr) (qs : List (Nat × Nat)), Calls n qs → qs.length ≤ m → H p = none → H' p = some (.lst (as.map V.ref)) → Prs H' as qs → Keep b H H' → Box k H' b → Q (.ref p) H'
theorem ok_tour_of (T : Env K mg) : FnOk P w K mg base CX0 3 T.f_tour_of T.d_tour_of ["_law_box_here", "_law_size", "_law_most"] spTour := by
  have GT : FnOk P w K mg base CX0 1 T.f_take T.d_take ["_law_box_here", "_law_below"] spTake := ok_take T
  have GO : FnOk P w K mg base CX0 2 T.f_pick T.d_pick ["_law_box_here", "_law_some"] (spOf K) := ok_pick T
  have GA : FnOk P w K mg base CX0 1 T.f_calls T.d_calls ["_law_size"] spCalls := ok_calls T
  refine T.F_tour_of.ok sc_tour_of (fun vs H Q E h => ?_) (fun cdv A outer s H vs Q E hr h => ?_)
  · obtain ⟨b, k, n, m, rfl, _⟩ := h
    rfl
  · obtain ⟨b, k, n, m, rfl, hB, h2, hn, hm, q⟩ := h
    have h1 := hr.mono (show 1 ≤ 2 by decide)
    refine ⟨_, pss_one (ps_ret (pe_lc (own := [("_law_turn", 3)]) (g := gName 3) (tt := tYes) (te := tCall (spOf K) [] (fun _ _ _ => False) (tCons (tVar 0) (tCons (tCall spCalls [] (fun _ _ _ => False) (tCons (tVar 1) tNil)) tNil))) rfl sc_tour_of.nd
        (pi_range1 (by rfl) T.n_range (pa_cons (pe_call GT h1 (by rfl) T.g_take T.F_take.kp T.b_take .nil pass0 (pa_cons (pv 0) (pa_cons (pe_op op_add (pv 2) pe_int) pa_nil))) pa_nil))
        (blkOk_by (N := N_tour_of) (sc := defScope s_tour_of) (by decide +kernel))
        (fun _ _ _ _ _ => pg_name (i := 3) sc_tour_of.nd rfl (.inl rfl)) (fun _ _ _ _ _ => pts_nil)
        (fun _ _ _ _ _ => pe_call GO hr (by rfl) T.g_pick T.F_pick.kp T.b_pick .nil pass0 (pa_cons (pv 0) (pa_cons (pe_call GA h1 (by rfl) T.g_calls T.F_calls.kp T.b_calls .nil pass0 (pa_cons (pv 1) pa_nil)) pa_nil))))), ?_⟩
    refine ⟨.ref b, rfl, .int m, rfl, m, 1, rfl, rfl, b, k + m, (m : Int) + 1, rfl, hB.mono (by omega), by omega, by omega, fun r H2 r0 r1 hB2 k2 => ?_⟩
    refine ⟨r, rfl, by omega, by omega, fun D nD => ?_⟩
    have bD : b ≠ D := hB2.ne_new nD
    have nD0 : H D = none := by
      cases e : H D with
      | none => rfl
      | some o => rw [k2 D o bD.symm e] at nD; cases nD
    have hall : (allC n n).length ≤ 900 := Nat.le_trans (allC_len n n) (Nat.mul_le_mul hn hn)
    have hpos : 0 < (allC n n).length := List.length_pos_of_mem (allC_mem.mpr (show ((0, 1) : Nat × Nat).1 < n ∧ ((0, 1) : Nat × Nat).1 < ((0, 1) : Nat × Nat).2 ∧ ((0, 1) : Nat × Nat).2 < n from ⟨by show 0 < n; omega, by decide, by show 1 < n; omega⟩))
    refine lc_range (n := r.toNat) (fun j H' => Keep b H2 H' ∧ Box (k + m - j) H' b ∧ ∃ (as : List Addr) (qs : List (Nat × Nat)), H' D = some (.lst (as.map V.ref)) ∧ Prs H' as qs ∧ Calls n qs ∧ qs.length = j)
      ⟨Keep.of_same (same_new nD), (hB2.same (same_new nD)), [], [], upd_same, .nil, fun q hq => by simp at hq, rfl⟩ (fun j H' hj hPv => ?_) (fun H' hPv => ?_)
    · obtain ⟨k3, hB3, as, qs, eD, hA, hc, hql⟩ := hPv
      refine ⟨rfl, yes_if ⟨.ref b, rfl, _, rfl, n, rfl, by omega, fun H4 l cs s4 nl el hC => ?_⟩⟩
      have hlen : (cs.map V.ref).length = (allC n n).length := by rw [List.length_map, hC.length]
      refine ⟨b, l, k + m - (j + 1), _, rfl, (hB3.same s4).mono (by omega), (hB3.ne_new nl).symm, el, by rw [hlen]; exact hpos, by rw [hlen]; omega, fun H5 i v hv k5 hB5 => ?_⟩
      rw [List.getElem?_map] at hv
      cases eu : cs[i]? with
      | none => rw [eu] at hv; cases hv
      | some t =>
      rw [eu] at hv
      cases Option.some.inj hv
      obtain ⟨p, ep, ht⟩ := prs_get hC eu
      obtain ⟨yb, hyb⟩ := hB3.lst
      have ht5 := k5.tup (s4 _ _ hyb) ht
      have eD5 := k5 _ _ bD.symm (s4 _ _ eD)
      have ntD : t ≠ D := fun z => by rw [z, eD5] at ht5; cases ht5
      have hpm := allC_calls n n p (List.mem_of_getElem? ep)
      refine ⟨_, eD5, small1000 (by rw [List.length_map, hA.length]; omega), fun a o na ha => ?_, hB5.keep (c := D) keep_upd bD, as ++ [t], qs ++ [p], ?_, ?_, ?_, ?_⟩
      · rw [upd_ne (ne_of_none ha nD)]; exact k5 _ _ na (s4 _ _ (k3 _ _ na ha))
      · rw [upd_same, List.map_append]; rfl
      · refine prs_append (prs_keep (b := D) keep_upd eD5 (prs_keep k5 (s4 _ _ hyb) (prs_same s4 hA))) (.cons ?_ .nil)
        rw [upd_ne ntD]; exact ht5
      · intro q hq
        rcases List.mem_append.mp hq with z | z
        · exact hc q z
        · rw [List.mem_singleton.mp z]; exact hpm
      · rw [List.length_append, hql]; rfl
    · obtain ⟨k3, hB3, as, qs, eD, hA, hc, hql⟩ := hPv
      exact q H' D as qs hc (by omega) nD0 eD hA (k2.trans k3) (hB3.mono (by omega))
end
end Pc
namespace Pc
open PySem PySem.Spec PyProof.Rows L2 RZ
section
variable {P : Program} {w : World} {K : PySem.W.Frag} {mg : Str → Option Value} {base : Heap}
/-! ### a drawn pairing -/
def spTie : Sp := fun vs H Q _ => ∃ (b : Addr) (n k : Nat), vs = [.ref b, .int k] ∧ Box (n + k) H b ∧ k % 2 = 0 ∧ k ≤ 1000 ∧
  ∀ (H' : Hp) (p : Addr) (ps : List Nat), IsPair k ps → Keep b H H' → Box n H' b → H p = none → H' p = some (.tup (nv ps)) → Q (.ref p) H'
theorem ok_drawn_tie (T : Env K mg) : FnOk P w K mg base CX0 3 T.f_drawn_tie T.d_drawn_tie ["_law_box_here", "_law_size"] spTie := by
  have GS : FnOk P w K mg base CX0 2 T.f_strewn T.d_strewn ["_law_box_here", "_law_some"] (spStrewn K) := ok_strewn T
  refine T.F_drawn_tie.ok sc_drawn_tie (fun vs H Q E h => ?_) (fun cdv A outer s H vs Q E hr h => ?_)
  · obtain ⟨b, n, k, rfl, _⟩ := h
    rfl
  · obtain ⟨b, n, k, rfl, hB, he, hk, q⟩ := h
    refine ⟨_, pss_cons (ps_par (by rfl) sc_drawn_tie.nd (i := 2) (j := 3) rfl rfl (by decide) rfl rfl (pa_cons (pe_call GS hr (by rfl) T.g_strewn T.F_strewn.kp T.b_strewn .nil pass0 (pa_cons (pv 0) (pa_cons (pe_listRg rfl (by rfl) T.n_list (prg_1 (by rfl) T.n_range (pv 1))) pa_nil))) (pa_cons (pe_op op_rep (pe_lst (pa_cons pe_int pa_nil)) (pv 1)) pa_nil)) (by rfl)) <|
      pss_cons (ps_for PassesOwn.never rfl (pi_range3 rfl T.n_range (pa_cons pe_int (pa_cons (pv 1) (pa_cons pe_int pa_nil)))) (pg_name (i := 4) sc_drawn_tie.nd rfl (.inl rfl))
        (pss_cons (ps_asg (pe_ix ix_list (pv 2) (pe_op op_add (pv 4) pe_int) (fun _ _ => rfl)) (pg_sub (pv 3) (pe_ix ix_list (pv 2) (pv 4) (fun _ _ => rfl)) set_list)) <|
        pss_one (ps_asg (pe_ix ix_list (pv 2) (pv 4) (fun _ _ => rfl)) (pg_sub (pv 3) (pe_ix ix_list (pv 2) (pe_op op_add (pv 4) pe_int) (fun _ _ => rfl)) set_list)))) <|
      pss_one (ps_ret (pe_callTy call_tuple_of (by rfl) T.n_tuple (by decide +kernel) (pa_cons (pv 3) pa_nil))), ?_⟩
    refine ⟨.ref b, rfl, .int k, rfl, k, rfl, RgOk.of_le (by decide) (by omega) (by decide) (by omega), fun a na => ?_⟩
    have s1 : Same H _ := same_new (o := .lst (rgV 0 (k : Int))) na
    have hl : (rgV 0 (k : Int)).length = k := by rw [rgV_length]; omega
    refine ⟨b, a, n, _, rfl, (hB.same s1).mono (by rw [hl]; exact Nat.le_refl _), .inl (.inl upd_same), by rw [hl]; exact hk, fun H2 p2 ys hp hk2 hb2 np2 ep2 => ?_⟩
    obtain ⟨os, e1, e2⟩ := perm_map_inv (fun (i : Nat) => V.int (i : Int)) hp.symm (List.range k) (rg_nv k)
    have ep3 : H2 p2 = some (.lst (nv os)) := by rw [ep2, e1]; rfl
    have k02 : Keep b H H2 := (Keep.of_same s1).trans hk2
    have hol : os.length = k := by rw [e2.length_eq, List.length_range]
    have hnd : os.Nodup := e2.nodup_iff.mpr List.nodup_range
    have hlt : ∀ z ∈ os, z < os.length := fun z hz => by rw [hol]; exact List.mem_range.mp (e2.mem_iff.mp hz)
    refine ⟨by show 1 ≤ sizeLine; decide, fun e ne => ?_⟩
    have s3 : Same H2 (upd H2 e (.lst [.int 0])) := same_new ne
    refine ⟨_, rfl, e, _, [.int 0], rfl, rfl, upd_same, by omega, by omega, ?_, fun f nf => ⟨_, _, rfl, ?_⟩⟩
    · show 1 * Int.toNat (k : Int) ≤ sizeLine
      exact Nat.le_of_lt (small1000 (by omega))
    have s4 : Same H2 _ := s3.trans (same_new (o := .lst (List.replicate (k : Int).toNat [V.int 0]).flatten) nf)
    have nf2 : H2 f = none := s3.free nf
    have e0 : (List.replicate (k : Int).toNat [V.int 0]).flatten = nv (List.replicate k 0) := by
      rw [rep_flat, Int.toNat_natCast]
      unfold nv
      rw [List.map_replicate]; rfl
    refine ⟨_, rfl, 0, _, 2, k / 2, rfl, ?_, ?_⟩
    · have := rgc_two (n := k) (by omega)
      rw [show (k + 1) / 2 = k / 2 by omega] at this
      exact this
    refine for_rangeC (fun t σ H' => Same H2 H' ∧ ∃ (y : Option V) (fs : List Nat), σ = [some (.ref b), some (.int k), some (.ref p2), some (.ref f), y] ∧ H' f = some (.lst (nv fs)) ∧ PInv os fs t)
      ⟨s4, none, List.replicate k 0, rfl, by rw [upd_same, e0], by rw [List.length_replicate, hol], fun j hj => absurd hj (Nat.not_lt_zero _)⟩ (fun t σ H' ht h => ?_) (fun σ H' h => ?_)
    · obtain ⟨sm, y, fs, rfl, ef, pi⟩ := h
      obtain ⟨x1, g1⟩ := get_some (l := os) (i := 2 * t) (by omega)
      obtain ⟨x2, g2⟩ := get_some (l := os) (i := 2 * t + 1) (by omega)
      have hS' : SqL K H' p2 (nv os) := .inl (.inl (sm _ _ ep3))
      have ea : atI (nv os) ((0 : Int) + (t : Nat) * 2) = some (.int x1) := by
        rw [show (0 : Int) + (t : Nat) * 2 = ((2 * t : Nat) : Int) by omega]; exact nv_at g1
      have eb : atI (nv os) ((0 : Int) + (t : Nat) * 2 + 1) = some (.int x2) := by
        rw [show (0 : Int) + (t : Nat) * 2 + 1 = ((2 * t + 1 : Nat) : Int) by omega]; exact nv_at g2
      have l1 : x1 < fs.length := by rw [pi.1]; exact hlt _ (List.mem_of_getElem? g1)
      have l2 : x2 < fs.length := by rw [pi.1]; exact hlt _ (List.mem_of_getElem? g2)
      refine ⟨_, rfl, _, rfl, _, 1, rfl, rfl, p2, _, _, _, rfl, rfl, hS', eb, _, rfl, _, rfl, _, rfl, p2, _, _, _, rfl, rfl, hS', ea, f, _, _, x1, rfl, rfl, ef, ixN_nat (by rw [nv_length]; exact l1), ?_⟩
      have pf : p2 ≠ f := ne_of_none ep3 nf2
      have hS2 : SqL K (upd H' f (.lst ((nv fs).set x1 (.int x2)))) p2 (nv os) := .inl (.inl (by rw [upd_ne pf]; exact sm _ _ ep3))
      refine ⟨_, rfl, _, rfl, p2, _, _, _, rfl, rfl, hS2, ea, _, rfl, _, rfl, _, rfl, _, 1, rfl, rfl, p2, _, _, _, rfl, rfl, hS2, eb, f, _, _, x2, rfl, rfl, upd_same, ?_, ?_⟩
      · rw [List.length_set]; exact ixN_nat (by rw [nv_length]; exact l2)
      · refine ⟨fun z o hz => ?_, _, (fs.set x1 x2).set x2 x1, rfl, ?_, pi.step hnd hlt g1 g2⟩
        · rw [upd_ne (ne_of_none hz nf2), upd_ne (ne_of_none hz nf2)]; exact sm _ _ hz
        · rw [upd_same, nv_set, nv_set]
    · obtain ⟨sm, y, fs, rfl, ef, pi⟩ := h
      refine ⟨.ref f, rfl, f, _, rfl, .inl ⟨.inl (.inl ef), fun p np => ?_⟩⟩
      have s5 := sm.trans (same_new (o := .tup (nv fs)) np)
      refine q _ p fs (pi.done e2 he) (k02.trans (Keep.of_same s5)) (hb2.same s5) ?_ upd_same
      have np2 := sm.free np
      cases hh : H p with
      | none => rfl
      | some o =>
        have hpb : p ≠ b := fun z => by
          subst z
          obtain ⟨x, y, z, ex, _⟩ := hb2
          rw [ex] at np2; cases np2
        rw [k02 p o hpb hh] at np2; cases np2
end
end Pc
namespace Pc
open PySem PySem.Spec PyProof.Rows L2 RZ
/-! ### data of small size, by its depth -/
def Sz : Nat → Nat
  | 0 => 61
  | 1 => 6303
  | 2 => 630503
  | _ => 15762628
abbrev Fi (j : Nat) (d : PyData) : Prop := Fine j (Sz j) d
theorem Sz_le : ∀ j, Sz j ≤ Sz (j + 1)
  | 0 => by decide
  | 1 => by decide
  | 2 => by decide
  | _ + 3 => Nat.le_refl _
theorem Fine.up {j : Nat} {d : PyData} (h : Fi j d) : Fi (j + 1) d := h.mono (Nat.le_succ _) (Sz_le j)
theorem Fine.sh {j : Nat} {d : PyData} (h : Fi j d) (hj : j ≤ 60 := by decide) : SeqAt.shaped d = true := Fine.shaped h (by omega)
theorem fi_int {i : Int} (h : i.natAbs < 2 ^ 60) : Fi 0 (.int i) := fine_int h
theorem fi_bl {b : Bool} : Fi 0 (.bool b) := ⟨rfl, rfl, Nat.le_refl _, trivial, by cases b <;> decide⟩
theorem fi_non : Fi 0 .none := ⟨rfl, rfl, Nat.le_refl _, trivial, by decide⟩
theorem fi_tup {l : List Nat} {m : Nat} (hl : IsPair m l) (hm : m ≤ 100) : Fi 1 (td l) := (fine_tup (n := 100) (fun i hi => by have := hl.lt i hi; omega) (by rw [hl.len]; omega) (by decide)).mono (Nat.le_refl _) (by decide)
/-- numbers of small size, not many -/
def Fw (l : List Nat) : Prop := l.length ≤ 100 ∧ ∀ i ∈ l, i < 2 ^ 60
theorem fb {l : List Nat} {m : Nat} (hl : IsPair m l) (hm : m ≤ 100) : Fw l := ⟨by rw [hl.len]; exact hm, fun i hi => by have := hl.lt i hi; omega⟩
theorem fi_tup' {l : List Nat} (h : Fw l) : Fi 1 (td l) := (fine_tup (n := 100) h.2 h.1 (by decide)).mono (Nat.le_refl _) (by decide)
theorem fi_lst {l : List Nat} (h : Fw l) : Fi 1 (.list (nd l)) := (fine_list (k := 0) (m := 61) (n := 100) (fine_nd h.2) (by rw [nd_length]; exact h.1) (by decide)).mono (Nat.le_refl _) (by decide)
theorem fi_prs {qs : List (Nat × Nat)} (h : qs.length ≤ 1000 ∧ ∀ p ∈ qs, p.1 < 2 ^ 60 ∧ p.2 < 2 ^ 60) : Fi 2 (.list (qs.map pd)) := (fine_pds (n := 1000) h.2 h.1 (by decide)).mono (Nat.le_refl _) (by decide)
theorem fa_nil {j : Nat} : ∀ d ∈ ([] : List PyData), Fi j d := fun _ h => absurd h List.not_mem_nil
theorem fa_cons {j : Nat} {d : PyData} {ds : List PyData} (h : Fi j d) (r : ∀ x ∈ ds, Fi j x) : ∀ x ∈ d :: ds, Fi j x := fun x hx => (List.mem_cons.mp hx).elim (fun e => by rw [e]; exact h) (r x)
def Few (j n : Nat) : Prop := n * (Sz j + 2) + 3 ≤ Sz (j + 1) ∧ n ≤ 100000
instance (j n : Nat) : Decidable (Few j n) := by unfold Few; infer_instance
theorem fi_list {j : Nat} {ds : List PyData} (h : ∀ d ∈ ds, Fi j d) (hn : n = ds.length := by rfl) (hf : Few j n := by decide) : Fi (j + 1) (.list ds) := (fine_list (k := j) (m := Sz j) (n := n) h (by rw [hn]; exact Nat.le_refl _) hf.2).mono (Nat.le_refl _) hf.1
theorem fi_tuple {j : Nat} {ds : List PyData} (h : ∀ d ∈ ds, Fi j d) (hn : n = ds.length := by rfl) (hf : Few j n := by decide) : Fi (j + 1) (.tuple ds) := (fine_tuple (k := j) (m := Sz j) (n := n) h (by rw [hn]; exact Nat.le_refl _) hf.2).mono (Nat.le_refl _) hf.1
theorem fi_ne {j : Nat} {d : PyData} (h : Fi j d) : (!PyData.eqv d d) = false := by
  rw [PySem.SeqAt.eqv_refl _ h.lay]; rfl
theorem fi_eq {j : Nat} {d : PyData} (h : Fi j d) : PyData.eqv d d = true := PySem.SeqAt.eqv_refl _ h.lay
/-! ### arguments by name, in another order -/
def pm10 {α : Type} : List α → List α
  | [a, b] => [b, a]
  | l => l
theorem rel_pm10 {zs : List V} {ws : List Value} (_ : zs.length = 2) (r : Vals zs ws) : Vals (pm10 zs) (pm10 ws) := by
  match zs, ws, r with
  | [], _, .nil => exact .nil
  | [_], _, .cons h .nil => exact .cons h .nil
  | [_, _], _, .cons h1 (.cons h2 .nil) => exact .cons h2 (.cons h1 .nil)
  | _ :: _ :: _ :: _, _, .cons h1 (.cons h2 (.cons h3 r)) => exact .cons h1 (.cons h2 (.cons h3 r))
def pm0 {α : Type} (l : List α) : List α := l
theorem rel_pm0 {zs : List V} {ws : List Value} (_ : zs.length = 1) (r : Vals zs ws) : Vals (pm0 zs) (pm0 ws) := r
end Pc
namespace Pc
open PySem PySem.Spec PyProof.Rows L2 RZ
theorem calls_app {n : Nat} {qs rs : List (Nat × Nat)} (h : Calls n qs) (g : Calls n rs) : Calls n (qs ++ rs) := fun q hq => (List.mem_append.mp hq).elim (h q) (g q)
end Pc
namespace Pc
open PySem PySem.Spec PyProof.Rows L2 RZ
/-- the slots, written out -/
theorem st_eq {t : TS} {D : L2.Ends} {σ : L2.St} {H : Hp} (σ' : L2.St) (h : t D σ' H) (e : σ = σ') : t D σ H := by rw [e]; exact h
end Pc
namespace Pc
open PySem PySem.Spec PyProof.Rows L2 RZ
theorem st_set {i : Nat} {v : V} {σ : L2.St} {H : Hp} {Q : L2.St → Hp → Prop} (σ' : L2.St) (h : Q σ' H) (e : σ.set i (some v) = σ') : gName i v σ H Q := by
  unfold gName
  rw [e]; exact h
end Pc
namespace Pc
open PySem PySem.Spec PyProof.Rows L2 RZ
theorem fi_same {x y : V} (e : x = y) : (!decide (x = y)) = false := by rw [decide_eq_true e]; rfl
theorem fi_is {x y : V} (e : x = y) : decide (x = y) = true := decide_eq_true e
end Pc
namespace Pc
open PySem PySem.Spec PyProof.Rows L2 RZ
theorem st_kept {D : L2.Ends} {i : Nat} {a C d : Addr} {σ1 : L2.St} {H : Hp} (σ' : L2.St) (h : D.nx σ' (upd H a (exk a (.ref C) (some d)))) (e : σ1.set i none = σ') :
    ({ nx := fun σ'' H'' => D.nx (σ''.set i none) (upd H'' a (exk a (.ref C) (some d))), rt := fun _ _ => False } : L2.Ends).nx σ1 H := by
  show D.nx (σ1.set i none) _
  rw [e]; exact h
end Pc
namespace Pc
open PySem PySem.Spec PyProof.Rows L2 RZ
theorem st_setH {i : Nat} {v : V} {σ : L2.St} {H : Hp} {Q : L2.St → Hp → Prop} (σ' : L2.St) (H' : Hp) (h : Q σ' H') (e : σ.set i (some v) = σ') (eh : H = H') : gName i v σ H Q := by
  unfold gName
  rw [e, eh]; exact h
end Pc
namespace Pc
open PySem PySem.Spec PyProof.Rows L2 RZ
/-! ### one of some defs, called -/
def FOk (X : Cx) (CX : CXT) (f : Addr) (sp : Sp) : Prop := ∃ (k : Nat) (fd : FuncData) (ps : List Str), FnOk X.prog X.w X.K X.mg X.base CX k f fd ps sp ∧ Room k X.A ∧ PySem.W.keepIn X.K (.ref f) = true ∧ Binds X.K fd ps []
def tCallF (cs : List (Addr × Sp)) (E : L2.St → XK) (tf : TE) (t : TA) : TE := fun σ H Q => tf σ H fun v H1 => ∃ (f : Addr) (sp : Sp), (f, sp) ∈ cs ∧ v = .ref f ∧ t σ H1 fun vs H2 => sp vs H2 Q (E σ)
theorem fall_nil {X : Cx} {CX : CXT} : ∀ c ∈ ([] : List (Addr × Sp)), FOk X CX c.1 c.2 := fun _ h => absurd h List.not_mem_nil
theorem fall_cons {X : Cx} {CX : CXT} {f : Addr} {sp : Sp} {cs : List (Addr × Sp)} (h : FOk X CX f sp) (r : ∀ c ∈ cs, FOk X CX c.1 c.2) : ∀ c ∈ (f, sp) :: cs, FOk X CX c.1 c.2 := fun c hc => (List.mem_cons.mp hc).elim (fun e => by rw [e]; exact h) (r c)
theorem pe_callF {X : Cx} {CX : CXT} {cs : List (Addr × Sp)} {E : L2.St → XK} {fe e : Expr} {es : List Expr} {tf : TE} {t : TA} {pos : Pos} (hall : ∀ c ∈ cs, FOk X CX c.1 c.2) (hx : ∀ σ, PassesAt CX X σ (E σ)) (hf : PE X fe tf) (ha : PA X (e :: es) t)
    (ht : eval (.Call fe (e :: es) [] pos) X.env = (do callWith pos (← eval fe X.env) [] (backTo pos (starEach (e :: es) X.env)) (backToKw pos (keywordEach [] X.env))) := by rfl)
    (he : starEach (e :: es) X.env = (false, eval e X.env) :: starEach es X.env := by rfl) (hpl : (backTo pos (starEach es X.env)).any (·.1) = false := by rfl) : PE X (.Call fe (e :: es) [] pos) (tCallF cs E tf t) := by
  refine ⟨fun pins s σ H Q I h => ?_⟩
  refine Call_ (thn (hf.run pins s σ H _ I h) fun u s1 ⟨y, H1, I1, ry, f, sp, hm, ey, q⟩ => ?_) ht
  subst ey
  obtain rfl : u = Value.ref f := ry
  obtain ⟨k, fd, ps, F, hr, hk, hb⟩ := hall _ hm
  refine PySem.W.callWith_K (h₀ := X.base) I1.ok.mod.kin hk (thn (ha.run pos pins s1 σ H1 _ I1 q) fun us s2 ⟨vs, H2, I2, r, q2⟩ => ⟨I2.kIn, ?_⟩) he hpl
  exact run_fnS F hr hb (hx σ) I2 r q2
/-- C(e, ..), the arguments never come -/
theorem pe_callN {X : Cx} {f : Addr} {x : Str} {p pos : Pos} {e : Expr} {es : List Expr} {t : TA} (hg : Gl X x) (hm : X.mg x = some (.ref f)) (hk : PySem.W.keepIn X.K (.ref f) = true) (ha : PA X (e :: es) t) (hdb : (x == ("__debug__" : Str)) = false := by decide)
    (he : starEach (e :: es) X.env = (false, eval e X.env) :: starEach es X.env := by rfl) (hpl : (backTo pos (starEach es X.env)).any (·.1) = false := by rfl) :
    PE X (.Call (.Name x p) (e :: es) [] pos) (fun σ H _ => t σ H fun _ _ => False) := by
  refine ⟨fun pins s σ H Q I h => ?_⟩
  refine wpAny_Call_Name_kw (ld_glob I hg hm ?_ hdb)
  exact PySem.W.callWith_K (h₀ := X.base) I.ok.mod.kin hk (thn (ha.run pos pins s σ H _ I h) fun us s1 ⟨vs, H1, I1, r, q⟩ => q.elim) he hpl
end Pc
namespace Pc
open PySem PySem.Spec PyProof.Rows L2 RZ
section
variable {P : Program} {w : World} {K : PySem.W.Frag} {mg : Str → Option Value} {base : Heap}
/-! ### numbers of people that are equal -/
def spCheckSizes : Sp := fun vs H Q _ => ∃ n : Nat, vs = [.int n, .int n] ∧ Q .non H
theorem ok_p_check_sizes (T : Env K mg) : FnOk P w K mg base CX0 1 T.f_p_check_sizes T.d_p_check_sizes ["first", "second"] spCheckSizes := by
  refine T.F_p_check_sizes.ok sc_p_check_sizes (fun vs H Q E h => ?_) (fun cdv A outer s H vs Q E hr h => ?_)
  · obtain ⟨n, rfl, _⟩ := h
    rfl
  · obtain ⟨n, rfl, q⟩ := h
    refine ⟨_, pss_one (ps_if (pt_cmpR op_ne (pv 0) (pv 1) (nomark _)) pss_never pss_nil), ?_⟩
    refine ⟨_, rfl, _, rfl, rfl, _, rfl, ite2 (fun c => ?_) (fun _ => q)⟩
    rw [decide_eq_true rfl] at c
    exact absurd c (by decide)
end
end Pc
namespace Pc
/-! ### the cycles of two pairings -/
theorem nd_len : ∀ (n : Nat) (l : List Nat), l.Nodup → (∀ y ∈ l, y < n) → l.length ≤ n
  | 0, [], _, _ => Nat.le_refl _
  | 0, y :: _, _, h => absurd (h y List.mem_cons_self) (Nat.not_lt_zero _)
  | n + 1, l, hd, h => by
    have h1 := nd_len n (l.erase n) (hd.erase n) (fun y hy => by
      have h2 := (hd.mem_erase_iff).mp hy
      have h3 := h y h2.2
      have h4 := h2.1
      omega)
    rw [List.length_erase] at h1
    split at h1 <;> omega
theorem nd_all : ∀ (n : Nat) (l : List Nat), l.Nodup → (∀ y ∈ l, y < n) → (∀ y, y < n → y ∈ l) → l.Perm (List.range n) := fun n l hd h1 h2 =>
  (List.perm_ext_iff_of_nodup hd List.nodup_range).mpr fun y => ⟨fun hy => List.mem_range.mpr (h1 y hy), fun hy => h2 y (List.mem_range.mp hy)⟩
inductive LapEnd (a b : List Nat) : List Nat → Nat → List Nat → Prop
  | stop {l : List Nat} {z : Nat} : z ∈ l → LapEnd a b l z l
  | go {l r : List Nat} {z : Nat} : z ∉ l → LapEnd a b (l ++ [z, a.getD z 0]) (b.getD (a.getD z 0) 0) r → LapEnd a b l z r
theorem LapEnd.det {a b l r r' : List Nat} {z : Nat} (h : LapEnd a b l z r) : LapEnd a b l z r' → r = r' := by
  induction h with
  | stop h1 => intro h2; cases h2 with
    | stop _ => rfl
    | go h3 _ => exact absurd h1 h3
  | go h1 _ ih => intro h2; cases h2 with
    | stop h3 => exact absurd h3 h1
    | go _ h4 => exact ih h4
structure LpI (a b : List Nat) (n x : Nat) (l : List Nat) (z : Nat) : Prop where
  nd : l.Nodup
  lt : ∀ y ∈ l, y < n
  zl : z < n
  xl : x < n
  ca : ∀ y ∈ l, a.getD y 0 ∈ l
  st : l ≠ [] → x ∈ l ∧ b.getD z 0 ∈ l ∧ b.getD z 0 ≠ x
  s0 : l = [] → z = x
  cb : ∀ y ∈ l, y ≠ x → y ≠ b.getD z 0 → b.getD y 0 ∈ l ∧ b.getD y 0 ≠ x ∧ b.getD y 0 ≠ b.getD z 0
theorem LpI.start {a b : List Nat} {n x : Nat} (hx : x < n) : LpI a b n x [] x :=
  ⟨List.nodup_nil, fun _ h => absurd h List.not_mem_nil, hx, hx, fun _ h => absurd h List.not_mem_nil, fun h => absurd rfl h, fun _ => rfl, fun _ h => absurd h List.not_mem_nil⟩
theorem LpI.step {a b : List Nat} {n x z : Nat} {l : List Nat} (ha : IsPair n a) (hb : IsPair n b) (h : LpI a b n x l z) (hz : z ∉ l) : LpI a b n x (l ++ [z, a.getD z 0]) (b.getD (a.getD z 0) 0) := by
  obtain ⟨a1, a2, a3, _⟩ := ha.d h.zl
  obtain ⟨b1, b2, b3, _⟩ := hb.d a1
  obtain ⟨c1, c2, c3, _⟩ := hb.d h.zl
  have haz : a.getD z 0 ∉ l := fun hm => hz (by have := h.ca _ hm; rwa [a3] at this)
  have hxz : l ≠ [] → z ≠ x := fun hl e => hz (by rw [e]; exact (h.st hl).1)
  have hnil : ∀ y ∈ l, l ≠ [] := fun y hy e => by rw [e] at hy; exact absurd hy List.not_mem_nil
  refine ⟨?_, ?_, b1, h.xl, ?_, ?_, ?_, ?_⟩
  · refine List.nodup_append.mpr ⟨h.nd, ?_, fun y hy w hw => ?_⟩
    · exact List.nodup_cons.mpr ⟨fun hm => a2 (List.mem_singleton.mp hm).symm, List.nodup_cons.mpr ⟨List.not_mem_nil, List.nodup_nil⟩⟩
    · rcases List.mem_cons.mp hw with e | hw
      · exact fun e2 => hz (by rw [← e, ← e2]; exact hy)
      · exact fun e2 => haz (by rw [← List.mem_singleton.mp hw, ← e2]; exact hy)
  · intro y hy
    rcases List.mem_append.mp hy with hy | hy
    · exact h.lt y hy
    · rcases List.mem_cons.mp hy with e | hy
      · rw [e]; exact h.zl
      · rw [List.mem_singleton.mp hy]; exact a1
  · intro y hy
    refine List.mem_append.mpr ?_
    rcases List.mem_append.mp hy with hy | hy
    · exact .inl (h.ca y hy)
    · rcases List.mem_cons.mp hy with e | hy
      · rw [e]; exact .inr (List.mem_cons_of_mem _ List.mem_cons_self)
      · rw [List.mem_singleton.mp hy, a3]; exact .inr List.mem_cons_self
  · intro _
    rw [b3]
    refine ⟨?_, List.mem_append.mpr (.inr (List.mem_cons_of_mem _ List.mem_cons_self)), ?_⟩
    · by_cases e : l = []
      · rw [h.s0 e]; exact List.mem_append.mpr (.inr List.mem_cons_self)
      · exact List.mem_append.mpr (.inl (h.st e).1)
    · by_cases e : l = []
      · rw [← h.s0 e]; exact a2
      · exact fun e2 => haz (by rw [e2]; exact (h.st e).1)
  · intro e; exact absurd e (by simp)
  · intro y hy hyx hyz
    rw [b3] at hyz ⊢
    rcases List.mem_append.mp hy with hy | hy
    · by_cases e : y = b.getD z 0
      · rw [e, c3]
        exact ⟨List.mem_append.mpr (.inr List.mem_cons_self), hxz (hnil _ hy), fun e => a2 e.symm⟩
      · obtain ⟨h1, h2, _⟩ := h.cb y hy hyx e
        exact ⟨List.mem_append.mpr (.inl h1), h2, fun e2 => haz (by rw [← e2]; exact h1)⟩
    · rcases List.mem_cons.mp hy with e | hy
      · by_cases e2 : l = []
        · exact absurd (e.trans (h.s0 e2)) hyx
        · rw [e]
          obtain ⟨h1, h2, h3⟩ := h.st e2
          exact ⟨List.mem_append.mpr (.inl h2), h3, fun e3 => haz (by rw [← e3]; exact h2)⟩
      · exact absurd (List.mem_singleton.mp hy) hyz
theorem LpI.done {a b : List Nat} {n x z : Nat} {l : List Nat} (hb : IsPair n b) (h : LpI a b n x l z) (hz : z ∈ l) : z = x := by
  by_cases e : z = x
  · exact e
  · exact absurd rfl (h.cb z hz e (fun e2 => (hb.d h.zl).2.1 e2.symm)).2.2
theorem LpI.closed {a b : List Nat} {n x z : Nat} {l : List Nat} (hb : IsPair n b) (h : LpI a b n x l z) (hz : z ∈ l) : ∀ y ∈ l, b.getD y 0 ∈ l := by
  intro y hy
  have hn : l ≠ [] := fun e => by rw [e] at hy; exact absurd hy List.not_mem_nil
  have e := h.done hb hz
  obtain ⟨h1, h2, _⟩ := h.st hn
  by_cases e1 : y = x
  · rw [e1, ← e]; exact h2
  · by_cases e2 : y = b.getD z 0
    · rw [e2, (hb.d h.zl).2.2.1]; exact hz
    · exact (h.cb y hy e1 e2).1
theorem LpI.room {a b : List Nat} {n x z : Nat} {l : List Nat} (ha : IsPair n a) (hb : IsPair n b) (h : LpI a b n x l z) (hz : z ∉ l) : l.length + 2 ≤ n := by
  have h1 := h.step ha hb hz
  have h2 := nd_len n _ h1.nd h1.lt
  rw [List.length_append] at h2
  exact h2
theorem LpI.some {a b : List Nat} {n x : Nat} (ha : IsPair n a) (hb : IsPair n b) : ∀ (k : Nat) (l : List Nat) (z : Nat), n - l.length ≤ k → LpI a b n x l z → ∃ r, LapEnd a b l z r
  | 0, l, z, hk, h => by
    by_cases hz : z ∈ l
    · exact ⟨_, .stop hz⟩
    · have := h.room ha hb hz; omega
  | k + 1, l, z, hk, h => by
    by_cases hz : z ∈ l
    · exact ⟨_, .stop hz⟩
    · have := h.room ha hb hz
      obtain ⟨r, hr⟩ := LpI.some ha hb k _ _ (by rw [List.length_append]; show n - (l.length + 2) ≤ k; omega) (h.step ha hb hz)
      exact ⟨r, .go hz hr⟩
/-- a whole lap -/
structure Lap (a b : List Nat) (n x : Nat) (M r : List Nat) : Prop where
  en : LapEnd a b [] x r
  inv : LpI a b n x r x
  hx : x ∈ r
  out : ∀ y ∈ r, y ∉ M
theorem LapEnd.lap {a b : List Nat} {n x : Nat} (ha : IsPair n a) (hb : IsPair n b) {l r : List Nat} {z : Nat} (h : LapEnd a b l z r) : LpI a b n x l z → LpI a b n x r x ∧ x ∈ r := by
  induction h with
  | stop hz => intro hi; have e := hi.done hb hz; rw [e] at hi hz; exact ⟨hi, hz⟩
  | go hz _ ih => intro hi; exact ih (hi.step ha hb hz)
theorem LapEnd.out {a b : List Nat} {n x : Nat} (ha : IsPair n a) (hb : IsPair n b) {M : List Nat} (ca : ∀ y ∈ M, a.getD y 0 ∈ M) (cb : ∀ y ∈ M, b.getD y 0 ∈ M) {l r : List Nat} {z : Nat} (h : LapEnd a b l z r) :
    LpI a b n x l z → z ∉ M → (∀ y ∈ l, y ∉ M) → ∀ y ∈ r, y ∉ M := by
  induction h with
  | stop _ => intro _ _ h; exact h
  | @go l' r' z' hz _ ih =>
    intro hi hzM hl
    obtain ⟨a1, _, a3, _⟩ := ha.d hi.zl
    obtain ⟨_, _, b3, _⟩ := hb.d a1
    have haM : a.getD z' 0 ∉ M := fun e => hzM (by have := ca _ e; rwa [a3] at this)
    refine ih (hi.step ha hb hz) (fun e => haM (by have := cb _ e; rwa [b3] at this)) fun y hy => ?_
    rcases List.mem_append.mp hy with hy | hy
    · exact hl y hy
    · rcases List.mem_cons.mp hy with e | hy
      · rw [e]; exact hzM
      · rw [List.mem_singleton.mp hy]; exact haM
/-- the cycles found up to a person -/
inductive Rn (a b : List Nat) : Nat → List (List Nat) → Prop
  | zero : Rn a b 0 []
  | skip {i : Nat} {ls : List (List Nat)} : Rn a b i ls → i ∈ ls.flatten → Rn a b (i + 1) ls
  | new {i : Nat} {ls : List (List Nat)} {r : List Nat} : Rn a b i ls → i ∉ ls.flatten → LapEnd a b [] i r → Rn a b (i + 1) (ls ++ [r])
theorem Rn.det {a b : List Nat} {i : Nat} {ls : List (List Nat)} (h : Rn a b i ls) : ∀ {ms : List (List Nat)}, Rn a b i ms → ls = ms := by
  induction h with
  | zero => intro ms h2; cases h2; rfl
  | skip h1 hm ih => intro ms h2; cases h2 with
    | skip h3 _ => exact ih h3
    | new h3 hn _ => rw [← ih h3] at hn; exact absurd hm hn
  | new h1 hn he ih => intro ms h2; cases h2 with
    | skip h3 hm => rw [← ih h3] at hm; exact absurd hm hn
    | new h3 _ he' => rw [ih h3, he.det he']
structure RnI (a b : List Nat) (n i : Nat) (ls : List (List Nat)) : Prop where
  nd : ls.flatten.Nodup
  lt : ∀ y ∈ ls.flatten, y < n
  ca : ∀ y ∈ ls.flatten, a.getD y 0 ∈ ls.flatten
  cb : ∀ y ∈ ls.flatten, b.getD y 0 ∈ ls.flatten
  al : ∀ y, y < i → y ∈ ls.flatten
  ne : ∀ l ∈ ls, l ≠ []
theorem flat_snoc (ls : List (List Nat)) (r : List Nat) : (ls ++ [r]).flatten = ls.flatten ++ r := by
  rw [List.flatten_append]; simp
theorem Rn.inv {a b : List Nat} {n : Nat} (ha : IsPair n a) (hb : IsPair n b) {i : Nat} {ls : List (List Nat)} (h : Rn a b i ls) : i ≤ n → RnI a b n i ls := by
  induction h with
  | zero => intro _; exact ⟨List.nodup_nil, fun _ h => absurd h List.not_mem_nil, fun _ h => absurd h List.not_mem_nil, fun _ h => absurd h List.not_mem_nil, fun _ h => absurd h (Nat.not_lt_zero _), fun _ h => absurd h List.not_mem_nil⟩
  | @skip i ls _ hm ih =>
    intro hi
    have h := ih (by omega)
    exact ⟨h.nd, h.lt, h.ca, h.cb, fun y hy => by by_cases e : y = i; · rw [e]; exact hm
                                                  · exact h.al y (by omega), h.ne⟩
  | @new i ls r _ hn he ih =>
    intro hi
    have h := ih (by omega)
    have s0 : LpI a b n i [] i := LpI.start (by omega)
    obtain ⟨h1, h2⟩ := he.lap ha hb s0
    have h3 := he.out ha hb h.ca h.cb s0 hn (fun _ h => absurd h List.not_mem_nil)
    have h4 := h1.closed hb h2
    refine ⟨?_, ?_, ?_, ?_, ?_, ?_⟩
    · rw [flat_snoc]; exact List.nodup_append.mpr ⟨h.nd, h1.nd, fun y hy w hw e => h3 w hw (by rw [← e]; exact hy)⟩
    · rw [flat_snoc]; intro y hy; rcases List.mem_append.mp hy with hy | hy
      · exact h.lt y hy
      · exact h1.lt y hy
    · rw [flat_snoc]; intro y hy; rcases List.mem_append.mp hy with hy | hy
      · exact List.mem_append.mpr (.inl (h.ca y hy))
      · exact List.mem_append.mpr (.inr (h1.ca y hy))
    · rw [flat_snoc]; intro y hy; rcases List.mem_append.mp hy with hy | hy
      · exact List.mem_append.mpr (.inl (h.cb y hy))
      · exact List.mem_append.mpr (.inr (h4 y hy))
    · rw [flat_snoc]; intro y hy
      by_cases e : y = i
      · rw [e]; exact List.mem_append.mpr (.inr h2)
      · exact List.mem_append.mpr (.inl (h.al y (by omega)))
    · intro l hl; rcases List.mem_append.mp hl with hl | hl
      · exact h.ne l hl
      · rw [List.mem_singleton.mp hl]; intro e; rw [e] at h2; exact absurd h2 List.not_mem_nil
theorem flatL_len : ∀ (ls : List (List Nat)), (∀ l ∈ ls, l ≠ []) → ls.length ≤ ls.flatten.length
  | [], _ => Nat.le_refl _
  | l :: ls, h => by
    have h1 := flatL_len ls (fun m hm => h m (List.mem_cons_of_mem _ hm))
    have h2 : 0 < l.length := List.length_pos_iff.mpr (h l List.mem_cons_self)
    rw [List.flatten_cons, List.length_append, List.length_cons]; omega
theorem flatL_one {ls : List (List Nat)} {l : List Nat} (h : l ∈ ls) : l.length ≤ ls.flatten.length := by
  obtain ⟨s, t, rfl⟩ := List.append_of_mem h
  rw [List.flatten_append, List.flatten_cons, List.length_append, List.length_append]; omega
theorem RnI.len {a b : List Nat} {n i : Nat} {ls : List (List Nat)} (h : RnI a b n i ls) : ls.flatten.length ≤ n := nd_len n _ h.nd h.lt
theorem RnI.len' {a b : List Nat} {n i : Nat} {ls : List (List Nat)} (h : RnI a b n i ls) : ls.length ≤ n := Nat.le_trans (flatL_len ls h.ne) h.len
theorem RnI.perm {a b : List Nat} {n : Nat} {ls : List (List Nat)} (h : RnI a b n n ls) : ls.flatten.Perm (List.range n) := nd_all n _ h.nd h.lt h.al
end Pc
namespace Pc
open PySem PySem.Spec PyProof.Rows L2 RZ
theorem last_nv (l : List Nat) (z : Nat) : atI (nv (l ++ [z])) (-1) = some (.int (z : Int)) := by
  unfold nv
  rw [List.map_append]
  exact atI_last _ _
theorem last_nv' (l : List Nat) (y z : Nat) : atI (nv (l ++ [y, z])) (-1) = some (.int (z : Int)) := by
  rw [show l ++ [y, z] = (l ++ [y]) ++ [z] by rw [List.append_assoc]; rfl]
  exact last_nv _ _
theorem tups_upd {w : World} {g : Addr} {S : Int → Bool} {k : Nat} {H : Hp} {o : HO} (hg : H g = some (SetO w g S k)) : ∀ {as : List Addr} {ls : List (List Nat)}, Tups H as ls → Tups (upd H g o) as ls
  | _, _, .nil => .nil
  | _, _, .cons h r => .cons (by rw [upd_ne (fun z => by rw [z, hg] at h; cases h)]; exact h) (tups_upd hg r)
end Pc
namespace Pc
open PySem PySem.Spec PyProof.Rows L2 RZ
section
variable {P : Program} {w : World} {K : PySem.W.Frag} {mg : Str → Option Value} {base : Heap}
/-! ### cycles of two pairings, by the program -/
def spCycleFrom (K : PySem.W.Frag) : Sp := fun vs H Q _ => ∃ (p q : Addr) (a b : List Nat) (n x : Nat), vs = [.ref p, .ref q, .int x] ∧ Sq K H p (nv a) ∧ Sq K H q (nv b) ∧ IsPair n a ∧ IsPair n b ∧ x < n ∧ n ≤ 500 ∧
  ∀ (H' : Hp) (t : Addr) (r : List Nat), LapEnd a b [] x r → Same H H' → H t = none → H' t = some (.tup (nv r)) → Q (.ref t) H'
theorem ok_p_cycle_from (T : Env K mg) : FnOk P w K mg base CX0 1 T.f_p_cycle_from T.d_p_cycle_from ["one", "other", "person"] (spCycleFrom K) := by
  refine T.F_p_cycle_from.ok sc_p_cycle_from (fun vs H Q E h => ?_) (fun cdv A outer s H vs Q E hr h => ?_)
  · obtain ⟨p, q, a, b, n, x, rfl, _⟩ := h
    rfl
  · obtain ⟨p, o, a, b, n, x, rfl, hp, ho, hA, hB, hx, hn, q⟩ := h
    refine ⟨_, pss_cons (ps_set (i := 3) sc_p_cycle_from.nd rfl (.inl rfl) (pe_lst (pa_cons (pv 2) (pa_cons (pe_ix ix_seq (pv 0) (pv 2) (fun _ _ => rfl)) pa_nil)))) <|
      pss_cons (ps_set (i := 4) sc_p_cycle_from.nd rfl (.inl rfl) (pe_ix ix_seq (pv 1) (pe_ix ix_list (pv 3) (pe_un un_neg pe_int) (fun _ _ => rfl)) (fun _ _ => rfl))) <|
      pss_cons (ps_while PassesOwn.never (pt_cmpR op_ne (pv 4) (pv 2) (nomark _))
        (pss_cons (ps_expr (pe_bm PySem.F.plainAttrs_list PySem.F.slot_list_append PySem.F.type_list_append mt_append (pv 3) (pa_cons (pv 4) pa_nil))) <|
        pss_cons (ps_expr (pe_bm PySem.F.plainAttrs_list PySem.F.slot_list_append PySem.F.type_list_append mt_append (pv 3) (pa_cons (pe_ix ix_seq (pv 0) (pv 4) (fun _ _ => rfl)) pa_nil))) <|
        pss_one (ps_set (i := 4) sc_p_cycle_from.nd rfl (.inl rfl) (pe_ix ix_seq (pv 1) (pe_ix ix_list (pv 3) (pe_un un_neg pe_int) (fun _ _ => rfl)) (fun _ _ => rfl))))) <|
      pss_one (ps_ret (pe_callTy call_tuple_of (by rfl) T.n_tuple (by decide +kernel) (pa_cons (pv 3) pa_nil))), ?_⟩
    obtain ⟨a1, a2, a3, a4⟩ := hA.d hx
    obtain ⟨b1, _, _, b4⟩ := hB.d a1
    refine ⟨_, rfl, .ref p, rfl, _, rfl, ix_sq hp (nv_at a4) ⟨by show 2 ≤ sizeLine; decide, fun e ne => ?_⟩⟩
    have e0 : (upd H e (.lst [.int (x : Int), .int ((a.getD x 0 : Nat) : Int)])) e = some (.lst (nv ([] ++ [x, a.getD x 0]))) := by rw [upd_same]; rfl
    have s0 : Same H (upd H e (.lst [.int (x : Int), .int ((a.getD x 0 : Nat) : Int)])) := same_new ne
    revert e0 s0
    generalize upd H e (.lst [.int (x : Int), .int ((a.getD x 0 : Nat) : Int)]) = H0
    intro e0 s0
    refine st_set [some (.ref p), some (.ref o), some (.int x), some (.ref e), none] ?_ rfl
    refine ⟨.ref o, rfl, .ref e, rfl, 1, rfl, e, _, -1, _, rfl, rfl, .inl (.inl e0), last_nv' _ _ _, ix_sq (ho.same s0) (nv_at b4) ?_⟩
    refine st_set [some (.ref p), some (.ref o), some (.int x), some (.ref e), some (.int ((b.getD (a.getD x 0) 0 : Nat) : Int))] ?_ rfl
    have i0 : LpI a b n x ([] ++ [x, a.getD x 0]) (b.getD (a.getD x 0) 0) := (LpI.start hx).step hA hB List.not_mem_nil
    refine ⟨fun m σ H' => ∃ (l : List Nat) (z : Nat), σ = [some (.ref p), some (.ref o), some (.int x), some (.ref e), some (.int z)] ∧ Same H H' ∧ H' e = some (.lst (nv l)) ∧ LpI a b n x l z ∧ l ≠ [] ∧ (∀ r, LapEnd a b l z r → LapEnd a b [] x r) ∧ n - l.length = m,
      ⟨_, _, _, rfl, s0, e0, i0, by simp, fun r hr => .go List.not_mem_nil hr, rfl⟩, fun m σ H' hW => ?_⟩
    obtain ⟨l, z, rfl, sm, ee, hi, hl, hend, hm⟩ := hW
    refine ⟨_, rfl, _, rfl, rfl, _, rfl, ite2 (fun c => ?_) (fun c => ?_)⟩
    · have hzx : z ≠ x := fun z' => by
        have c' : (!decide (V.int (z : Int) = V.int (x : Int))) = true := c
        rw [z', decide_eq_true rfl] at c'
        exact absurd c' (by decide)
      have hz : z ∉ l := fun hm => hzx (hi.done hB hm)
      have hroom := hi.room hA hB hz
      have hi2 := hi.step hA hB hz
      obtain ⟨u1, _, _, u4⟩ := hA.d hi.zl
      obtain ⟨v1, _, _, v4⟩ := hB.d u1
      refine ⟨fun σ' H2 => ∃ (l : List Nat) (z : Nat), σ' = [some (.ref p), some (.ref o), some (.int x), some (.ref e), some (.int z)] ∧ Same H H2 ∧ H2 e = some (.lst (nv l)) ∧ LpI a b n x l z ∧ l ≠ [] ∧ (∀ r, LapEnd a b l z r → LapEnd a b [] x r) ∧ n - l.length < m,
        fun σ' H2 h2 => ?_, ?_⟩
      · obtain ⟨l', z', g1, g2, g3, g4, g5, g6, g7⟩ := h2
        exact ⟨_, g7, l', z', g1, g2, g3, g4, g5, g6, rfl⟩
      · refine ⟨.ref e, rfl, .inl ⟨rfl, _, .inl (.inl ee)⟩, _, rfl, e, _, _, rfl, rfl, ee, line_big (by rw [nv_length]; omega), ?_⟩
        have e1 : (upd H' e (.lst (nv l ++ [.int (z : Int)]))) e = some (.lst (nv (l ++ [z]))) := by rw [upd_same, nv_snoc']
        have s1 : Same H (upd H' e (.lst (nv l ++ [.int (z : Int)]))) := fun b o hb => by rw [upd_ne (ne_of_none hb ne)]; exact sm _ _ hb
        revert e1 s1
        generalize upd H' e (.lst (nv l ++ [.int (z : Int)])) = H1
        intro e1 s1
        refine ⟨.ref e, rfl, .inl ⟨rfl, _, .inl (.inl e1)⟩, .ref p, rfl, _, rfl, ix_sq (hp.same s1) (nv_at u4) ⟨e, _, _, rfl, rfl, e1, line_big (by rw [nv_length, List.length_append]; show l.length + 1 ≤ _; omega), ?_⟩⟩
        have e2 : (upd H1 e (.lst (nv (l ++ [z]) ++ [.int ((a.getD z 0 : Nat) : Int)]))) e = some (.lst (nv (l ++ [z, a.getD z 0]))) := by rw [upd_same, nv_snoc', List.append_assoc]; rfl
        have s2 : Same H (upd H1 e (.lst (nv (l ++ [z]) ++ [.int ((a.getD z 0 : Nat) : Int)]))) := fun b o hb => by rw [upd_ne (ne_of_none hb ne)]; exact s1 _ _ hb
        revert e2 s2
        generalize upd H1 e (.lst (nv (l ++ [z]) ++ [.int ((a.getD z 0 : Nat) : Int)])) = H2
        intro e2 s2
        refine ⟨.ref o, rfl, .ref e, rfl, 1, rfl, e, _, -1, _, rfl, rfl, .inl (.inl e2), last_nv' _ _ _, ix_sq (ho.same s2) (nv_at v4) ?_⟩
        exact ⟨_, _, rfl, s2, e2, hi2, by simp, fun r hr => hend r (.go hz hr), by rw [List.length_append, ← hm]; show n - (l.length + 2) < n - l.length; omega⟩
    · have hzx : z = x := by
        by_cases e' : z = x
        · exact e'
        · exact absurd (show (!decide (V.int (z : Int) = V.int (x : Int))) = true by rw [decide_eq_false (fun z' => e' (by have := V.int.inj z'; omega))]; rfl) c
      have hzl : z ∈ l := by rw [hzx]; exact (hi.st hl).1
      refine ⟨.ref e, rfl, e, _, rfl, .inl ⟨.inl (.inl ee), fun t nt => ?_⟩⟩
      exact q _ t l (hend l (.stop hzl)) (sm.trans (same_new nt)) (sm.free nt) upd_same
def spCycles (K : PySem.W.Frag) : Sp := fun vs H Q _ => ∃ (p q : Addr) (a b : List Nat) (n : Nat), vs = [.ref p, .ref q] ∧ Sq K H p (nv a) ∧ Sq K H q (nv b) ∧ IsPair n a ∧ IsPair n b ∧ n ≤ 500 ∧
  ∀ (H' : Hp) (t : Addr) (as : List Addr) (ls : List (List Nat)), Rn a b n ls → Same H H' → H t = none → H' t = some (.lst (as.map V.ref)) → Tups H' as ls → Q (.ref t) H'
theorem ok_p_cycles (T : Env K mg) : FnOk P w K mg base CX0 2 T.f_p_cycles T.d_p_cycles ["one", "other"] (spCycles K) := by
  have GC : FnOk P w K mg base CX0 1 T.f_p_check_sizes T.d_p_check_sizes ["first", "second"] spCheckSizes := ok_p_check_sizes T
  have GF : FnOk P w K mg base CX0 1 T.f_p_cycle_from T.d_p_cycle_from ["one", "other", "person"] (spCycleFrom K) := ok_p_cycle_from T
  refine T.F_p_cycles.ok sc_p_cycles (fun vs H Q E h => ?_) (fun cdv A outer s H vs Q E hr h => ?_)
  · obtain ⟨p, q, a, b, n, rfl, _⟩ := h
    rfl
  · obtain ⟨p, o, a, b, n, rfl, hp, ho, hA, hB, hn, q⟩ := h
    refine ⟨_, pss_cons (ps_expr (pe_call GC hr (by rfl) T.g_p_check_sizes T.F_p_check_sizes.kp T.b_p_check_sizes .nil pass0 (pa_cons (pe_callB call_len_seq (by rfl) T.n_len PySem.boot_len (pa_cons (pv 0) pa_nil)) (pa_cons (pe_callB call_len_seq (by rfl) T.n_len PySem.boot_len (pa_cons (pv 1) pa_nil)) pa_nil)))) <|
      pss_cons (ps_set (i := 2) sc_p_cycles.nd rfl (.inl rfl) (pe_lst pa_nil)) <|
      pss_cons (ps_set (i := 3) sc_p_cycles.nd rfl (.inl rfl) (pe_callTy0 cr_set0 (by rfl) T.n_set (by decide +kernel))) <|
      pss_cons (ps_for PassesOwn.never rfl (pi_range1 (by rfl) T.n_range (pa_cons (pe_callB call_len_seq (by rfl) T.n_len PySem.boot_len (pa_cons (pv 0) pa_nil)) pa_nil)) (pg_name (i := 4) sc_p_cycles.nd rfl (.inl rfl))
        (pss_one (ps_if (pt_cmpR or_snotin (pv 4) (pv 3) (by rfl))
          (pss_cons (ps_set (i := 5) sc_p_cycles.nd rfl (.inl rfl) (pe_call GF hr (by rfl) T.g_p_cycle_from T.F_p_cycle_from.kp T.b_p_cycle_from .nil pass0 (pa_cons (pv 0) (pa_cons (pv 1) (pa_cons (pv 4) pa_nil))))) <|
          pss_cons (ps_expr (pe_bm PySem.F.plainAttrs_list PySem.F.slot_list_append PySem.F.type_list_append mt_append (pv 2) (pa_cons (pv 5) pa_nil))) <|
          pss_one (ps_for PassesOwn.never rfl (pi_tup (pv 5)) (pg_name (i := 6) sc_p_cycles.nd rfl (.inl rfl)) (pss_one (ps_expr (pe_sadd (pv 3) (pa_cons (pv 6) pa_nil)))))) pss_nil))) <|
      pss_one (ps_ret (pv 2)), ?_⟩
    have hla : ((nv a).length : Int) = (n : Nat) := by rw [nv_length, hA.len]
    have hlb : ((nv b).length : Int) = (n : Nat) := by rw [nv_length, hB.len]
    refine ⟨.ref p, rfl, p, _, rfl, hp, .ref o, rfl, o, _, rfl, ho, n, (by rw [hla, hlb]; rfl), ?_⟩
    refine ⟨by show 0 ≤ sizeLine; decide, fun f nf => ?_⟩
    have s1 : Same H (upd H f (.lst [])) := same_new nf
    have e1 : (upd H f (.lst [])) f = some (.lst []) := upd_same
    revert s1 e1
    generalize upd H f (.lst []) = H1
    intro s1 e1
    refine st_set [some (.ref p), some (.ref o), some (.ref f), none, none, none, none] ?_ rfl
    refine ⟨rfl, fun g ng => ?_⟩
    have s2 : Same H1 (upd H1 g (SetO w g (fun _ => false) 0)) := same_new ng
    have e2 : (upd H1 g (SetO w g (fun _ => false) 0)) g = some (SetO w g (fun _ => false) 0) := upd_same
    have fg : f ≠ g := ne_of_none e1 ng
    have ng0 : H g = none := s1.free ng
    refine st_set [some (.ref p), some (.ref o), some (.ref f), some (.ref g), none, none, none] ?_ rfl
    refine ⟨.ref p, rfl, p, _, rfl, hp.same (s1.trans s2), ?_⟩
    rw [hla]
    refine ⟨_, rfl, by omega, by omega, ?_⟩
    rw [show ((n : Nat) : Int).toNat = n by omega]
    refine for_range (n := n) (fun i σ H' => Same H H' ∧ ∃ (y4 y5 y6 : Option V) (as : List Addr) (ls : List (List Nat)) (S : Int → Bool) (k : Nat), σ = [some (.ref p), some (.ref o), some (.ref f), some (.ref g), y4, y5, y6] ∧ Rn a b i ls ∧ H' f = some (.lst (as.map V.ref)) ∧ Tups H' as ls ∧ H' g = some (SetO w g S k) ∧ (∀ y : Nat, S (y : Int) = decide (y ∈ ls.flatten)) ∧ k ≤ ls.flatten.length)
      ⟨s1.trans s2, none, none, none, [], [], _, _, rfl, .zero, s2 _ _ e1, .nil, e2, fun y => rfl, Nat.le_refl _⟩ (fun i σ Hi hi hPv => ?_) (fun σ Hi hPv => ?_)
    · obtain ⟨sm, y4, y5, y6, as, ls, S, k, rfl, hR, ef, hT, eg, hS, hk⟩ := hPv
      have hI := hR.inv hA hB (by omega)
      refine st_set [some (.ref p), some (.ref o), some (.ref f), some (.ref g), some (.int ((0 : Int) + (i : Nat))), y5, y6] ?_ rfl
      rw [show (0 : Int) + (i : Nat) = ((i : Nat) : Int) by omega]
      refine ⟨_, rfl, _, rfl, _, g, S, k, rfl, rfl, eg, _, rfl, ite2 (fun c => ?_) (fun c => ?_)⟩
      · have hni : i ∉ ls.flatten := fun hm => by
          have c' : (!S ((i : Nat) : Int)) = true := c
          rw [hS, decide_eq_true hm] at c'
          exact absurd c' (by decide)
        refine ⟨.ref p, rfl, .ref o, rfl, _, rfl, p, o, a, b, n, i, rfl, hp.same sm, ho.same sm, hA, hB, hi, hn, fun H3 t r hr3 s3 nt et => ?_⟩
        have hRn := Rn.new hR hni hr3
        have hIn := hRn.inv hA hB (by omega)
        have hfl := hIn.len
        rw [flat_snoc, List.length_append] at hfl
        have hll := hIn.len'
        rw [List.length_append, List.length_singleton] at hll
        refine st_set [some (.ref p), some (.ref o), some (.ref f), some (.ref g), some (.int ((i : Nat) : Int)), some (.ref t), y6] ?_ rfl
        have ef3 := s3 _ _ ef
        refine ⟨.ref f, rfl, .inl ⟨rfl, _, .inl (.inl ef3)⟩, _, rfl, f, _, _, rfl, rfl, ef3, line_big (by rw [List.length_map, hT.length]; omega), ?_⟩
        have tf : t ≠ f := fun z => by rw [z, ef] at nt; cases nt
        have k4 : Keep f H3 (upd H3 f (.lst (as.map V.ref ++ [.ref t]))) := keep_upd
        have ef4 : (upd H3 f (.lst (as.map V.ref ++ [.ref t]))) f = some (.lst ((as ++ [t]).map V.ref)) := by rw [upd_same, List.map_append]; rfl
        have et4 := k4 _ _ tf et
        have eg4 := k4 _ _ fg.symm (s3 _ _ eg)
        have hT4 := tups_append (tups_keep k4 ef3 (tups_same s3 hT)) (ls := ls) (ms := [r]) (bs := [t]) (.cons et4 .nil)
        have sm4 : Same H (upd H3 f (.lst (as.map V.ref ++ [.ref t]))) := fun y o hy => by rw [upd_ne (ne_of_none hy nf)]; exact s3 _ _ (sm _ _ hy)
        revert ef4 et4 eg4 hT4 sm4
        clear k4
        generalize upd H3 f (.lst (as.map V.ref ++ [.ref t])) = H4
        intro ef4 et4 eg4 hT4 sm4
        refine ⟨.ref t, rfl, t, rfl, ⟨_, .inl (.inl et4)⟩, ?_⟩
        refine for_tup (xs := nv r) (fun j σ H' => Same H H' ∧ H' t = some (.tup (nv r)) ∧ H' f = some (.lst ((as ++ [t]).map V.ref)) ∧ Tups H' (as ++ [t]) (ls ++ [r]) ∧ ∃ (y6 : Option V) (S : Int → Bool) (k : Nat), σ = [some (.ref p), some (.ref o), some (.ref f), some (.ref g), some (.int ((i : Nat) : Int)), some (.ref t), y6] ∧ H' g = some (SetO w g S k) ∧ (∀ y : Nat, S (y : Int) = decide (y ∈ ls.flatten ++ r.take j)) ∧ k ≤ ls.flatten.length + j)
          ⟨sm4, et4, ef4, hT4, y6, S, k, rfl, eg4, fun y => by rw [List.take_zero, List.append_nil]; exact hS y, by omega⟩ (fun j σ H' _ h => .inl (.inl h.2.1)) (fun j v σ H' hv h => ?_) (fun σ H' h => ?_)
        · obtain ⟨sm5, et5, ef5, hT5, y6, S5, k5, rfl, eg5, hS5, hk5⟩ := h
          obtain ⟨u, hu, rfl⟩ := nv_get' hv
          have hj := get_lt hu
          refine st_set [some (.ref p), some (.ref o), some (.ref f), some (.ref g), some (.int ((i : Nat) : Int)), some (.ref t), some (.int u)] ?_ rfl
          refine ⟨.ref g, rfl, ⟨g, S5, k5, rfl, eg5⟩, _, rfl, g, u, S5, k5, rfl, rfl, eg5, by show k5 + 1 < 4096; omega, ?_⟩
          have tg : t ≠ g := fun z => by rw [z, eg5] at et5; cases et5
          refine ⟨fun y o hy => by rw [upd_ne (ne_of_none hy ng0)]; exact sm5 _ _ hy, by rw [upd_ne tg]; exact et5, by rw [upd_ne fg]; exact ef5, tups_upd eg5 hT5, _, _, _, rfl, upd_same, fun y => ?_, by split <;> omega⟩
          show (S5 (y : Int) || decide ((y : Int) = (u : Int))) = _
          rw [hS5, List.take_add_one, hu, ← Bool.decide_or]
          refine decide_eq_decide.mpr ?_
          show _ ∨ _ ↔ y ∈ ls.flatten ++ (r.take j ++ [u])
          rw [← List.append_assoc, List.mem_append (s := ls.flatten ++ r.take j), List.mem_singleton]
          exact or_congr Iff.rfl ⟨fun z => by omega, fun z => by omega⟩
        · obtain ⟨sm5, et5, ef5, hT5, y6, S5, k5, rfl, eg5, hS5, hk5⟩ := h
          rw [nv_length] at hS5 hk5
          refine ⟨sm5, _, _, _, _, _, S5, k5, rfl, hRn, ef5, hT5, eg5, fun y => by rw [hS5, List.take_length, flat_snoc], by rw [flat_snoc, List.length_append]; exact hk5⟩
      · have hm : i ∈ ls.flatten := by
          by_cases z : i ∈ ls.flatten
          · exact z
          · exact absurd (show (!S ((i : Nat) : Int)) = true by rw [hS, decide_eq_false z]; rfl) c
        exact ⟨sm, _, _, _, as, ls, S, k, rfl, .skip hR hm, ef, hT, eg, hS, hk⟩
    · obtain ⟨sm, y4, y5, y6, as, ls, S, k, rfl, hR, ef, hT, eg, hS, hk⟩ := hPv
      exact ⟨.ref f, rfl, q Hi f as ls hR sm nf ef hT⟩
end
end Pc
namespace Pc
/-! ### how many shortest words -/
def bin : Nat → Nat → Nat
  | _, 0 => 1
  | 0, _ + 1 => 0
  | n + 1, k + 1 => bin n k + bin n (k + 1)
theorem bin_zero (n : Nat) : bin n 0 = 1 := by cases n <;> rfl
theorem bin_step : ∀ n k : Nat, (n + 1) * bin n k = bin (n + 1) (k + 1) * (k + 1)
  | 0, 0 => rfl
  | 0, k + 1 => by
    show 1 * 0 = (0 + bin 0 (k + 1 + 1)) * (k + 1 + 1)
    show 1 * 0 = (0 + 0) * (k + 1 + 1)
    simp
  | n + 1, 0 => by
    have h := bin_step n 0
    rw [bin_zero] at h ⊢
    show (n + 1 + 1) * 1 = (bin (n + 1) 0 + bin (n + 1) 1) * (0 + 1)
    rw [bin_zero]
    simp only [Nat.zero_add, Nat.mul_one] at h ⊢
    omega
  | n + 1, k + 1 => by
    have h1 := bin_step n k
    have h2 := bin_step n (k + 1)
    show (n + 1 + 1) * bin (n + 1) (k + 1) = (bin (n + 1) (k + 1) + bin (n + 1) (k + 1 + 1)) * (k + 1 + 1)
    have e : bin (n + 1) (k + 1) = bin n k + bin n (k + 1) := rfl
    rw [Nat.add_mul (bin (n + 1) (k + 1)), ← h2, Nat.mul_add (bin (n + 1) (k + 1)) (k + 1) 1, ← h1, Nat.mul_one, Nat.add_mul (n + 1) 1, Nat.one_mul]
    have e2 : (n + 1) * bin (n + 1) (k + 1) = (n + 1) * bin n k + (n + 1) * bin n (k + 1) := by rw [e, Nat.mul_add]
    omega
def fct : Nat → Nat
  | 0 => 1
  | n + 1 => fct n * (n + 1)
theorem fct_pos : ∀ n, 0 < fct n
  | 0 => by decide
  | n + 1 => Nat.mul_pos (fct_pos n) (Nat.succ_pos n)
theorem fct_mono : ∀ {m n : Nat}, m ≤ n → fct m ≤ fct n
  | m, 0, h => by rw [Nat.le_zero.mp h]; exact Nat.le_refl _
  | m, n + 1, h => by
    by_cases e : m = n + 1
    · rw [e]; exact Nat.le_refl _
    · exact Nat.le_trans (fct_mono (show m ≤ n by omega)) (Nat.le_mul_of_pos_right _ (Nat.succ_pos n))
/-- the program, after j steps -/
def ws (M c h j : Nat) : Nat := M * 2 ^ j * bin (c + j) j * h ^ (j - 1)
theorem ws_div (M c h j : Nat) : ws M c h j * 2 * (c + j + 1) / (j + 1) = M * 2 ^ (j + 1) * bin (c + j + 1) (j + 1) * h ^ (j - 1) := by
  have h1 := bin_step (c + j) j
  have e : ws M c h j * 2 * (c + j + 1) = M * 2 ^ (j + 1) * bin (c + j + 1) (j + 1) * h ^ (j - 1) * (j + 1) := by
    unfold ws
    calc M * 2 ^ j * bin (c + j) j * h ^ (j - 1) * 2 * (c + j + 1) = M * (2 ^ j * 2) * ((c + j + 1) * bin (c + j) j) * h ^ (j - 1) := by ac_rfl
      _ = M * (2 ^ j * 2) * (bin (c + j + 1) (j + 1) * (j + 1)) * h ^ (j - 1) := by rw [h1]
      _ = M * 2 ^ (j + 1) * bin (c + j + 1) (j + 1) * h ^ (j - 1) * (j + 1) := by rw [Nat.pow_succ]; ac_rfl
  rw [e, Nat.mul_div_cancel _ (Nat.succ_pos j)]
theorem ws_one (M c h : Nat) : ws M c h 0 * 2 * (c + 0 + 1) / (0 + 1) = ws M c h 1 := by rw [ws_div]; rfl
theorem ws_more (M c h j : Nat) (hj : 1 ≤ j) : ws M c h j * 2 * (c + j + 1) / (j + 1) * h = ws M c h (j + 1) := by
  rw [ws_div]; unfold ws
  rw [show j + 1 - 1 = (j - 1) + 1 by omega, Nat.pow_succ h (j - 1), ← Nat.mul_assoc, show c + (j + 1) = c + j + 1 by omega]
/-- the law, after t steps -/
def fd (M c t : Nat) : Nat := M * 2 ^ t * bin (c + t) t * fct t
theorem fd_zero (M c : Nat) : fd M c 0 = M := by unfold fd; rw [bin_zero]; show M * 1 * 1 * 1 = M; simp
theorem ws_zero (M c h : Nat) : ws M c h 0 = M := by unfold ws; rw [bin_zero]; show M * 1 * 1 * 1 = M; simp
theorem fd_step (M c t : Nat) : fd M c t * 2 * (c + t + 1) = fd M c (t + 1) := by
  have h1 := bin_step (c + t) t
  unfold fd
  calc M * 2 ^ t * bin (c + t) t * fct t * 2 * (c + t + 1) = M * (2 ^ t * 2) * ((c + t + 1) * bin (c + t) t) * fct t := by ac_rfl
    _ = M * (2 ^ t * 2) * (bin (c + t + 1) (t + 1) * (t + 1)) * fct t := by rw [h1]
    _ = M * 2 ^ (t + 1) * bin (c + (t + 1)) (t + 1) * fct (t + 1) := by rw [Nat.pow_succ, show fct (t + 1) = fct t * (t + 1) from rfl, show c + (t + 1) = c + t + 1 by omega]; ac_rfl
theorem fd_ws (M c h : Nat) : fd M c (h - 1) * h ^ (h - 2) / fct (h - 1) = ws M c h (h - 1) := by
  unfold fd ws
  rw [show M * 2 ^ (h - 1) * bin (c + (h - 1)) (h - 1) * fct (h - 1) * h ^ (h - 2) = M * 2 ^ (h - 1) * bin (c + (h - 1)) (h - 1) * h ^ (h - 1 - 1) * fct (h - 1) by rw [show h - 1 - 1 = h - 2 by omega]; ac_rfl, Nat.mul_div_cancel _ (fct_pos _)]
def wy : List Nat → Nat → Nat → Nat
  | [], M, _ => M
  | h :: hs, M, c => wy hs (ws M c h (h - 1)) (c + (h - 1))
/-- the state in front of the i-th cycle -/
def wyM (hs : List Nat) (i : Nat) : Nat × Nat := (hs.take i).foldl (fun s h => (ws s.1 s.2 h (h - 1), s.2 + (h - 1))) (1, 0)
theorem wyM_step {hs : List Nat} {i h : Nat} (e : hs[i]? = some h) : wyM hs (i + 1) = (ws (wyM hs i).1 (wyM hs i).2 h (h - 1), (wyM hs i).2 + (h - 1)) := by
  unfold wyM; rw [List.take_add_one, e, List.foldl_append]; rfl
def wyE (hs : List Nat) : Nat := (wyM hs hs.length).1
theorem wyM_ones : ∀ (hs : List Nat) (i : Nat), (∀ h ∈ hs, h = 1) → wyM hs i = (1, 0) := by
  intro hs i h
  induction i with
  | zero => rfl
  | succ i ih =>
    cases e : hs[i]? with
    | none =>
      have : hs.take (i + 1) = hs.take i := by rw [List.take_add_one, e]; simp
      unfold wyM at ih ⊢; rw [this]; exact ih
    | some x =>
      rw [wyM_step e, ih, h x (List.mem_of_getElem? e)]
      show (ws 1 0 1 0, 0 + (1 - 1)) = (1, 0)
      rw [ws_zero]
theorem wyM_calls (hs : List Nat) (h : ∀ x ∈ hs, x ≤ 1000) : ∀ i, (wyM hs i).2 ≤ 1000 * i
  | 0 => Nat.le_refl _
  | i + 1 => by
    have ih := wyM_calls hs h i
    cases e : hs[i]? with
    | none =>
      have e1 : hs.take (i + 1) = hs.take i := by rw [List.take_add_one, e]; simp
      have e2 : wyM hs (i + 1) = wyM hs i := by unfold wyM; rw [e1]
      rw [e2]; omega
    | some x =>
      rw [wyM_step e]
      have := h x (List.mem_of_getElem? e)
      show (wyM hs i).2 + (x - 1) ≤ _
      omega
/-! ### laps: even, and the same from the other side -/
theorem LapEnd.even {a b l r : List Nat} {z : Nat} (h : LapEnd a b l z r) : l.length % 2 = 0 → r.length % 2 = 0 := by
  induction h with
  | stop _ => exact id
  | go _ _ ih => intro h; exact ih (by rw [List.length_append]; show (_ + 2) % 2 = 0; omega)
theorem LapEnd.sub {a b : List Nat} {M : List Nat} (ca : ∀ y ∈ M, a.getD y 0 ∈ M) (cb : ∀ y ∈ M, b.getD y 0 ∈ M) {l r : List Nat} {z : Nat} (h : LapEnd a b l z r) : z ∈ M → (∀ y ∈ l, y ∈ M) → ∀ y ∈ r, y ∈ M := by
  induction h with
  | stop _ => intro _ h; exact h
  | go _ _ ih =>
    intro hz hl
    have h1 := ca _ hz
    refine ih (cb _ h1) fun y hy => ?_
    rcases List.mem_append.mp hy with hy | hy
    · exact hl y hy
    · rcases List.mem_cons.mp hy with e | hy
      · rw [e]; exact hz
      · rw [List.mem_singleton.mp hy]; exact h1
theorem lap_other {a b : List Nat} {n x : Nat} (ha : IsPair n a) (hb : IsPair n b) (hx : x < n) {r r' : List Nat} (h : LapEnd a b [] x r) (h' : LapEnd b a [] x r') : r.Perm r' := by
  obtain ⟨i1, m1⟩ := h.lap ha hb (LpI.start hx)
  obtain ⟨i2, m2⟩ := h'.lap hb ha (LpI.start hx)
  have nn : ∀ y ∈ ([] : List Nat), y ∈ r := fun _ h => absurd h List.not_mem_nil
  have nn' : ∀ y ∈ ([] : List Nat), y ∈ r' := fun _ h => absurd h List.not_mem_nil
  refine (List.perm_ext_iff_of_nodup i1.nd i2.nd).mpr fun y => ⟨fun hy => ?_, fun hy => ?_⟩
  · exact h.sub (i2.closed ha m2) i2.ca m2 nn' y hy
  · exact h'.sub (i1.closed hb m1) i1.ca m1 nn y hy
theorem rn_other {a b : List Nat} {n : Nat} (ha : IsPair n a) (hb : IsPair n b) : ∀ (i : Nat) {ls ms : List (List Nat)}, i ≤ n → Rn a b i ls → Rn b a i ms → ls.map List.length = ms.map List.length ∧ ls.flatten.Perm ms.flatten
  | 0, _, _, _, .zero, .zero => ⟨rfl, .refl _⟩
  | i + 1, _, _, hi, .skip h1 m1, .skip h2 m2 => rn_other ha hb i (by omega) h1 h2
  | i + 1, _, _, hi, .skip h1 m1, .new h2 m2 e2 => absurd ((rn_other ha hb i (by omega) h1 h2).2.mem_iff.mp m1) m2
  | i + 1, _, _, hi, .new h1 m1 e1, .skip h2 m2 => absurd ((rn_other ha hb i (by omega) h1 h2).2.mem_iff.mpr m2) m1
  | i + 1, _, _, hi, .new (ls := ls) (r := r) h1 m1 e1, .new (ls := ms) (r := r') h2 m2 e2 => by
    obtain ⟨g1, g2⟩ := rn_other ha hb i (by omega) h1 h2
    have p := lap_other ha hb (by omega) e1 e2
    refine ⟨by rw [List.map_append, List.map_append, g1]; show _ ++ [r.length] = _ ++ [r'.length]; rw [p.length_eq], ?_⟩
    rw [flat_snoc, flat_snoc]; exact g2.append p
theorem rn_self {a : List Nat} {n : Nat} (ha : IsPair n a) : ∀ (i : Nat) {ls : List (List Nat)}, i ≤ n → Rn a a i ls → ∀ l ∈ ls, l.length = 2
  | 0, _, _, .zero => fun _ h => absurd h List.not_mem_nil
  | i + 1, _, hi, .skip h1 _ => rn_self ha i (by omega) h1
  | i + 1, _, hi, .new (ls := ls) (r := r) h1 _ e => by
    intro l hl
    rcases List.mem_append.mp hl with hl | hl
    · exact rn_self ha i (by omega) h1 l hl
    · rw [List.mem_singleton.mp hl]
      obtain ⟨_, _, a3, _⟩ := ha.d (show i < n by omega)
      have h2 : LapEnd a a [] i ([] ++ [i, a.getD i 0]) := .go List.not_mem_nil (.stop (by rw [a3]; exact List.mem_cons_self))
      rw [e.det h2]; rfl
theorem rn_half {a b : List Nat} {n : Nat} (ha : IsPair n a) (hb : IsPair n b) : ∀ (i : Nat) {ls : List (List Nat)}, i ≤ n → Rn a b i ls → ∀ l ∈ ls, 2 ≤ l.length ∧ l.length % 2 = 0
  | 0, _, _, .zero => fun _ h => absurd h List.not_mem_nil
  | i + 1, _, hi, .skip h1 _ => rn_half ha hb i (by omega) h1
  | i + 1, _, hi, .new (ls := ls) (r := r) h1 _ e => by
    intro l hl
    rcases List.mem_append.mp hl with hl | hl
    · exact rn_half ha hb i (by omega) h1 l hl
    · rw [List.mem_singleton.mp hl]
      have h2 := e.even rfl
      have h3 := (e.lap ha hb (LpI.start (show i < n by omega))).2
      have h4 := List.length_pos_of_mem h3
      exact ⟨by omega, h2⟩
def hv (ls : List (List Nat)) : List Nat := ls.map fun l => l.length / 2
theorem hv_of {ls ms : List (List Nat)} (h : ls.map List.length = ms.map List.length) : hv ls = hv ms := by
  have e : ∀ ks : List (List Nat), hv ks = (ks.map List.length).map (· / 2) := fun ks => by unfold hv; rw [List.map_map]; rfl
  rw [e, e, h]
theorem hv_len (ls : List (List Nat)) : (hv ls).length = ls.length := by unfold hv; rw [List.length_map]
theorem hv_get {ls : List (List Nat)} {i : Nat} {l : List Nat} (h : ls[i]? = some l) : (hv ls)[i]? = some (l.length / 2) := by unfold hv; rw [List.getElem?_map, h]; rfl
theorem hv_mem {a b : List Nat} {n : Nat} {ls : List (List Nat)} (ha : IsPair n a) (hb : IsPair n b) (h : Rn a b n ls) : ∀ x ∈ hv ls, 1 ≤ x ∧ x ≤ n / 2 := by
  intro x hx
  unfold hv at hx
  obtain ⟨l, hl, rfl⟩ := List.mem_map.mp hx
  have h1 := rn_half ha hb n (Nat.le_refl _) h l hl
  have h2 := flatL_one hl
  have h3 := (h.inv ha hb (Nat.le_refl _)).len
  omega
theorem wyE_self {a : List Nat} {n : Nat} {ls : List (List Nat)} (ha : IsPair n a) (h : Rn a a n ls) : wyE (hv ls) = 1 := by
  unfold wyE
  rw [wyM_ones]
  intro x hx
  unfold hv at hx
  obtain ⟨l, hl, rfl⟩ := List.mem_map.mp hx
  rw [rn_self ha n (Nat.le_refl _) h l hl]
theorem wyE_other {a b : List Nat} {n : Nat} {ls ms : List (List Nat)} (ha : IsPair n a) (hb : IsPair n b) (h : Rn a b n ls) (h' : Rn b a n ms) : wyE (hv ms) = wyE (hv ls) := by
  rw [hv_of (rn_other ha hb n (Nat.le_refl _) h h').1]
end Pc
namespace Pc
open PySem PySem.Spec PyProof.Rows L2 RZ
theorem room65 {k : Nat} {A : Around} (r : Room k A) : A.units + 65 < cLine := by have := r.un; omega
/-- x *= c, both small -/
def ipMul : TIp := fun x y H Q => ∃ i j, x = .int i ∧ y = .int j ∧ CMul i j ∧ Q (.int (i * j)) H
theorem ip_mul {X : Cx} : PIp X .Mult ipMul := by
  intro pins s σ H x y v u Q I r1 r2 h
  obtain ⟨i, j, e1, e2, hj, q⟩ := h
  subst e1 e2
  obtain ⟨t, rfl⟩ := r1
  obtain ⟨t', rfl⟩ := r2
  exact PyProof.Rows.imul_int ⟨.int _, H, I.tok _, ⟨_, rfl⟩, q⟩ hj.ok
end Pc
namespace Pc
open PySem PySem.Spec PyProof.Rows L2 RZ
theorem rng_nat {m : Nat} (h : m ≤ 1000) : -(2 ^ 62) ≤ (m : Int) ∧ (m : Int) < 2 ^ 62 := ⟨by omega, by omega⟩
section
variable {P : Program} {w : World} {K : PySem.W.Frag} {mg : Str → Option Value} {base : Heap}
/-! ### how many shortest words, by the program -/
def spWays (K : PySem.W.Frag) : Sp := fun vs H Q _ => ∃ (t : Addr) (hs : List Nat), vs = [.ref t] ∧ SqL K H t (nv hs) ∧ (∀ x ∈ hs, 1 ≤ x ∧ x ≤ 1000) ∧ hs.length ≤ 1000 ∧ Q (.int (wyE hs : Nat)) H
theorem ok_p_ways_to_split (T : Env K mg) : FnOk P w K mg base CX0 1 T.f_p_ways_to_split T.d_p_ways_to_split ["sizes"] (spWays K) := by
  refine T.F_p_ways_to_split.ok sc_p_ways_to_split (fun vs H Q E h => ?_) (fun cdv A outer s H vs Q E hr h => ?_)
  · obtain ⟨t, hs, rfl, _⟩ := h
    rfl
  · obtain ⟨t, hs, rfl, ht, hh, hln, q⟩ := h
    refine ⟨_, pss_cons (ps_set (i := 1) sc_p_ways_to_split.nd rfl (.inl rfl) pe_int) <|
      pss_cons (ps_set (i := 2) sc_p_ways_to_split.nd rfl (.inl rfl) pe_int) <|
      pss_cons (ps_for PassesOwn.never rfl (pi_list (pv 0)) (pg_name (i := 3) sc_p_ways_to_split.nd rfl (.inl rfl))
        (pss_one (ps_for PassesOwn.never rfl (pi_range2 (by rfl) T.n_range (pa_cons pe_int (pa_cons (pv 3) pa_nil))) (pg_name (i := 4) sc_p_ways_to_split.nd rfl (.inl rfl))
          (pss_cons (ps_aug (i := 2) sc_p_ways_to_split.nd rfl (.inl rfl) pe_int ip_add) <|
          pss_cons (ps_set (i := 1) sc_p_ways_to_split.nd rfl (.inl rfl) (pe_op op_fdiv (pe_op op_mul (pe_op op_mul (pv 1) pe_int) (pv 2)) (pv 4))) <|
          pss_one (ps_if (pt_cmpR op_gt (pv 4) pe_int (nomark _)) (pss_one (ps_aug (i := 1) sc_p_ways_to_split.nd rfl (.inl rfl) (pv 3) ip_mul)) pss_nil))))) <|
      pss_one (ps_ret (pv 1)), ?_⟩
    refine ⟨.ref t, rfl, t, rfl, ⟨_, ht⟩, ?_⟩
    refine for_list (xs := nv hs) (fun i σ H' => H' = H ∧ ∃ y3 y4 : Option V, σ = [some (.ref t), some (.int ((wyM hs i).1 : Nat)), some (.int ((wyM hs i).2 : Nat)), y3, y4]) ⟨rfl, none, none, rfl⟩ (fun i σ H' _ h => by rw [h.1]; exact ht) (fun i x σ H' hx h => ?_) (fun σ H' h => ?_)
    · obtain ⟨rfl, y3, y4, rfl⟩ := h
      obtain ⟨u, hu, rfl⟩ := nv_get' hx
      obtain ⟨hu1, hu2⟩ := hh u (List.mem_of_getElem? hu)
      obtain ⟨M, hM⟩ : ∃ M, M = (wyM hs i).1 := ⟨_, rfl⟩
      obtain ⟨c, hc⟩ : ∃ c, c = (wyM hs i).2 := ⟨_, rfl⟩
      have hst := wyM_step hu
      have hcl := wyM_calls hs (fun x hx => (hh x hx).2) i
      have hil := get_lt hu
      rw [← hc] at hcl
      rw [← hM, ← hc] at hst ⊢
      rw [hst]
      refine st_set [some (.ref t), some (.int (M : Nat)), some (.int (c : Nat)), some (.int (u : Nat)), y4] ?_ rfl
      refine ⟨_, rfl, 1, u, rfl, ⟨by decide, by decide, by omega, by omega⟩, ?_⟩
      rw [show ((u : Int) - 1).toNat = u - 1 by omega]
      refine for_range (n := u - 1) (fun j σ H2 => H2 = H' ∧ ∃ y4 : Option V, σ = [some (.ref t), some (.int (ws M c u j : Nat)), some (.int ((c + j : Nat) : Int)), some (.int (u : Nat)), y4]) ⟨rfl, y4, by rw [ws_zero]; rfl⟩ (fun j σ H2 hj h2 => ?_) (fun σ H2 h2 => ?_)
      · obtain ⟨rfl, y4, rfl⟩ := h2
        refine st_set [some (.ref t), some (.int (ws M c u j : Nat)), some (.int ((c + j : Nat) : Int)), some (.int (u : Nat)), some (.int ((1 : Int) + (j : Nat)))] ?_ rfl
        refine ⟨_, rfl, _, _, rfl, rfl, ?_⟩
        refine st_eq (t := tSeq _ _) [some (.ref t), some (.int (ws M c u j : Nat)), some (.int ((c + j + 1 : Nat) : Int)), some (.int (u : Nat)), some (.int ((1 : Int) + (j : Nat)))] ?_ (by rw [show ((c + j + 1 : Nat) : Int) = ((c + j : Nat) : Int) + 1 by omega]; rfl)
        refine ⟨_, rfl, _, _, rfl, rfl, .inr ⟨by decide, by decide⟩, _, rfl, _, _, rfl, rfl, .inr ⟨by omega, by omega⟩, _, rfl, _, _, rfl, rfl, ⟨by omega, by omega⟩, ?_⟩
        have ed : ((ws M c u j : Nat) : Int) * 2 * ((c + j + 1 : Nat) : Int) / ((1 : Int) + (j : Nat)) = ((ws M c u j * 2 * (c + j + 1) / (j + 1) : Nat) : Int) := by
          rw [show (1 : Int) + (j : Nat) = ((j + 1 : Nat) : Int) by omega, Int.natCast_ediv, Int.natCast_mul, Int.natCast_mul]; rfl
        refine st_set [some (.ref t), some (.int (ws M c u j * 2 * (c + j + 1) / (j + 1) : Nat)), some (.int ((c + j + 1 : Nat) : Int)), some (.int (u : Nat)), some (.int ((1 : Int) + (j : Nat)))] ?_ (by rw [← ed]; rfl)
        refine ⟨_, rfl, _, _, rfl, rfl, _, rfl, ite2 (fun z => ?_) (fun z => ?_)⟩
        · have hj1 : 1 ≤ j := by have := of_decide_eq_true z; omega
          refine ⟨_, rfl, _, rfl, _, _, rfl, rfl, .inr ⟨by omega, by omega⟩, rfl, some (.int ((1 : Int) + (j : Nat))), ?_⟩
          show [some (V.ref t), some (V.int (((ws M c u j * 2 * (c + j + 1) / (j + 1) : Nat) : Int) * (u : Nat))), some (V.int ((c + j + 1 : Nat) : Int)), some (V.int (u : Nat)), some (V.int ((1 : Int) + (j : Nat)))] = _
          rw [← ws_more M c u j hj1, Int.natCast_mul, show ((c + (j + 1) : Nat) : Int) = ((c + j + 1 : Nat) : Int) by omega]
        · have hj0 : j = 0 := by
            by_cases e : j = 0
            · exact e
            · exact absurd (decide_eq_true (show (1 : Int) + (j : Nat) > 1 by omega)) z
          subst hj0
          exact ⟨rfl, _, by rw [ws_one]⟩
      · obtain ⟨rfl, y4, rfl⟩ := h2
        exact ⟨rfl, _, _, by rfl⟩
    · obtain ⟨rfl, y3, y4, rfl⟩ := h
      rw [nv_length]
      exact ⟨_, rfl, q⟩
end
end Pc
namespace Pc
open PySem PySem.Spec PyProof.Rows L2 RZ
section
variable {P : Program} {w : World} {K : PySem.W.Frag} {mg : Str → Option Value} {base : Heap}
def spWords (K : PySem.W.Frag) : Sp := fun vs H Q _ => ∃ (p q : Addr) (a b : List Nat) (n : Nat), vs = [.ref p, .ref q] ∧ Sq K H p (nv a) ∧ Sq K H q (nv b) ∧ IsPair n a ∧ IsPair n b ∧ n ≤ 500 ∧
  ∀ (H' : Hp) (ls : List (List Nat)), Rn a b n ls → Same H H' → Q (.int (wyE (hv ls) : Nat)) H'
theorem ok_p_words_many (T : Env K mg) : FnOk P w K mg base CX0 3 T.f_p_words_many T.d_p_words_many ["one", "other"] (spWords K) := by
  have GC : FnOk P w K mg base CX0 2 T.f_p_cycles T.d_p_cycles ["one", "other"] (spCycles K) := ok_p_cycles T
  have GW : FnOk P w K mg base CX0 1 T.f_p_ways_to_split T.d_p_ways_to_split ["sizes"] (spWays K) := ok_p_ways_to_split T
  refine T.F_p_words_many.ok sc_p_words_many (fun vs H Q E h => ?_) (fun cdv A outer s H vs Q E hr h => ?_)
  · obtain ⟨p, q, a, b, n, rfl, _⟩ := h
    rfl
  · obtain ⟨p, o, a, b, n, rfl, hp, ho, hA, hB, hn, q⟩ := h
    have h1 := hr.mono (show 1 ≤ 2 by decide)
    refine ⟨_, pss_one (ps_ret (pe_call GW h1 (by rfl) T.g_p_ways_to_split T.F_p_ways_to_split.kp T.b_p_ways_to_split .nil pass0 (pa_cons
      (pe_lc (own := [("cycle", 2)]) (g := gName 2) (tt := tYes) rfl sc_p_words_many.nd (pi_list (pe_call GC hr (by rfl) T.g_p_cycles T.F_p_cycles.kp T.b_p_cycles .nil pass0 (pa_cons (pv 0) (pa_cons (pv 1) pa_nil)))) (blkOk_by (N := N_p_words_many) (sc := defScope s_p_words_many) (by decide +kernel)) (fun _ _ _ _ _ => pg_name (i := 2) sc_p_words_many.nd rfl (.inl rfl)) (fun _ _ _ _ _ => pts_nil)
        (fun _ _ _ _ _ => pe_op op_fdiv (pe_callB (r := fun xs H Q => ∃ p ys, xs = [.ref p] ∧ (SqL K H p ys ∨ SqT K H p ys) ∧ Q (.int ys.length) H) call_len_seq (by rfl) T.n_len PySem.boot_len (pa_cons (pv 2) pa_nil)) pe_int)) pa_nil))), ?_⟩
    refine ⟨.ref p, rfl, .ref o, rfl, p, o, a, b, n, rfl, hp, ho, hA, hB, hn, fun H1 t as ls hR s1 nt et hT => ?_⟩
    have hI := hR.inv hA hB (Nat.le_refl _)
    have hll := hI.len'
    refine ⟨t, rfl, ⟨_, .inl (.inl et)⟩, fun D nD => ?_⟩
    refine lc_list (xs := as.map V.ref) (fun i H' => Same H1 H' ∧ H' D = some (.lst (nv ((hv ls).take i)))) ⟨same_new nD, upd_same⟩ (fun i H' _ h => .inl (.inl (h.1 _ _ et))) (fun i v H' hx h => ?_) (fun H' h => ?_)
    · obtain ⟨sm, eD⟩ := h
      rw [List.getElem?_map] at hx
      obtain ⟨u, hu', rfl⟩ := Option.map_eq_some_iff.mp hx
      obtain ⟨l, el, hu⟩ := tups_get hT hu'
      refine ⟨rfl, yes_if ⟨_, rfl, u, _, rfl, .inr (.inl (.inl (sm _ _ hu))), _, 2, rfl, rfl, ⟨by decide, by decide⟩, _, eD, ?_, fun z o hz => ?_, ?_⟩⟩
      · rw [nv_length]; exact small1000 (Nat.le_trans (List.length_take_le' _ _) (by rw [hv_len]; omega))
      · rw [upd_ne (ne_of_none hz nD)]; exact sm _ _ hz
      · have ed : ((nv l).length : Int) / 2 = ((l.length / 2 : Nat) : Int) := by rw [nv_length]; rfl
        show upd H' D (.lst (nv ((hv ls).take i) ++ [V.int (((nv l).length : Int) / 2)])) D = _
        rw [upd_same, ed, nv_snoc', List.take_add_one, hv_get el]; rfl
    · obtain ⟨sm, eD⟩ := h
      rw [List.length_map, hT.length, ← hv_len, List.take_length] at eD
      exact ⟨D, hv ls, rfl, .inl (.inl eD), fun x hx => by have := hv_mem hA hB hR x hx; omega, by rw [hv_len]; omega, q H' ls hR (s1.trans sm)⟩
end
end Pc
namespace Pc
open PySem PySem.Spec PyProof.Rows L2 RZ
section
variable {P : Program} {w : World} {K : PySem.W.Frag} {mg : Str → Option Value} {base : Heap}
/-! ### the cycles of two pairings, by the law -/
def spRounds (K : PySem.W.Frag) : Sp := fun vs H Q _ => ∃ (p q : Addr) (a b : List Nat) (n : Nat), vs = [.ref p, .ref q] ∧ SqT K H p (nv a) ∧ SqT K H q (nv b) ∧ IsPair n a ∧ IsPair n b ∧ n ≤ 500 ∧
  ∀ (H' : Hp) (t : Addr) (as : List Addr) (ls : List (List Nat)), Rn a b n ls → Same H H' → H t = none → H' t = some (.lst (as.map V.ref)) → Tups H' as ls → Q (.ref t) H'
theorem ok_rounds (T : Env K mg) : FnOk P w K mg base CX0 1 T.f_rounds T.d_rounds ["_law_tie", "_law_mate"] (spRounds K) := by
  refine T.F_rounds.ok sc_rounds (fun vs H Q E h => ?_) (fun cdv A outer s H vs Q E hr h => ?_)
  · obtain ⟨p, q, a, b, n, rfl, _⟩ := h
    rfl
  · obtain ⟨p, o, a, b, n, rfl, hp, ho, hA, hB, hn, q⟩ := h
    refine ⟨_, pss_cons (ps_par (i := 2) (j := 3) (by rfl) sc_rounds.nd rfl rfl (by decide) rfl rfl (pa_cons (pe_lst pa_nil) (pa_cons (pe_lst pa_nil) pa_nil)) (by rfl)) <|
      pss_cons (ps_for PassesOwn.never rfl (pi_range1 (by rfl) T.n_range (pa_cons (pe_callB call_len_seq (by rfl) T.n_len PySem.boot_len (pa_cons (pv 0) pa_nil)) pa_nil)) (pg_name (i := 4) sc_rounds.nd rfl (.inl rfl))
        (pss_one (ps_if (pt_cmpR op_notIn_seq (pv 4) (pv 3) (by rfl))
          (pss_cons (ps_par (i := 5) (j := 6) (by rfl) sc_rounds.nd rfl rfl (by decide) rfl rfl (pa_cons (pe_lst pa_nil) (pa_cons (pv 4) pa_nil)) (by rfl)) <|
          pss_cons (ps_while PassesOwn.never (pt_cmpR op_notIn_seq (pv 6) (pv 5) (by rfl))
            (pss_one (ps_par (i := 5) (j := 6) (by rfl) sc_rounds.nd rfl rfl (by decide) rfl rfl (pa_cons (pe_op op_cat (pv 5) (pe_lst (pa_cons (pv 6) (pa_cons (pe_ix ix_tup (pv 0) (pv 6) (fun _ _ => rfl)) pa_nil)))) (pa_cons (pe_ix ix_tup (pv 1) (pe_ix ix_tup (pv 0) (pv 6) (fun _ _ => rfl)) (fun _ _ => rfl)) pa_nil)) (by rfl)))) <|
          pss_cons (ps_set (i := 3) sc_rounds.nd rfl (.inl rfl) (pe_op op_cat (pv 3) (pv 5))) <|
          pss_one (ps_expr (pe_bm PySem.F.plainAttrs_list PySem.F.slot_list_append PySem.F.type_list_append mt_append (pv 2) (pa_cons (pe_callTy call_tuple_of (by rfl) T.n_tuple (by decide +kernel) (pa_cons (pv 5) pa_nil)) pa_nil)))) pss_nil))) <|
      pss_one (ps_ret (pv 2)), ?_⟩
    have hla : ((nv a).length : Int) = (n : Nat) := by rw [nv_length, hA.len]
    refine ⟨by show 0 ≤ sizeLine; decide, fun f nf => ⟨by show 0 ≤ sizeLine; decide, fun m nm => ⟨_, _, rfl, ?_⟩⟩⟩
    have s1 : Same H (upd H f (.lst [])) := same_new nf
    have s2 : Same (upd H f (.lst [])) (upd (upd H f (.lst [])) m (.lst [])) := same_new nm
    have ef : (upd (upd H f (.lst [])) m (.lst [])) f = some (.lst []) := s2 _ _ upd_same
    have em : (upd (upd H f (.lst [])) m (.lst [])) m = some (.lst (nv [])) := upd_same
    have s3 := s1.trans s2
    revert s3 ef em
    clear s2 nm
    generalize upd (upd H f (.lst [])) m (.lst []) = H1
    intro ef em s3
    refine ⟨.ref p, rfl, p, _, rfl, .inr (same_tup s3 hp), ?_⟩
    rw [hla]
    refine ⟨_, rfl, by omega, by omega, ?_⟩
    rw [show ((n : Nat) : Int).toNat = n by omega]
    refine for_range (n := n) (fun i σ H' => Same H H' ∧ ∃ (y4 y5 y6 : Option V) (as : List Addr) (ls : List (List Nat)) (m : Addr), σ = [some (.ref p), some (.ref o), some (.ref f), some (.ref m), y4, y5, y6] ∧ Rn a b i ls ∧ H' f = some (.lst (as.map V.ref)) ∧ Tups H' as ls ∧ H' m = some (.lst (nv ls.flatten)))
      ⟨s3, none, none, none, [], [], m, rfl, .zero, ef, .nil, em⟩ (fun i σ Hi hi hPv => ?_) (fun σ Hi hPv => ?_)
    · obtain ⟨sm, y4, y5, y6, as, ls, m, rfl, hR, ef, hT, em⟩ := hPv
      have hI := hR.inv hA hB (by omega)
      have hfl0 := hI.len
      refine st_set [some (.ref p), some (.ref o), some (.ref f), some (.ref m), some (.int ((0 : Int) + (i : Nat))), y5, y6] ?_ rfl
      rw [show (0 : Int) + (i : Nat) = ((i : Nat) : Int) by omega]
      refine ⟨_, rfl, _, rfl, m, _, rfl, .inl (.inl (.inl em)), rfl, flat_nat _, _, rfl, ?_⟩
      rw [in_nat]
      refine ite2 (fun c => ?_) (fun c => ?_)
      · have hni : i ∉ ls.flatten := fun hm => by
          have c' : (!decide (i ∈ ls.flatten)) = true := c
          rw [decide_eq_true hm] at c'
          exact absurd c' (by decide)
        refine ⟨by show 0 ≤ sizeLine; decide, fun e ne => ⟨_, rfl, _, _, rfl, ?_⟩⟩
        have t1 : Same Hi (upd Hi e (.lst [])) := same_new ne
        have e0 : (upd Hi e (.lst [])) e = some (.lst (nv [])) := upd_same
        revert t1 e0
        generalize upd Hi e (.lst []) = H2
        intro t1 e0
        refine ⟨fun k σ H' => ∃ (l : List Nat) (z : Nat) (e : Addr), σ = [some (.ref p), some (.ref o), some (.ref f), some (.ref m), some (.int ((i : Nat) : Int)), some (.ref e), some (.int z)] ∧ Same Hi H' ∧ H' e = some (.lst (nv l)) ∧ LpI a b n i l z ∧ (∀ r, LapEnd a b l z r → LapEnd a b [] i r) ∧ n - l.length = k,
          ⟨_, [], i, e, rfl, t1, e0, LpI.start hi, fun r hr => hr, rfl⟩, fun k σ H' hW => ?_⟩
        obtain ⟨l, z, e, rfl, t2, ee, hL, hend, hk⟩ := hW
        have hp' := same_tup (sm.trans t2) hp
        have ho' := same_tup (sm.trans t2) ho
        refine ⟨_, rfl, _, rfl, e, _, rfl, .inl (.inl (.inl ee)), rfl, flat_nat _, _, rfl, ?_⟩
        rw [in_nat]
        refine ite2 (fun c2 => ?_) (fun c2 => ?_)
        · have hz : z ∉ l := fun hm => by
            have c' : (!decide (z ∈ l)) = true := c2
            rw [decide_eq_true hm] at c'
            exact absurd c' (by decide)
          have hroom := hL.room hA hB hz
          obtain ⟨u1, _, _, u4⟩ := hA.d hL.zl
          obtain ⟨v1, _, _, v4⟩ := hB.d u1
          refine ⟨fun σ' H2 => ∃ (l : List Nat) (z : Nat) (e : Addr), σ' = [some (.ref p), some (.ref o), some (.ref f), some (.ref m), some (.int ((i : Nat) : Int)), some (.ref e), some (.int z)] ∧ Same Hi H2 ∧ H2 e = some (.lst (nv l)) ∧ LpI a b n i l z ∧ (∀ r, LapEnd a b l z r → LapEnd a b [] i r) ∧ n - l.length < k,
            fun σ' H2 h2 => ?_, ?_⟩
          · obtain ⟨l', z', e', g1, g2, g3, g4, g5, g6⟩ := h2
            exact ⟨_, g6, l', z', e', g1, g2, g3, g4, g5, rfl⟩
          · refine ⟨.ref e, rfl, _, rfl, .ref p, rfl, _, rfl, p, _, _, _, rfl, rfl, hp', nv_at u4, by show 2 ≤ sizeLine; decide, fun u nu => ?_⟩
            have su : Same H' (upd H' u (.lst [.int (z : Int), .int ((a.getD z 0 : Nat) : Int)])) := same_new nu
            refine ⟨e, u, _, _, rfl, rfl, su _ _ ee, upd_same, ?_, fun v nv' => ?_⟩
            · rw [nv_length]; exact Nat.le_of_lt (line_big (by show l.length + 2 ≤ 100000; omega))
            have sv := su.trans (same_new (o := .lst (nv l ++ [.int (z : Int), .int ((a.getD z 0 : Nat) : Int)])) nv')
            refine ⟨.ref o, rfl, .ref p, rfl, _, rfl, p, _, _, _, rfl, rfl, same_tup sv hp', nv_at u4, o, _, _, _, rfl, rfl, same_tup sv ho', nv_at v4, _, _, rfl, ?_⟩
            refine ⟨l ++ [z, a.getD z 0], _, v, rfl, t2.trans sv, ?_, hL.step hA hB hz, fun r hr => hend r (.go hz hr), by rw [List.length_append, ← hk]; show n - (l.length + 2) < n - l.length; omega⟩
            rw [upd_same]; unfold nv; rw [List.map_append]; rfl
        · have hzl : z ∈ l := by
            by_cases x : z ∈ l
            · exact x
            · exact absurd (show (!decide (z ∈ l)) = true by rw [decide_eq_false x]; rfl) c2
          have hr3 := hend l (.stop hzl)
          have hRn := Rn.new hR hni hr3
          have hIn := hRn.inv hA hB (by omega)
          have hfl := hIn.len
          rw [flat_snoc, List.length_append] at hfl
          have hll := hIn.len'
          rw [List.length_append, List.length_singleton] at hll
          have ef2 := t2 _ _ ef
          refine ⟨.ref m, rfl, .ref e, rfl, m, e, _, _, rfl, rfl, t2 _ _ em, ee, ?_, fun m2 nm2 => ?_⟩
          · rw [nv_length, nv_length]; exact Nat.le_of_lt (line_big (by omega))
          have s5 : Same H' (upd H' m2 (.lst (nv ls.flatten ++ nv l))) := same_new nm2
          have e5 : (upd H' m2 (.lst (nv ls.flatten ++ nv l))) m2 = some (.lst (nv (ls ++ [l]).flatten)) := by rw [upd_same, flat_snoc]; unfold nv; rw [List.map_append]
          have fm : m2 ≠ f := fun z => by rw [z, ef2] at nm2; cases nm2
          revert s5 e5
          generalize upd H' m2 (.lst (nv ls.flatten ++ nv l)) = H5
          intro s5 e5
          refine st_set [some (.ref p), some (.ref o), some (.ref f), some (.ref m2), some (.int ((i : Nat) : Int)), some (.ref e), some (.int z)] ?_ rfl
          have ef5 := s5 _ _ ef2
          refine ⟨.ref f, rfl, .inl ⟨rfl, _, .inl (.inl ef5)⟩, .ref e, rfl, e, _, rfl, .inl ⟨.inl (.inl (s5 _ _ ee)), fun t nt => ?_⟩⟩
          have s6 : Same H5 (upd H5 t (.tup (nv l))) := same_new nt
          have ef6 := s6 _ _ ef5
          have tf : t ≠ f := fun z => by rw [z, ef5] at nt; cases nt
          have tm : m2 ≠ t := ne_of_none e5 nt
          refine ⟨f, _, _, rfl, rfl, ef6, line_big (by rw [List.length_map, hT.length]; omega), ?_⟩
          have k7 : Keep f (upd H5 t (.tup (nv l))) (upd (upd H5 t (.tup (nv l))) f (.lst (as.map V.ref ++ [.ref t]))) := keep_upd
          refine ⟨fun y o hy => ?_, _, _, _, as ++ [t], ls ++ [l], m2, rfl, hRn, ?_, ?_, ?_⟩
          · rw [upd_ne (ne_of_none hy nf)]; exact s6 _ _ (s5 _ _ (t2 _ _ (sm _ _ hy)))
          · rw [upd_same, List.map_append]; rfl
          · exact tups_append (tups_keep k7 ef6 (tups_same ((t2.trans s5).trans s6) hT)) (.cons (k7 _ _ tf upd_same) .nil)
          · exact k7 _ _ fm (s6 _ _ e5)
      · have hm : i ∈ ls.flatten := by
          by_cases z : i ∈ ls.flatten
          · exact z
          · exact absurd (show (!decide (i ∈ ls.flatten)) = true by rw [decide_eq_false z]; rfl) c
        exact ⟨sm, _, _, _, as, ls, m, rfl, .skip hR hm, ef, hT, em⟩
    · obtain ⟨sm, y4, y5, y6, as, ls, m, rfl, hR, ef, hT, em⟩ := hPv
      exact ⟨.ref f, rfl, q Hi f as ls hR sm nf ef hT⟩
end
end Pc
namespace Pc
open PySem PySem.Spec PyProof.Rows L2 RZ
theorem flt_one {l : List Int} {p : Int → Bool} {i : Nat} {u : Int} (h : l[i]? = some u) : (l.take (i + 1)).filter p = (l.take i).filter p ++ (if p u = true then [u] else []) := by
  rw [List.take_add_one, h, List.filter_append]
  show _ ++ List.filter p [u] = _
  by_cases c : p u = true
  · rw [if_pos c, List.filter_cons_of_pos c]; rfl
  · rw [if_neg c, List.filter_cons_of_neg c]; rfl
theorem q_dec {Q : VK} {x y : V} {H : Hp} (e : x = y) (h : Q (.bl true) H) : Q (.bl (decide (x = y))) H := by rw [decide_eq_true e]; exact h
end Pc
namespace Pc
open PySem PySem.Spec PyProof.Rows L2 RZ
/-! ### sum(lists, start): one list after another -/
abbrev IsLx (h : Heap) (l : Addr) (items : Array Value) (n : Nat) : Prop := h.get? l = some { cls := .type "list", dict := none, data := .seq items n, slots := #[] }
def pre (ls : Nat → List Value) (st : List Value) : Nat → List Value
  | 0 => st
  | i + 1 => pre ls st i ++ ls i
theorem args_sum2 (a b : Value) : argsOk "sum" ⟨[a, b], []⟩ := by unfold argsOk; kernel_rfl
theorem sub_list_str : isSubtype (.type "list") (.type "str") = pure false := by rw [isSubtype_type]; kernel_rfl
theorem sub_list_bytes : isSubtype (.type "list") (.type "bytes") = pure false := by rw [isSubtype_type]; kernel_rfl
theorem sub_list_bytearray : isSubtype (.type "list") (.type "bytearray") = pure false := by rw [isSubtype_type]; kernel_rfl
section
variable {prog : Program} {w : World} {A : Around} {R : Result → Shared → Prop} {I : Addr} {fp wr : List Addr} {n : Nat} {P : Nat → Value → Prop} {St : Nat → Heap → Prop}
theorem sumL_loop (W : Walks prog w A.in1 I fp wr n P St) (S : Addr) (hfp : ∀ b ∈ fp, b < S) (h0 : Heap) (ls : Nat → List Value) (st : List Value) (T0 : Addr)
    (hval : ∀ i v, i < n → P i v → ∃ a c, v = .ref a ∧ a ≠ S ∧ a ∉ wr ∧ IsLx h0 a (ls i).toArray c) (hsz : ∀ i, i ≤ n → (pre ls st i).length ≤ sizeLine) :
    ∀ (k i : Nat) (s : Shared) (T cT c : Nat), n - i = k → i ≤ n → St i s.heap → IsLx s.heap S #[.ref T] c → T ≠ S → T ∉ wr → IsLx s.heap T (pre ls st i).toArray cT →
    (∀ b o, b ∉ wr → b ≠ S → h0.get? b = some o → s.heap.get? b = some o) → (i = 0 → T = T0) → (0 < i → S < T) →
    (∀ h' tk T' cT', (∀ b o, b ∉ wr → b ≠ S → h0.get? b = some o → h'.get? b = some o) → IsLx h' T' (pre ls st n).toArray cT' → (n = 0 → T' = T0) → (0 < n → S < T') → R (.ok (.ret (.ref T'))) { s with heap := h', toks := tk }) →
    codeAny (model prog w) A (.builtin "sum.loop" ⟨[.ref I, .ref S, rawInt 2, rawInt 0], []⟩) R s := by
  have hSf : S ∉ fp := fun h => Nat.lt_irrefl _ (hfp _ h)
  have hSw : S ∉ wr := fun h => hSf (W.sub _ h)
  intro k
  induction k with
  | zero =>
    intro i s T cT c hk hi hst hS hTS hTw hT h0k hz hp hR
    have hin : i = n := by omega
    subst hin
    refine codeAny_builtin F.entry_sum_loop ?_
    rw [Around.under_plainId F.plain_sum_loop _]
    show wpAny _ A.in1 (seqItems? (.ref S) >>= _) _ _ s
    refine wpAny_bind (wpAny_seqItems hS rfl ?_)
    show wpAny _ A.in1 (tryCatch (pyNext (.ref I)) _ >>= _) _ _ s
    refine wpAny_bind (wpAny_tryCatch (W.done s _ _ hst fun h' tk hk' => ?_))
    exact wpAny_pure (hR h' tk T cT (fun b o hbw hbS e => hk' b o hbw (h0k b o hbw hbS e)) (hk' T _ hTw hT) hz hp)
  | succ k ih =>
    intro i s T cT c hk hi hst hS hTS hTw hT h0k hz hp hR
    have hlt : i < n := by omega
    refine codeAny_builtin F.entry_sum_loop ?_
    rw [Around.under_plainId F.plain_sum_loop _]
    show wpAny _ A.in1 (seqItems? (.ref S) >>= _) _ _ s
    refine wpAny_bind (wpAny_seqItems hS rfl ?_)
    show wpAny _ A.in1 (tryCatch (pyNext (.ref I)) _ >>= _) _ _ s
    refine wpAny_bind (wpAny_tryCatch (W.item i s _ _ hlt hst fun v h' tk hP hst' hk' => ?_))
    obtain ⟨a, ca, rfl, haS, haw, ha⟩ := hval i v hlt hP
    have hS' := hk' S _ hSw hS
    have hT' := hk' T _ hTw hT
    have ha' := hk' a _ haw (h0k a _ haw haS ha)
    have hSs : S < h'.objs.size := Heap.lt_size hS'
    have hadd := hsz (i + 1) (by omega)
    have hadd' : (pre ls st i).toArray.size + (ls i).toArray.size ≤ sizeLine := by
      have e : (pre ls st (i + 1)).length = (pre ls st i).length + (ls i).length := by show (pre ls st i ++ ls i).length = _; rw [List.length_append]
      rw [List.size_toArray, List.size_toArray, ← e]; exact hadd
    show wpAny _ A.in1 ((holding [Value.ref a] (binaryOp .Add (.ref T) (.ref a))).attempt >>= _) _ _ _
    refine wpAny_bind (wpAny_attempt (wpAny_holding (PySem.P.add_list (s := { s with heap := h', toks := tk }) hT' ha' ?_ hadd')))
    have hS2 := Heap.get?_push_of_some { cls := .type "list", data := .seq ((pre ls st i).toArray ++ (ls i).toArray) } hS'
    show wpAny _ A.in1 (updateSeq S (fun _ => #[.ref h'.objs.size]) >>= _) _ _ _
    refine wpAny_bind ?_
    refine wpAny_updateSeq hS2 rfl ?_
    have hS3 := Heap.get?_update_self (Obj.mapSeq fun _ => #[Value.ref h'.objs.size]) hS2 rfl
    refine wpAny_bind (wpAny_letGo ?_)
    refine wpAny_bind ?_
    have hoth : ∀ b o, b ≠ S → (h'.push { cls := .type "list", data := .seq ((pre ls st i).toArray ++ (ls i).toArray) }).get? b = some o →
        (((h'.push { cls := .type "list", data := .seq ((pre ls st i).toArray ++ (ls i).toArray) }).update S (Obj.mapSeq fun _ => #[Value.ref h'.objs.size])).update S (Obj.mapSeq fun _ => #[Value.ref h'.objs.size])).get? b = some o := fun b o hb e =>
      (Heap.get?_update_other _ _ (Ne.symm hb)).trans ((Heap.get?_update_other _ _ (Ne.symm hb)).trans e)
    refine wpAny_updateSeq hS3 rfl (wpAny_pure ⟨plainId_quiet F.plain_sum_loop _, ih (i + 1) _ h'.objs.size 0 _ (by omega) hlt (W.frame _ _ _ hst' fun b hb o e => ?_) (Heap.get?_update_self _ hS3 rfl) (Nat.ne_of_gt hSs) ?_ ?_ ?_ (fun e => absurd e (by omega)) (fun _ => hSs) fun h'' tk'' T'' cT'' g1 g2 g3 g4 => hR h'' tk'' T'' cT'' g1 g2 g3 g4⟩)
    · exact hoth b o (fun h : b = S => hSf (by rw [← h]; exact hb)) (Heap.get?_push_of_some _ e)
    · intro hw
      exact Nat.lt_irrefl _ (Nat.lt_trans (hfp _ (W.sub _ hw)) hSs)
    · refine hoth _ _ (Nat.ne_of_gt hSs) ?_
      have ea : (pre ls st i).toArray ++ (ls i).toArray = (pre ls st (i + 1)).toArray := by show _ = (pre ls st i ++ ls i).toArray; simp
      rw [ea]; exact Heap.get?_push_size _ rfl
    · intro b o hbw hbS e
      exact hoth b o hbS (Heap.get?_push_of_some _ (hk' b o hbw (h0k b o hbw hbS e)))
end
section
variable {prog : Program} {w : World} {A : Around} {E : Value → Shared → Prop} {s : Shared}
theorem call_sumL {l p0 : Addr} {its : List Value} {Q : Value → Shared → Prop} (hh : A.handled = none) (hl : s.heap.IsList l its.toArray) (ls : Nat → List Value) (st : List Value) (c0 : Nat) (hp0 : IsLx s.heap p0 st.toArray c0)
    (hval : ∀ i v, its[i]? = some v → ∃ a c, v = .ref a ∧ IsLx s.heap a (ls i).toArray c) (hsz : ∀ i, i ≤ its.length → (pre ls st i).length ≤ sizeLine)
    (h : ∀ h' tk T' cT', (∀ b o, s.heap.get? b = some o → h'.get? b = some o) → IsLx h' T' (pre ls st its.length).toArray cT' → (its.length = 0 → T' = p0) → (0 < its.length → s.heap.objs.size ≤ T') → Q (.ref T') { s with heap := h', toks := tk }) :
    wpAny (model prog w) A (call (.builtin "sum") [.ref l, .ref p0]) Q E s := by
  refine call_function_tree F.kind_sum F.plain_sum F.entry_sum (args_sum2 _ _) ?_
  unfold Builtin.«sum»
  simp only [List.length_cons, List.length_nil]
  rw [if_neg (by decide)]
  refine wpAny_bind (wpAny_of_eq (show Builtin.Builtins.bindParams "sum" ["start"] 0 ⟨[.ref p0], []⟩ = pure [some (.ref p0)] from rfl) ?_)
  have hlt : l < s.heap.objs.size := by obtain ⟨_, e, _⟩ := hl; exact Heap.lt_size e
  refine wpAny_bind (wpAny_pyIter_list hl ?_)
  refine wpAny_bind (wpAny_pure ?_)
  have hp1 := Heap.get?_push_of_some { cls := .type "list_iterator", data := .fields #[.ref l, .int 0 0] } hp0
  have tI : Shared.TypeIs { s with heap := s.heap.push { cls := .type "list_iterator", data := .fields #[.ref l, .int 0 0] } } (.ref p0) "list" := ⟨_, hp1, rfl⟩
  simp only [List.forIn_cons, List.forIn_nil]
  refine wpAny_bind (wpAny_bind (wpAny_bind (wpAny_isInstance (T := "list") (b := false) tI sub_list_str ?_)))
  simp only [Bool.false_eq_true, if_false]
  refine wpAny_pure (wpAny_bind (wpAny_bind (wpAny_isInstance (T := "list") (b := false) tI sub_list_bytes ?_)))
  simp only [Bool.false_eq_true, if_false]
  refine wpAny_pure (wpAny_bind (wpAny_bind (wpAny_isInstance (T := "list") (b := false) tI sub_list_bytearray ?_)))
  simp only [Bool.false_eq_true, if_false]
  refine wpAny_pure (wpAny_pure ?_)
  refine wpAny_bind (wpAny_newObj_type ?_)
  have hlI : l ≠ s.heap.objs.size := Nat.ne_of_lt hlt
  have W := Walks.list (prog := prog) (w := w) (A := A.in1) hh s.heap.objs.size l hlI its.toArray
  have hsz1 : (s.heap.push { cls := .type "list_iterator", data := .fields #[.ref l, .int 0 0] }).objs.size = s.heap.objs.size + 1 := Heap.size_push _ _
  refine wpAny_pure ⟨plainId_quiet F.plain_sum_loop _, sumL_loop W _ (fun b hb => ?_) s.heap ls st p0 (fun i v hi hv => ?_) (fun i hi => hsz i (by rw [List.size_toArray] at hi; exact hi)) its.toArray.size 0 _ p0 c0 0 rfl (Nat.zero_le _) ?_ (Heap.get?_push_size _ rfl) ?_ ?_ ?_ ?_ (fun _ => rfl) (fun e => absurd e (Nat.lt_irrefl _)) fun h' tk T' cT' g1 g2 g3 g4 => ?_⟩
  · rw [hsz1]
    rcases List.mem_cons.mp hb with e | hb
    · rw [e]; exact Nat.lt_succ_self _
    · rw [List.mem_singleton.mp hb]; exact Nat.lt_succ_of_lt hlt
  · have hv' : its[i]? = some v := by simpa using hv
    obtain ⟨a, c, e, ha⟩ := hval i v hv'
    have hal := Heap.lt_size ha
    refine ⟨a, c, e, ?_, ?_, ha⟩
    · rw [hsz1]; exact Nat.ne_of_lt (Nat.lt_succ_of_lt hal)
    · intro hm; exact Nat.ne_of_lt hal (List.mem_singleton.mp hm)
  · refine W.frame 0 _ _ (show _ ∧ _ from ⟨⟨_, Heap.get?_push_size _ rfl, rfl, rfl⟩, hl.push _⟩) fun b _ o e => Heap.get?_push_of_some _ e
  · rw [hsz1]; exact Nat.ne_of_lt (Nat.lt_succ_of_lt (Heap.lt_size hp0))
  · intro hm; exact Nat.ne_of_lt (Heap.lt_size hp0) (List.mem_singleton.mp hm)
  · exact Heap.get?_push_of_some _ hp1
  · intro b o _ _ e; exact Heap.get?_push_of_some _ (Heap.get?_push_of_some _ e)
  · rw [List.size_toArray] at g2 g3 g4
    rw [hsz1] at g4
    refine h h' tk T' cT' (fun b o e => g1 b o (fun hm => ?_) ?_ e) g2 g3 (fun e => Nat.le_of_lt (Nat.lt_of_succ_lt (g4 e)))
    · exact Nat.ne_of_lt (Heap.lt_size e) (List.mem_singleton.mp hm)
    · rw [hsz1]; exact Nat.ne_of_lt (Nat.lt_succ_of_lt (Heap.lt_size e))
end
end Pc
namespace Pc
open PySem PySem.Spec PyProof.Rows L2 RZ
/-! ### sum(lists, start), as a rule -/
def Lsts (H : Hp) (as : List Addr) (xss : List (List V)) : Prop := Paired (fun a xs => H a = some (.lst xs)) as xss
theorem pre_take (vss : List (List Value)) (st : List Value) : ∀ i, i ≤ vss.length → pre (fun i => vss.getD i []) st i = st ++ (vss.take i).flatten
  | 0, _ => by simp [pre]
  | i + 1, h => by
    show pre (fun i => vss.getD i []) st i ++ vss.getD i [] = _
    rw [pre_take vss st i (by omega), List.take_add_one, List.getD_eq_getElem?_getD, List.getElem?_eq_getElem (show i < vss.length by omega), List.flatten_append, List.append_assoc]
    show _ ++ (_ ++ vss[i]) = _ ++ (_ ++ [vss[i]].flatten)
    rw [List.flatten_cons, List.flatten_nil, List.append_nil]
theorem flat_take_le (vss : List (List Value)) (i : Nat) : (vss.take i).flatten.length ≤ vss.flatten.length := by
  have e : vss.flatten = (vss.take i).flatten ++ (vss.drop i).flatten := by rw [← List.flatten_append, List.take_append_drop]
  rw [e, List.length_append]; omega
theorem lsts_vals {X : Cx} {pins : List (Addr × Obj)} {σ : L2.St} {H : Hp} {s : Shared} (I : Inv X pins σ H s) : ∀ {as : List Addr} {xss : List (List V)}, Lsts H as xss →
    ∃ vss : List (List Value), vss.length = as.length ∧ (∀ i b, as[i]? = some b → ∃ c, IsLx s.heap b (vss.getD i []).toArray c) ∧ Vals xss.flatten vss.flatten
  | [], _, .nil => ⟨[], rfl, fun i b h => by simp at h, .nil⟩
  | _ :: _, _, .cons h r => by
    obtain ⟨vss, e1, e2, e3⟩ := lsts_vals I r
    obtain ⟨_, its, n, rv, _, e⟩ := I.lstM h
    refine ⟨its :: vss, by rw [List.length_cons, List.length_cons, e1], fun i b hb => ?_, ?_⟩
    · cases i with
      | zero => cases Option.some.inj hb; exact ⟨n, e⟩
      | succ i => obtain ⟨c, hc⟩ := e2 i b hb; exact ⟨c, hc⟩
    · rw [List.flatten_cons, List.flatten_cons]; exact rv.append e3
def rSumL (K : PySem.W.Frag) : List V → Hp → VK → Prop := fun vs H Q => ∃ (a p0 : Addr) (as : List Addr) (xss : List (List V)) (st : List V), vs = [.ref a, .ref p0] ∧ SqL K H a (as.map V.ref) ∧ H p0 = some (.lst st) ∧ Lsts H as xss ∧ st.length + xss.flatten.length ≤ sizeLine ∧
  ∀ (H' : Hp) (r : Addr), Same H H' → (r = p0 ∨ H r = none) → H' r = some (.lst (st ++ xss.flatten)) → Q (.ref r) H'
theorem cr_sumL {X : Cx} (hc : X.calm = true) : CallR X (.builtin "sum") (rSumL X.K) := by
  intro pins s σ H vs us Q I r h
  obtain ⟨a, p0, as, xss, st, rfl, hs, hp0, hL, hz, q⟩ := h
  obtain ⟨its, rv, hl, _⟩ := I.list hs
  obtain ⟨vss, e1, e2, e3⟩ := lsts_vals I hL
  obtain ⟨_, sv, c0, rs, _, ep⟩ := I.lstM hp0
  obtain ⟨u, u', rfl, r1, r2⟩ := vals2 r
  cases r1
  cases r2
  have hlen : its.length = vss.length := by rw [← rv.length, List.length_map, e1]
  have hall : Vals (st ++ xss.flatten) (sv ++ vss.flatten) := rs.append e3
  have hfl : vss.flatten.length = xss.flatten.length := e3.length.symm
  have hst : sv.length = st.length := rs.length.symm
  have hend : pre (fun i => vss.getD i []) sv its.length = sv ++ vss.flatten := by rw [pre_take vss sv _ (by omega), hlen, List.take_length]
  refine call_sumL (I.ok.hd hc) hl.isList (fun i => vss.getD i []) sv c0 ep (fun i v hv => ?_) (fun i hi => ?_) fun h' tk T' cT' k1 k2 k3 k4 => ?_
  · rw [refs_at rv, List.getElem?_map] at hv
    obtain ⟨b, hb, rfl⟩ := Option.map_eq_some_iff.mp hv
    obtain ⟨c, hc'⟩ := e2 i b hb
    exact ⟨b, c, rfl, hc'⟩
  · rw [pre_take vss sv i (by omega), List.length_append]
    have := flat_take_le vss i
    omega
  · rw [hend] at k2
    by_cases h0 : its.length = 0
    · have hv0 : vss = [] := List.length_eq_zero_iff.mp (by omega)
      have hx0 : xss.flatten = [] := List.length_eq_zero_iff.mp (by rw [← hfl, hv0]; rfl)
      rw [k3 h0]
      exact ⟨.ref p0, H, I.kept k1, rfl, q H p0 (fun _ _ z => z) (.inl rfl) (by rw [hx0, List.append_nil]; exact hp0)⟩
    · have h1 := k4 (Nat.pos_of_ne_zero h0)
      have hn : H T' = none := I.hok.fresh h1
      refine ⟨.ref T', upd H T' (.lst (st ++ xss.flatten)), I.laid (t' := tk) k1 h1 ⟨by rw [List.length_append]; exact hz, sv ++ vss.flatten, cT', hall, k2⟩, rfl, q _ T' (same_new hn) (.inr hn) upd_same⟩
end Pc
namespace Pc
open PySem PySem.Spec PyProof.Rows L2 RZ
section
variable {P : Program} {w : World} {K : PySem.W.Frag} {mg : Str → Option Value} {base : Heap}
/-! ### numbers of people that differ -/
def spCheckSizesX (C : Addr) : Sp := fun vs H _ E => ∃ m n : Int, vs = [.int m, .int n] ∧ m ≠ n ∧ Flies C "size" (.int n) H E
theorem okx_p_check_sizes (T : Env K mg) : FnOk P w K mg base (L2.CX P w) 3 T.f_p_check_sizes T.d_p_check_sizes ["first", "second"] (spCheckSizesX T.C_OtherSize) := by
  refine T.F_p_check_sizes.okX sc_p_check_sizes (fun vs H Q E h => ?_) (fun cdv A outer s H vs Q E hr h => ?_)
  · obtain ⟨m, n, rfl, _⟩ := h
    rfl
  · obtain ⟨m, n, rfl, hmn, hF⟩ := h
    refine ⟨_, pss_one (ps_if (pt_cmpR op_ne (pv 0) (pv 1) (nomark _)) (pss_one (ps_raise rfl (takes_of rfl rfl rfl rfl) (pmk_e T.own_OtherSize bsV.fb T.iC_OtherSize T.tI_OtherSize (ok_i_OtherSize T) hr T.b_i_OtherSize pass0 (by rfl) T.gC_OtherSize (pa_cons (pv 1) pa_nil)))) pss_nil), ?_⟩
    refine ⟨_, rfl, _, rfl, rfl, _, rfl, ite2 (fun c => ?_) (fun c => ?_)⟩
    · exact ⟨_, rfl, raised1 hF⟩
    · exact absurd (show (!decide (V.int m = V.int n)) = true by rw [decide_eq_false (fun z => hmn (V.int.inj z))]; rfl) c
end
end Pc
namespace Pc
open PySem PySem.Spec PyProof.Rows L2 RZ
section
variable {P : Program} {w : World} {K : PySem.W.Frag} {mg : Str → Option Value} {base : Heap}
/-! ### two pairings of different sizes -/
def OT (K : PySem.W.Frag) (C : Addr) (a b : Addr) (H : Hp) (E : XK) : Prop := ∃ (f g : List Nat), Sq K H a (nv f) ∧ Sq K H b (nv g) ∧ f.length ≠ g.length ∧ Flies C "size" (.int (g.length : Nat)) H E
theorem OT.same {C a b : Addr} {H H' : Hp} {E : XK} (h : OT K C a b H E) (s : Same H H') : OT K C a b H' E := by
  obtain ⟨f, g, ha, hb, hmn, hF⟩ := h
  exact ⟨f, g, ha.same s, hb.same s, hmn, hF.same s⟩
def spT2 (K : PySem.W.Frag) (C : Addr) : Sp := fun vs H _ E => ∃ a b : Addr, vs = [.ref a, .ref b] ∧ OT K C a b H E
def spT3 (K : PySem.W.Frag) (C : Addr) : Sp := fun vs H _ E => ∃ (a b : Addr) (x : V), vs = [.ref a, .ref b, x] ∧ OT K C a b H E
theorem okx_p_cycles (T : Env K mg) : FnOk P w K mg base (L2.CX P w) 4 T.f_p_cycles T.d_p_cycles ["one", "other"] (spT2 K T.C_OtherSize) := by
  have GC : FnOk P w K mg base (L2.CX P w) 3 T.f_p_check_sizes T.d_p_check_sizes ["first", "second"] (spCheckSizesX T.C_OtherSize) := okx_p_check_sizes T
  refine T.F_p_cycles.okX sc_p_cycles (fun vs H Q E h => ?_) (fun cdv A outer s H vs Q E hr h => ?_)
  · obtain ⟨a, b, rfl, _⟩ := h
    rfl
  · obtain ⟨a, b, rfl, f, g, ha, hb, hmn, hF⟩ := h
    refine ⟨_, pss_cons (ps_expr (pe_callS GC hr (by rfl) T.g_p_check_sizes T.F_p_check_sizes.kp T.b_p_check_sizes (fun σ => passAt (takes_of rfl rfl rfl rfl) σ) (pa_cons (pe_callB call_len_seq (by rfl) T.n_len PySem.boot_len (pa_cons (pv 0) pa_nil)) (pa_cons (pe_callB call_len_seq (by rfl) T.n_len PySem.boot_len (pa_cons (pv 1) pa_nil)) pa_nil)))) pss_never, ?_⟩
    exact ⟨.ref a, rfl, a, _, rfl, ha, .ref b, rfl, b, _, rfl, hb, _, _, (by rw [nv_length, nv_length]), by omega, hF⟩
theorem okx_p_leads (T : Env K mg) : FnOk P w K mg base (L2.CX P w) 4 T.f_p_leads T.d_p_leads ["one", "other", "value"] (spT3 K T.C_OtherSize) := by
  have GC : FnOk P w K mg base (L2.CX P w) 3 T.f_p_check_sizes T.d_p_check_sizes ["first", "second"] (spCheckSizesX T.C_OtherSize) := okx_p_check_sizes T
  refine T.F_p_leads.okX sc_p_leads (fun vs H Q E h => ?_) (fun cdv A outer s H vs Q E hr h => ?_)
  · obtain ⟨a, b, x, rfl, _⟩ := h
    rfl
  · obtain ⟨a, b, x, rfl, f, g, ha, hb, hmn, hF⟩ := h
    refine ⟨_, pss_cons (ps_expr (pe_callS GC hr (by rfl) T.g_p_check_sizes T.F_p_check_sizes.kp T.b_p_check_sizes (fun σ => passAt (takes_of rfl rfl rfl rfl) σ) (pa_cons (pe_callB call_len_seq (by rfl) T.n_len PySem.boot_len (pa_cons (pv 0) pa_nil)) (pa_cons (pe_callB call_len_seq (by rfl) T.n_len PySem.boot_len (pa_cons (pv 1) pa_nil)) pa_nil)))) pss_never, ?_⟩
    exact ⟨.ref a, rfl, a, _, rfl, ha, .ref b, rfl, b, _, rfl, hb, _, _, (by rw [nv_length, nv_length]), by omega, hF⟩
theorem okx_p_distance (T : Env K mg) : FnOk P w K mg base (L2.CX P w) 5 T.f_p_distance T.d_p_distance ["one", "other"] (spT2 K T.C_OtherSize) := by
  have GC : FnOk P w K mg base (L2.CX P w) 4 T.f_p_cycles T.d_p_cycles ["one", "other"] (spT2 K T.C_OtherSize) := okx_p_cycles T
  refine T.F_p_distance.okX sc_p_distance (fun vs H Q E h => ?_) (fun cdv A outer s H vs Q E hr h => ?_)
  · obtain ⟨a, b, rfl, _⟩ := h
    rfl
  · obtain ⟨a, b, rfl, hO⟩ := h
    obtain ⟨f, g, ha, hb, hmn, hF⟩ := id hO
    refine ⟨_, pss_one (ps_ret (pe_op op_sub (pe_op op_fdiv (pe_callB call_len_seq (by rfl) T.n_len PySem.boot_len (pa_cons (pv 0) pa_nil)) pe_int) (pe_callB call_len_seq (by rfl) T.n_len PySem.boot_len (pa_cons (pe_callS GC hr (by rfl) T.g_p_cycles T.F_p_cycles.kp T.b_p_cycles (fun σ => passAt (takes_of rfl rfl rfl rfl) σ) (pa_cons (pv 0) (pa_cons (pv 1) pa_nil))) pa_nil)))), ?_⟩
    exact ⟨.ref a, rfl, a, _, rfl, ha, _, 2, rfl, rfl, ⟨by decide, by decide⟩, .ref a, rfl, .ref b, rfl, a, b, rfl, hO⟩
theorem okx_p_words_many (T : Env K mg) : FnOk P w K mg base (L2.CX P w) 5 T.f_p_words_many T.d_p_words_many ["one", "other"] (spT2 K T.C_OtherSize) := by
  have GC : FnOk P w K mg base (L2.CX P w) 4 T.f_p_cycles T.d_p_cycles ["one", "other"] (spT2 K T.C_OtherSize) := okx_p_cycles T
  have GW : FnOk P w K mg base CX0 1 T.f_p_ways_to_split T.d_p_ways_to_split ["sizes"] (spWays K) := ok_p_ways_to_split T
  refine T.F_p_words_many.okX sc_p_words_many (fun vs H Q E h => ?_) (fun cdv A outer s H vs Q E hr h => ?_)
  · obtain ⟨a, b, rfl, _⟩ := h
    rfl
  · obtain ⟨a, b, rfl, hO⟩ := h
    refine ⟨_, pss_one (ps_ret (pe_call GW (hr.mono (by decide)) (by rfl) T.g_p_ways_to_split T.F_p_ways_to_split.kp T.b_p_ways_to_split .nil pass0 (pa_cons
      (pe_lc (own := [("cycle", 2)]) (g := gName 2) (tt := tYes) rfl sc_p_words_many.nd (pi_list (pe_callS GC hr (by rfl) T.g_p_cycles T.F_p_cycles.kp T.b_p_cycles (fun σ => passAt (takes_of rfl rfl rfl rfl) σ) (pa_cons (pv 0) (pa_cons (pv 1) pa_nil)))) (blkOk_by (N := N_p_words_many) (sc := defScope s_p_words_many) (by decide +kernel)) (fun _ _ _ _ _ => pg_name (i := 2) sc_p_words_many.nd rfl (.inl rfl)) (fun _ _ _ _ _ => pts_nil)
        (fun _ _ _ _ _ => pe_op op_fdiv (pe_callB (r := fun xs H Q => ∃ p ys, xs = [.ref p] ∧ (SqL K H p ys ∨ SqT K H p ys) ∧ Q (.int ys.length) H) call_len_seq (by rfl) T.n_len PySem.boot_len (pa_cons (pv 2) pa_nil)) pe_int)) pa_nil))), ?_⟩
    exact ⟨.ref a, rfl, .ref b, rfl, a, b, rfl, hO⟩
theorem okx_p_word_at (T : Env K mg) : FnOk P w K mg base (L2.CX P w) 6 T.f_p_word_at T.d_p_word_at ["one", "other", "number"] (spT3 K T.C_OtherSize) := by
  have GW : FnOk P w K mg base (L2.CX P w) 5 T.f_p_words_many T.d_p_words_many ["one", "other"] (spT2 K T.C_OtherSize) := okx_p_words_many T
  refine T.F_p_word_at.okX sc_p_word_at (fun vs H Q E h => ?_) (fun cdv A outer s H vs Q E hr h => ?_)
  · obtain ⟨a, b, x, rfl, _⟩ := h
    rfl
  · obtain ⟨a, b, x, rfl, hO⟩ := h
    refine ⟨_, pss_cons (ps_set (i := 3) sc_p_word_at.nd rfl (by first | exact .inl rfl | exact .inr rfl) (pe_callS GW hr (by rfl) T.g_p_words_many T.F_p_words_many.kp T.b_p_words_many (fun σ => passAt (takes_of rfl rfl rfl rfl) σ) (pa_cons (pv 0) (pa_cons (pv 1) pa_nil)))) pss_never, ?_⟩
    exact ⟨.ref a, rfl, .ref b, rfl, a, b, rfl, hO⟩
/-! ### distance -/
def spDist (K : PySem.W.Frag) : Sp := fun vs H Q _ => ∃ (p q : Addr) (a b : List Nat) (n : Nat), vs = [.ref p, .ref q] ∧ Sq K H p (nv a) ∧ Sq K H q (nv b) ∧ IsPair n a ∧ IsPair n b ∧ n ≤ 500 ∧
  ∀ (H' : Hp) (ls : List (List Nat)), Rn a b n ls → Same H H' → Q (.int (((n / 2 : Nat) : Int) - (ls.length : Nat))) H'
theorem ok_p_distance (T : Env K mg) : FnOk P w K mg base CX0 3 T.f_p_distance T.d_p_distance ["one", "other"] (spDist K) := by
  have GC : FnOk P w K mg base CX0 2 T.f_p_cycles T.d_p_cycles ["one", "other"] (spCycles K) := ok_p_cycles T
  refine T.F_p_distance.ok sc_p_distance (fun vs H Q E h => ?_) (fun cdv A outer s H vs Q E hr h => ?_)
  · obtain ⟨p, q, a, b, n, rfl, _⟩ := h
    rfl
  · obtain ⟨p, o, a, b, n, rfl, hp, ho, hA, hB, hn, q⟩ := h
    refine ⟨_, pss_one (ps_ret (pe_op op_sub (pe_op op_fdiv (pe_callB call_len_seq (by rfl) T.n_len PySem.boot_len (pa_cons (pv 0) pa_nil)) pe_int) (pe_callB call_len_seq (by rfl) T.n_len PySem.boot_len (pa_cons (pe_call GC hr (by rfl) T.g_p_cycles T.F_p_cycles.kp T.b_p_cycles .nil pass0 (pa_cons (pv 0) (pa_cons (pv 1) pa_nil))) pa_nil)))), ?_⟩
    refine ⟨.ref p, rfl, p, _, rfl, hp, _, 2, rfl, rfl, ⟨by decide, by decide⟩, .ref p, rfl, .ref o, rfl, p, o, a, b, n, rfl, hp, ho, hA, hB, hn, fun H1 t as ls hR s1 nt et hT => ?_⟩
    refine ⟨t, _, rfl, .inl (.inl (.inl et)), _, _, rfl, rfl, ?_⟩
    have e1 : ((nv a).length : Int) / 2 = ((n / 2 : Nat) : Int) := by rw [nv_length, hA.len]; rfl
    have e2 : ((as.map V.ref).length : Int) = (ls.length : Nat) := by rw [List.length_map, hT.length]
    show Q (.int (((nv a).length : Int) / 2 - ((as.map V.ref).length : Int))) H1
    rw [e1, e2]
    exact q H1 ls hR s1
end
end Pc
namespace Pc
open PySem PySem.Spec PyProof.Rows L2 RZ
section
variable {P : Program} {w : World} {K : PySem.W.Frag} {mg : Str → Option Value} {base : Heap}
def spSized40 (K : PySem.W.Frag) : Sp := fun vs H Q _ => ∃ (i : Int) (a b : Addr) (f g : List Nat), vs = [.int i, .ref a, .ref b] ∧ Sq K H a (nv f) ∧ Sq K H b (nv g) ∧ f.length ≠ g.length ∧ 0 ≤ i ∧ i < 5 ∧ ∀ H', Same H H' → Q (.int (g.length : Nat)) H'
theorem ok_sized (T : Env K mg) : FnOk P w K mg base CX0 7 T.f_sized T.d_sized ["_law_door", "_law_tie", "_law_mate"] (spSized40 K) := by
  have GL : FnOk P w K mg base (L2.CX P w) 6 T.f_p_leads T.d_p_leads ["one", "other", "value"] (spT3 K T.C_OtherSize) := (okx_p_leads T).mono (by decide)
  have GA : FnOk P w K mg base (L2.CX P w) 6 T.f_p_word_at T.d_p_word_at ["one", "other", "number"] (spT3 K T.C_OtherSize) := okx_p_word_at T
  refine T.F_sized.ok sc_sized (fun vs H Q E h => ?_) (fun cdv A outer s H vs Q E hr h => ?_)
  · obtain ⟨i, a, b, f, g, rfl, _⟩ := h
    rfl
  · obtain ⟨i, a, b, f, g, rfl, ha, hb, hmn, h0, h5, q⟩ := h
    refine ⟨_, pss_cons (ps_set (i := 3) sc_sized.nd rfl (.inl rfl) pe_non) <|
      pss_cons (ps_try_kept (i := 4) (cs := [.ref T.C_NotResult, .ref T.C_NotShortest, .ref T.C_OtherSize]) rfl rfl rfl sc_sized.nd rfl rfl (.cons ⟨_, _, rfl, by rfl, by decide, .inl T.gC_NotResult⟩ (.cons ⟨_, _, rfl, by rfl, by decide, .inl T.gC_NotShortest⟩ (.cons ⟨_, _, rfl, by rfl, by decide, .inl T.gC_OtherSize⟩ .nil))) (by show 3 ≤ 1000; decide)
        (fun W pn xe tk _ => pss_one (ps_if (pt_cmpR op_lt (pv 0) pe_int (nomark _)) (pss_one (ps_expr (pe_callF (cs := [(T.f_p_cycles, spT2 K T.C_OtherSize), (T.f_p_distance, spT2 K T.C_OtherSize), (T.f_p_words_many, spT2 K T.C_OtherSize)]) (fall_cons (sp := spT2 K T.C_OtherSize) ⟨6, _, _, (okx_p_cycles T).mono (by decide), hr, T.F_p_cycles.kp, T.b_p_cycles⟩ (fall_cons (sp := spT2 K T.C_OtherSize) ⟨6, _, _, (okx_p_distance T).mono (by decide), hr, T.F_p_distance.kp, T.b_p_distance⟩ (fall_cons (sp := spT2 K T.C_OtherSize) ⟨6, _, _, (okx_p_words_many T).mono (by decide), hr, T.F_p_words_many.kp, T.b_p_words_many⟩ fall_nil))) (fun σ => passAt tk σ) (pe_ix (r := rIxL K) ix_list (pe_lst (pa_cons (pe_glob (v := .ref T.f_p_cycles) (by rfl) T.g_p_cycles rfl) (pa_cons (pe_glob (v := .ref T.f_p_distance) (by rfl) T.g_p_distance rfl) (pa_cons (pe_glob (v := .ref T.f_p_words_many) (by rfl) T.g_p_words_many rfl) pa_nil)))) (pv 0) (fun _ _ => rfl)) (pa_cons (pv 1) (pa_cons (pv 2) pa_nil)))))
          (pss_one (ps_if (pt_cmpR op_eq (pv 0) pe_int (nomark _)) (pss_one (ps_expr (pe_callS GL hr (by rfl) T.g_p_leads T.F_p_leads.kp T.b_p_leads (fun σ => passAt tk σ) (pa_cons (pv 1) (pa_cons (pv 2) (pa_cons pe_non pa_nil))))))
            (pss_one (ps_expr (pe_callS GA hr (by rfl) T.g_p_word_at T.F_p_word_at.kp T.b_p_word_at (fun σ => passAt tk σ) (pa_cons (pv 1) (pa_cons (pv 2) (pa_cons (pe_un un_neg pe_int) pa_nil)))))))))) 
        (fun a oe pn => pss_one (ps_set (i := 3) sc_sized.nd rfl (.inl rfl) (pv 4)))) <|
      pss_cons (ps_set (i := 5) sc_sized.nd rfl (.inl rfl) (pe_and (pe_callB call_isk (by rfl) T.n_isinstance (by decide +kernel) (pa_cons (pv 3) (pa_cons (pe_glob (v := .ref T.C_OtherSize) (by rfl) T.gC_OtherSize rfl) pa_nil))) (pe_one (pe_not (pe_callB call_iskT (by rfl) T.n_isinstance (by decide +kernel) (pa_cons (pv 3) (pa_cons (pe_tup (pa_cons (pe_glob (v := .ref T.C_NotResult) (by rfl) T.gC_NotResult rfl) (pa_cons (pe_glob (v := .ref T.C_NotShortest) (by rfl) T.gC_NotShortest rfl) pa_nil))) pa_nil))))))) <|
      pss_one (ps_ret (pe_ifExp (PW.pt (pw_and (pt_val (pv 5)) (pw_and1 (pt_val (pe_callB call_isk (by rfl) T.n_isinstance (by decide +kernel) (pa_cons (pv 3) (pa_cons (pe_bltn (v := .ty "ValueError") (by rfl) T.n_ValueError (by decide +kernel) rfl) pa_nil))))))) (pe_kf (pv 3)) pe_non)), ?_⟩
    refine st_set [some (.int i), some (.ref a), some (.ref b), some .non, none, none] ?_ rfl
    refine ⟨_, rfl, _, _, rfl, rfl, _, rfl, ?_⟩
    by_cases c : i < 3
    · refine iteY (decide_eq_true c) ⟨(by show 3 ≤ sizeLine; decide), fun l nl => ?_⟩
      have s1 : Same H (upd H l (.lst [V.ref T.f_p_cycles, V.ref T.f_p_distance, V.ref T.f_p_words_many])) := same_new nl
      rcases (show i = 0 ∨ i = 1 ∨ i = 2 by omega) with z | z | z
      · subst z
        refine ⟨_, rfl, l, _, _, V.ref T.f_p_cycles, rfl, rfl, .inl (.inl upd_same), rfl, T.f_p_cycles, spT2 K T.C_OtherSize, (.head _), rfl, _, rfl, _, rfl, a, b, rfl, f, g, ha.same s1, hb.same s1, hmn, kept1 (hits_of [false, false, true] rfl (.cons T.ex_OtherSize_NotResult (.cons T.ex_OtherSize_NotShortest (.cons T.ee_OtherSize .nil)))) fun d H2 z s2 nd ed nx ne => ⟨_, rfl, ?_⟩⟩
        have hK : Kept (upd H2 z (exk z (.ref T.C_OtherSize) (some d))) z T.C_OtherSize (some d) := .mk1 ed nx
        have s3 : Same H (upd H2 z (exk z (.ref T.C_OtherSize) (some d))) := (s1.trans s2).trans (same_new nx)
        replace ed := same_new (o := exk z (.ref T.C_OtherSize) (some d)) nx _ _ ed
        refine st_set [some (.int 0), some (.ref a), some (.ref b), some (.ref z), some (.ref z), none] ?_ rfl
        refine st_kept [some (.int 0), some (.ref a), some (.ref b), some (.ref z), none, none] ?_ rfl
        refine ⟨_, rfl, z, _, _, _, _, _, rfl, hK, T.kpt_OtherSize, .own _, T.kk_OtherSize, _, rfl, iteY rfl ?_⟩
        refine ⟨_, rfl, (by show 2 ≤ sizeLine; decide), fun l2 nl2 => ⟨z, _, _, l2, _, _, _, rfl, hK.same (same_new nl2), T.kpt_OtherSize, upd_same, (.cons (.own _) (.cons (.own _) .nil)), (kit_cons T.ki_OtherSize_NotResult (kit_cons T.ki_OtherSize_NotShortest kit_nil)), _, rfl, ?_⟩⟩
        refine st_set [some (.int 0), some (.ref a), some (.ref b), some (.ref z), none, some (.bl true)] ?_ rfl
        refine ⟨_, rfl, _, rfl, iteY rfl ?_⟩
        refine ⟨_, rfl, z, _, _, _, _, _, rfl, hK.same (same_new nl2), T.kpt_OtherSize, .ty _, T.kb_OtherSize_ValueError, _, rfl, iteY rfl ?_⟩
        exact ⟨_, rfl, z, _, _, _, _, rfl, (hK.same (same_new nl2)).1, T.kpt_OtherSize, T.no_OtherSize, same_new nl2 _ _ ed, rfl, q _ (s3.trans (same_new nl2))⟩
      · subst z
        refine ⟨_, rfl, l, _, _, V.ref T.f_p_distance, rfl, rfl, .inl (.inl upd_same), rfl, T.f_p_distance, spT2 K T.C_OtherSize, (.tail _ (.head _)), rfl, _, rfl, _, rfl, a, b, rfl, f, g, ha.same s1, hb.same s1, hmn, kept1 (hits_of [false, false, true] rfl (.cons T.ex_OtherSize_NotResult (.cons T.ex_OtherSize_NotShortest (.cons T.ee_OtherSize .nil)))) fun d H2 z s2 nd ed nx ne => ⟨_, rfl, ?_⟩⟩
        have hK : Kept (upd H2 z (exk z (.ref T.C_OtherSize) (some d))) z T.C_OtherSize (some d) := .mk1 ed nx
        have s3 : Same H (upd H2 z (exk z (.ref T.C_OtherSize) (some d))) := (s1.trans s2).trans (same_new nx)
        replace ed := same_new (o := exk z (.ref T.C_OtherSize) (some d)) nx _ _ ed
        refine st_set [some (.int 1), some (.ref a), some (.ref b), some (.ref z), some (.ref z), none] ?_ rfl
        refine st_kept [some (.int 1), some (.ref a), some (.ref b), some (.ref z), none, none] ?_ rfl
        refine ⟨_, rfl, z, _, _, _, _, _, rfl, hK, T.kpt_OtherSize, .own _, T.kk_OtherSize, _, rfl, iteY rfl ?_⟩
        refine ⟨_, rfl, (by show 2 ≤ sizeLine; decide), fun l2 nl2 => ⟨z, _, _, l2, _, _, _, rfl, hK.same (same_new nl2), T.kpt_OtherSize, upd_same, (.cons (.own _) (.cons (.own _) .nil)), (kit_cons T.ki_OtherSize_NotResult (kit_cons T.ki_OtherSize_NotShortest kit_nil)), _, rfl, ?_⟩⟩
        refine st_set [some (.int 1), some (.ref a), some (.ref b), some (.ref z), none, some (.bl true)] ?_ rfl
        refine ⟨_, rfl, _, rfl, iteY rfl ?_⟩
        refine ⟨_, rfl, z, _, _, _, _, _, rfl, hK.same (same_new nl2), T.kpt_OtherSize, .ty _, T.kb_OtherSize_ValueError, _, rfl, iteY rfl ?_⟩
        exact ⟨_, rfl, z, _, _, _, _, rfl, (hK.same (same_new nl2)).1, T.kpt_OtherSize, T.no_OtherSize, same_new nl2 _ _ ed, rfl, q _ (s3.trans (same_new nl2))⟩
      · subst z
        refine ⟨_, rfl, l, _, _, V.ref T.f_p_words_many, rfl, rfl, .inl (.inl upd_same), rfl, T.f_p_words_many, spT2 K T.C_OtherSize, (.tail _ (.tail _ (.head _))), rfl, _, rfl, _, rfl, a, b, rfl, f, g, ha.same s1, hb.same s1, hmn, kept1 (hits_of [false, false, true] rfl (.cons T.ex_OtherSize_NotResult (.cons T.ex_OtherSize_NotShortest (.cons T.ee_OtherSize .nil)))) fun d H2 z s2 nd ed nx ne => ⟨_, rfl, ?_⟩⟩
        have hK : Kept (upd H2 z (exk z (.ref T.C_OtherSize) (some d))) z T.C_OtherSize (some d) := .mk1 ed nx
        have s3 : Same H (upd H2 z (exk z (.ref T.C_OtherSize) (some d))) := (s1.trans s2).trans (same_new nx)
        replace ed := same_new (o := exk z (.ref T.C_OtherSize) (some d)) nx _ _ ed
        refine st_set [some (.int 2), some (.ref a), some (.ref b), some (.ref z), some (.ref z), none] ?_ rfl
        refine st_kept [some (.int 2), some (.ref a), some (.ref b), some (.ref z), none, none] ?_ rfl
        refine ⟨_, rfl, z, _, _, _, _, _, rfl, hK, T.kpt_OtherSize, .own _, T.kk_OtherSize, _, rfl, iteY rfl ?_⟩
        refine ⟨_, rfl, (by show 2 ≤ sizeLine; decide), fun l2 nl2 => ⟨z, _, _, l2, _, _, _, rfl, hK.same (same_new nl2), T.kpt_OtherSize, upd_same, (.cons (.own _) (.cons (.own _) .nil)), (kit_cons T.ki_OtherSize_NotResult (kit_cons T.ki_OtherSize_NotShortest kit_nil)), _, rfl, ?_⟩⟩
        refine st_set [some (.int 2), some (.ref a), some (.ref b), some (.ref z), none, some (.bl true)] ?_ rfl
        refine ⟨_, rfl, _, rfl, iteY rfl ?_⟩
        refine ⟨_, rfl, z, _, _, _, _, _, rfl, hK.same (same_new nl2), T.kpt_OtherSize, .ty _, T.kb_OtherSize_ValueError, _, rfl, iteY rfl ?_⟩
        exact ⟨_, rfl, z, _, _, _, _, rfl, (hK.same (same_new nl2)).1, T.kpt_OtherSize, T.no_OtherSize, same_new nl2 _ _ ed, rfl, q _ (s3.trans (same_new nl2))⟩
    refine iteX (decide_eq_false c) ⟨_, rfl, rfl, _, rfl, ?_⟩
    by_cases c3 : i = 3
    · subst c3
      refine iteY rfl ⟨_, rfl, _, rfl, a, b, _, rfl, f, g, ha, hb, hmn, kept1 (hits_of [false, false, true] rfl (.cons T.ex_OtherSize_NotResult (.cons T.ex_OtherSize_NotShortest (.cons T.ee_OtherSize .nil)))) fun d H2 z s2 nd ed nx ne => ⟨_, rfl, ?_⟩⟩
      have hK : Kept (upd H2 z (exk z (.ref T.C_OtherSize) (some d))) z T.C_OtherSize (some d) := .mk1 ed nx
      have s3 : Same H (upd H2 z (exk z (.ref T.C_OtherSize) (some d))) := s2.trans (same_new nx)
      replace ed := same_new (o := exk z (.ref T.C_OtherSize) (some d)) nx _ _ ed
      refine st_set [some (.int 3), some (.ref a), some (.ref b), some (.ref z), some (.ref z), none] ?_ rfl
      refine st_kept [some (.int 3), some (.ref a), some (.ref b), some (.ref z), none, none] ?_ rfl
      refine ⟨_, rfl, z, _, _, _, _, _, rfl, hK, T.kpt_OtherSize, .own _, T.kk_OtherSize, _, rfl, iteY rfl ?_⟩
      refine ⟨_, rfl, (by show 2 ≤ sizeLine; decide), fun l2 nl2 => ⟨z, _, _, l2, _, _, _, rfl, hK.same (same_new nl2), T.kpt_OtherSize, upd_same, (.cons (.own _) (.cons (.own _) .nil)), (kit_cons T.ki_OtherSize_NotResult (kit_cons T.ki_OtherSize_NotShortest kit_nil)), _, rfl, ?_⟩⟩
      refine st_set [some (.int 3), some (.ref a), some (.ref b), some (.ref z), none, some (.bl true)] ?_ rfl
      refine ⟨_, rfl, _, rfl, iteY rfl ?_⟩
      refine ⟨_, rfl, z, _, _, _, _, _, rfl, hK.same (same_new nl2), T.kpt_OtherSize, .ty _, T.kb_OtherSize_ValueError, _, rfl, iteY rfl ?_⟩
      exact ⟨_, rfl, z, _, _, _, _, rfl, (hK.same (same_new nl2)).1, T.kpt_OtherSize, T.no_OtherSize, same_new nl2 _ _ ed, rfl, q _ (s3.trans (same_new nl2))⟩
    have c4 : i = 4 := by omega
    subst c4
    refine iteX rfl ⟨_, rfl, _, rfl, 1, rfl, a, b, _, rfl, f, g, ha, hb, hmn, kept1 (hits_of [false, false, true] rfl (.cons T.ex_OtherSize_NotResult (.cons T.ex_OtherSize_NotShortest (.cons T.ee_OtherSize .nil)))) fun d H2 z s2 nd ed nx ne => ⟨_, rfl, ?_⟩⟩
    have hK : Kept (upd H2 z (exk z (.ref T.C_OtherSize) (some d))) z T.C_OtherSize (some d) := .mk1 ed nx
    have s3 : Same H (upd H2 z (exk z (.ref T.C_OtherSize) (some d))) := s2.trans (same_new nx)
    replace ed := same_new (o := exk z (.ref T.C_OtherSize) (some d)) nx _ _ ed
    refine st_set [some (.int 4), some (.ref a), some (.ref b), some (.ref z), some (.ref z), none] ?_ rfl
    refine st_kept [some (.int 4), some (.ref a), some (.ref b), some (.ref z), none, none] ?_ rfl
    refine ⟨_, rfl, z, _, _, _, _, _, rfl, hK, T.kpt_OtherSize, .own _, T.kk_OtherSize, _, rfl, iteY rfl ?_⟩
    refine ⟨_, rfl, (by show 2 ≤ sizeLine; decide), fun l2 nl2 => ⟨z, _, _, l2, _, _, _, rfl, hK.same (same_new nl2), T.kpt_OtherSize, upd_same, (.cons (.own _) (.cons (.own _) .nil)), (kit_cons T.ki_OtherSize_NotResult (kit_cons T.ki_OtherSize_NotShortest kit_nil)), _, rfl, ?_⟩⟩
    refine st_set [some (.int 4), some (.ref a), some (.ref b), some (.ref z), none, some (.bl true)] ?_ rfl
    refine ⟨_, rfl, _, rfl, iteY rfl ?_⟩
    refine ⟨_, rfl, z, _, _, _, _, _, rfl, hK.same (same_new nl2), T.kpt_OtherSize, .ty _, T.kb_OtherSize_ValueError, _, rfl, iteY rfl ?_⟩
    exact ⟨_, rfl, z, _, _, _, _, rfl, (hK.same (same_new nl2)).1, T.kpt_OtherSize, T.no_OtherSize, same_new nl2 _ _ ed, rfl, q _ (s3.trans (same_new nl2))⟩
end
end Pc
namespace Pc
open PySem PySem.Spec PyProof.Rows L2 RZ
theorem fi_tups {ls : List (List Nat)} (h : ls.length ≤ 100 ∧ ∀ l ∈ ls, l.length ≤ 100 ∧ ∀ i ∈ l, i < 2 ^ 60) : Fi 2 (.list (ls.map td)) := (fine_tds (n := 100) (m := 100) h.2 h.1 (by decide) (by decide)).mono (Nat.le_refl _) (by decide)
theorem rn_bound {a b : List Nat} {n : Nat} {ls : List (List Nat)} (ha : IsPair n a) (hb : IsPair n b) (hn : n ≤ 100) (h : Rn a b n ls) : ls.length ≤ 100 ∧ ∀ l ∈ ls, l.length ≤ 100 ∧ ∀ i ∈ l, i < 2 ^ 60 := by
  have hI := h.inv ha hb (Nat.le_refl _)
  have h1 := hI.len
  have h2 := hI.len'
  refine ⟨by omega, fun l hl => ⟨by have := flatL_one hl; omega, fun i hi => ?_⟩⟩
  have := hI.lt i (List.mem_flatten.mpr ⟨l, hl, hi⟩)
  omega
theorem lsts_same {H H' : Hp} (e : Same H H') : ∀ {as : List Addr} {xss : List (List V)}, Lsts H as xss → Lsts H' as xss
  | _, _, .nil => .nil
  | _, _, .cons h r => .cons (e _ _ h) (lsts_same e r)
theorem lsts_snoc {H : Hp} : ∀ {as : List Addr} {xss : List (List V)} {b : Addr} {xs : List V}, Lsts H as xss → H b = some (.lst xs) → Lsts H (as ++ [b]) (xss ++ [xs])
  | _, _, _, _, .nil, h => .cons h .nil
  | _, _, _, _, .cons h r, g => .cons h (lsts_snoc r g)
theorem lsts_upd {H : Hp} {D : Addr} {o : HO} : ∀ {as : List Addr} {xss : List (List V)}, (∀ a ∈ as, a ≠ D) → Lsts H as xss → Lsts (upd H D o) as xss
  | _, _, _, .nil => .nil
  | _, _, h, .cons g r => .cons (by rw [upd_ne (h _ List.mem_cons_self)]; exact g) (lsts_upd (fun a ha => h a (List.mem_cons_of_mem _ ha)) r)
theorem lsts_len {H : Hp} {as : List Addr} {xss : List (List V)} (h : Lsts H as xss) : as.length = xss.length := Paired.length h
theorem flat_nv (ls : List (List Nat)) : (ls.map nv).flatten = nv ls.flatten := by
  unfold nv; rw [List.map_flatten]
theorem keep_freeD {b p : Addr} {k : Nat} {H H' : Hp} (hk : Keep b H H') (hB : Box k H' b) (h : H' p = none) : H p = none := by
  cases e : H p with
  | none => rfl
  | some o => rw [hk p o (hB.ne_new h).symm e] at h; cases h
end Pc
namespace Pc
open PySem PySem.Spec PyProof.Rows L2 RZ
/-! ### numbers, sorted (a part of lib44: never both) -/
theorem nv_ints (l : List Nat) : nv l = (l.map fun (i : Nat) => (i : Int)).map V.int := by unfold nv; rw [List.map_map]; rfl
theorem sort_nats {K : PySem.W.Frag} {H : Hp} {a : Addr} {l t : List Nat} {Q : VK} (hS : SqL K H a (nv l)) (hl : l.length < 64) (hp : t.Perm l) (hs : t.Pairwise (· < ·)) (h : ∀ p : Addr, H p = none → Q (.ref p) (upd H p (.lst (nv t)))) : rSorted K [.ref a] H Q := by
  refine ⟨a, l.map fun (i : Nat) => (i : Int), rfl, by rw [← nv_ints]; exact hS, by rw [List.length_map]; exact hl, fun ns' p hpm hso np => ?_⟩
  have e : ns' = t.map fun (i : Nat) => (i : Int) := by
    refine List.Perm.eq_of_pairwise (le := fun a b : Int => a ≤ b) (fun a b _ _ h1 h2 => by omega) hso ?_ (hpm.trans (hp.symm.map _))
    rw [List.pairwise_map]
    exact hs.imp fun {a b} h => by omega
  have := h p np
  rw [nv_ints, ← e] at this
  exact this
theorem sort_natsN {K : PySem.W.Frag} {σ : L2.St} {H : Hp} {a : Addr} {l t : List Nat} {Q : VK} (hS : SqL K H a (nv l)) (hl : l.length < 64) (hp : t.Perm l) (hs : t.Pairwise (· < ·)) (h : ∀ p : Addr, H p = none → Q (.ref p) (upd H p (.lst (nv t)))) : tNil σ H (fun xs H2 => rSorted K (.ref a :: xs) H2 Q) := sort_nats hS hl hp hs h
end Pc
namespace Pc
open PySem PySem.Spec PyProof.Rows L2 RZ
section
variable {P : Program} {w : World} {K : PySem.W.Frag} {mg : Str → Option Value} {base : Heap}
def spRight : Sp := fun vs H Q _ => ∃ (b : Addr) (n : Nat), vs = [.ref b] ∧ Box (n + 1000) H b ∧ ∀ H', Keep b H H' → Box n H' b → Q (.bl true) H'
theorem kw_p_cycles_10 (T : Env K mg) : ∀ (s : Shared) (ws : List Value), ws.length = (["other", "one"] : List Str).length → BindsTo s T.d_p_cycles ⟨[], (["other", "one"] : List Str).zip ws⟩ ((["one", "other"] : List Str).zip (pm10 ws)) :=
  kw_to T.F_p_cycles fun _ _ _ _ _ _ ws hl => match ws, hl with | [_, _], _ => rfl
theorem kw_p_distance_10 (T : Env K mg) : ∀ (s : Shared) (ws : List Value), ws.length = (["other", "one"] : List Str).length → BindsTo s T.d_p_distance ⟨[], (["other", "one"] : List Str).zip ws⟩ ((["one", "other"] : List Str).zip (pm10 ws)) :=
  kw_to T.F_p_distance fun _ _ _ _ _ _ ws hl => match ws, hl with | [_, _], _ => rfl
theorem ok_right (T : Env K mg) : FnOk P w K mg base CX0 8 T.f_right T.d_right ["_law_box_here"] spRight := by
  have GT : FnOk P w K mg base CX0 1 T.f_take T.d_take ["_law_box_here", "_law_below"] spTake := ok_take T
  have GE : FnOk P w K mg base CX0 5 T.f_same T.d_same ["_law_found", "_law_due"] (spSame K 4) := (ok_same T 4).mono (by decide)
  have GD : FnOk P w K mg base CX0 3 T.f_drawn_tie T.d_drawn_tie ["_law_box_here", "_law_size"] spTie := ok_drawn_tie T
  have GO : FnOk P w K mg base CX0 3 T.f_tour_of T.d_tour_of ["_law_box_here", "_law_size", "_law_most"] spTour := ok_tour_of T
  have GU : FnOk P w K mg base CX0 2 T.f_toured T.d_toured ["_law_tie", "_law_tour"] (spToured K) := ok_toured T
  have GK : FnOk P w K mg base CX0 2 T.f_pick T.d_pick ["_law_box_here", "_law_some"] (spOf K) := ok_pick T
  have Gr : FnOk P w K mg base CX0 1 T.f_rounds T.d_rounds ["_law_tie", "_law_mate"] (spRounds K) := ok_rounds T
  have Gc : FnOk P w K mg base CX0 2 T.f_p_cycles T.d_p_cycles ["one", "other"] (spCycles K) := ok_p_cycles T
  have Gx : FnOk P w K mg base CX0 3 T.f_p_distance T.d_p_distance ["one", "other"] (spDist K) := ok_p_distance T
  have GZ : FnOk P w K mg base CX0 7 T.f_sized T.d_sized ["_law_door", "_law_tie", "_law_mate"] (spSized40 K) := ok_sized T
  refine T.F_right.ok sc_right (fun vs H Q E h => ?_) (fun cdv A outer s H vs Q E hr h => ?_)
  · obtain ⟨b, n, rfl, _⟩ := h
    rfl
  · obtain ⟨b, n, rfl, hB, q⟩ := h
    have h1 := hr.mono (show 1 ≤ 7 by decide)
    have h2 := hr.mono (show 2 ≤ 7 by decide)
    have h3 := hr.mono (show 3 ≤ 7 by decide)
    have h4 := hr.mono (show 4 ≤ 7 by decide)
    have h5 := hr.mono (show 5 ≤ 7 by decide)
    have h6 := hr.mono (show 6 ≤ 7 by decide)
    have kH : Keep b H H := Keep.refl _ _
    refine ⟨_, pss_cons (ps_for PassesOwn.never rfl (pi_range1 (by rfl) T.n_range (pa_cons pe_int pa_nil)) (pg_name (i := 1) sc_right.nd rfl (.inl rfl)) (pss_cons (ps_set (i := 2) sc_right.nd rfl (.inl rfl) (pe_op op_add pe_int (pe_op op_mul pe_int (pe_call GT h1 (by rfl) T.g_take T.F_take.kp T.b_take .nil pass0 (pa_cons (pv 0) (pa_cons pe_int pa_nil)))))) <|
      pss_cons (ps_set (i := 3) sc_right.nd rfl (.inr rfl) (pe_call GD h3 (by rfl) T.g_drawn_tie T.F_drawn_tie.kp T.b_drawn_tie .nil pass0 (pa_cons (pv 0) (pa_cons (pv 2) pa_nil)))) <|
      pss_cons (ps_set (i := 4) sc_right.nd rfl (.inl rfl) (pe_call GK h2 (by rfl) T.g_pick T.F_pick.kp T.b_pick .nil pass0 (pa_cons (pv 0) (pa_cons (pe_lst (pa_cons (pe_call GD h3 (by rfl) T.g_drawn_tie T.F_drawn_tie.kp T.b_drawn_tie .nil pass0 (pa_cons (pv 0) (pa_cons (pv 2) pa_nil))) (pa_cons (pe_call GU h2 (by rfl) T.g_toured T.F_toured.kp T.b_toured .nil pass0 (pa_cons (pv 3) (pa_cons (pe_call GO h3 (by rfl) T.g_tour_of T.F_tour_of.kp T.b_tour_of .nil pass0 (pa_cons (pv 0) (pa_cons (pv 2) (pa_cons pe_int pa_nil)))) pa_nil))) (pa_cons (pv 3) pa_nil)))) pa_nil)))) <|
      pss_cons (ps_set (i := 5) sc_right.nd rfl (.inl rfl) (pe_call Gr h1 (by rfl) T.g_rounds T.F_rounds.kp T.b_rounds .nil pass0 (pa_cons (pv 3) (pa_cons (pv 4) pa_nil)))) <|
      pss_cons (ps_set (i := 6) sc_right.nd rfl (.inl rfl) (pe_lst (pa_cons (pe_call Gc h2 (by rfl) T.g_p_cycles T.F_p_cycles.kp T.b_p_cycles .nil pass0 (pa_cons (pv 3) (pa_cons (pv 4) pa_nil))) (pa_cons (pe_kw (gV := pm10) Gc h2 (by rfl) T.g_p_cycles T.F_p_cycles.kp (kw_p_cycles_10 T) (rel_pm10) pass0 (pk_cons (pe_callTy call_list_of (by rfl) T.n_list (by decide +kernel) (pa_cons (pv 4) pa_nil)) (pk_cons (pe_callTy call_list_of (by rfl) T.n_list (by decide +kernel) (pa_cons (pv 3) pa_nil)) pk_nil))) pa_nil)))) <|
      pss_cons (ps_if (pt_not (pt_val (pe_call GE h5 (by rfl) T.g_same T.F_same.kp T.b_same .nil pass0 (pa_cons (pv 6) (pa_cons (pe_lst (pa_cons (pv 5) (pa_cons (pv 5) pa_nil))) pa_nil))))) (pss_one (ps_ret pe_bl)) pss_nil) <|
      pss_cons (ps_expr (pe_bm PySem.F.plainAttrs_list PySem.F.slot_list_append PySem.F.type_list_append mt_append (pe_ix ix_list (pv 6) pe_int (fun _ _ => rfl)) (pa_cons pe_str pa_nil))) <|
      pss_cons (ps_set (i := 6) sc_right.nd rfl (.inl rfl) (pe_lst (pa_cons (pe_call Gx h3 (by rfl) T.g_p_distance T.F_p_distance.kp T.b_p_distance .nil pass0 (pa_cons (pv 3) (pa_cons (pv 4) pa_nil))) (pa_cons (pe_kw (gV := pm10) Gx h3 (by rfl) T.g_p_distance T.F_p_distance.kp (kw_p_distance_10 T) (rel_pm10) pass0 (pk_cons (pe_callTy call_list_of (by rfl) T.n_list (by decide +kernel) (pa_cons (pv 4) pa_nil)) (pk_cons (pe_callTy call_list_of (by rfl) T.n_list (by decide +kernel) (pa_cons (pv 3) pa_nil)) pk_nil))) (pa_cons (pe_callB call_len_seq (by rfl) T.n_len PySem.boot_len (pa_cons (pe_call Gc h2 (by rfl) T.g_p_cycles T.F_p_cycles.kp T.b_p_cycles .nil pass0 (pa_cons (pv 3) (pa_cons (pv 4) pa_nil))) pa_nil)) pa_nil))))) <|
      pss_cons (ps_set (i := 7) sc_right.nd rfl (.inl rfl) (pe_op op_sub (pe_op op_fdiv (pv 2) pe_int) (pe_callB call_len_seq (by rfl) T.n_len PySem.boot_len (pa_cons (pv 5) pa_nil)))) <|
      pss_cons (ps_if (pt_not (pt_val (pe_call GE h5 (by rfl) T.g_same T.F_same.kp T.b_same .nil pass0 (pa_cons (pv 6) (pa_cons (pe_lst (pa_cons (pv 7) (pa_cons (pv 7) (pa_cons (pe_callB call_len_seq (by rfl) T.n_len PySem.boot_len (pa_cons (pv 5) pa_nil)) pa_nil)))) pa_nil))))) (pss_one (ps_ret pe_bl)) pss_nil) <|
      pss_cons (ps_if (pt_cmpR (op_neD hr.units) (pe_callB cr_sorted (by rfl) T.n_sorted (by decide +kernel) (pa_cons (pe_callB (cr_sumL rfl) (by rfl) T.n_sum (by decide +kernel) (pa_cons (pe_lc (own := [("_law_lap", 10)]) (g := gName 10) (tt := tYes) (te := tCB (fun xs H Q => ∃ p ys, xs = [.ref p] ∧ (SqL K H p ys ∨ SqT K H p ys) ∧ ∀ l, H l = none → Q (.ref l) (upd H l (.lst ys))) (tCons (tVar 10) tNil)) rfl sc_right.nd (pi_list (pv 5)) (blkOk_by (N := N_right) (sc := defScope s_right) (by decide +kernel)) (fun _ _ _ _ _ => pg_name (i := 10) sc_right.nd rfl (.inl rfl)) (fun _ _ _ _ _ => pts_nil) (fun _ _ _ _ _ => pe_callTy call_list_of (by rfl) T.n_list (by decide +kernel) (pa_cons (pv 10) pa_nil))) (pa_cons (pe_lst pa_nil) pa_nil))) pa_nil)) (pe_listRg rfl (by rfl) T.n_list (prg_1 (by rfl) T.n_range (pv 2))) (nomark _)) (pss_one (ps_ret pe_bl)) pss_nil) <|
      pss_cons (ps_set (i := 8) sc_right.nd rfl (.inr rfl) (pe_call GD h3 (by rfl) T.g_drawn_tie T.F_drawn_tie.kp T.b_drawn_tie .nil pass0 (pa_cons (pv 0) (pa_cons (pe_ifExp (pt_cmpR op_lt (pv 2) pe_int (nomark _)) (pe_op op_add (pv 2) pe_int) (pe_op op_sub (pv 2) pe_int)) pa_nil)))) <|
      pss_cons (ps_if (pt_not (pt_val (pe_call GE h5 (by rfl) T.g_same T.F_same.kp T.b_same .nil pass0 (pa_cons (pe_lc (own := [("_law_door", 9)]) (g := gName 9) (tt := tYes) (te := tCall (spSized40 K) [] (fun _ _ _ => False) (tCons (tVar 9) (tCons (tVar 3) (tCons (tVar 8) tNil)))) (by rfl) sc_right.nd (pi_range1 (by rfl) T.n_range (pa_cons pe_int pa_nil)) (blkOk_by (N := N_right) (sc := defScope s_right) (by decide +kernel)) (fun _ _ _ _ _ => pg_name (i := 9) sc_right.nd rfl (.inl rfl)) (fun _ _ _ _ _ => pts_nil) (fun _ _ _ _ _ => (pe_call GZ hr (by rfl) T.g_sized T.F_sized.kp T.b_sized .nil pass0 (pa_cons (pv 9) (pa_cons (pv 3) (pa_cons (pv 8) pa_nil)))))) (pa_cons (pe_op op_rep (pe_lst (pa_cons (pe_callB call_len_seq (by rfl) T.n_len PySem.boot_len (pa_cons (pv 8) pa_nil)) pa_nil)) pe_int) pa_nil))))) (pss_one (ps_ret pe_bl)) pss_nil) <|
      pss_one (ps_if (pt_not (pt_val (pe_call GE h5 (by rfl) T.g_same T.F_same.kp T.b_same .nil pass0 (pa_cons (pe_lc (own := [("_law_door", 9)]) (g := gName 9) (tt := tYes) (te := tCall (spSized40 K) [] (fun _ _ _ => False) (tCons (tVar 9) (tCons (tVar 8) (tCons (tVar 3) tNil)))) (by rfl) sc_right.nd (pi_range1 (by rfl) T.n_range (pa_cons pe_int pa_nil)) (blkOk_by (N := N_right) (sc := defScope s_right) (by decide +kernel)) (fun _ _ _ _ _ => pg_name (i := 9) sc_right.nd rfl (.inl rfl)) (fun _ _ _ _ _ => pts_nil) (fun _ _ _ _ _ => (pe_call GZ hr (by rfl) T.g_sized T.F_sized.kp T.b_sized .nil pass0 (pa_cons (pv 9) (pa_cons (pv 8) (pa_cons (pv 3) pa_nil)))))) (pa_cons (pe_op op_rep (pe_lst (pa_cons (pv 2) pa_nil)) pe_int) pa_nil))))) (pss_one (ps_ret pe_bl)) pss_nil))) <|
      pss_one (ps_ret pe_bl), ?_⟩
    refine ⟨4, rfl, by decide, by decide, ?_⟩
    refine for_range (n := 4) (fun i0 σ H' => Keep b H H' ∧ Box (n + (640 + 90 * (4 - i0))) H' b ∧ ∃ (y_turn y_size y_tie y_mate y_due y_told y_far y_odd : Option V), σ = [some (.ref b), y_turn, y_size, y_tie, y_mate, y_due, y_told, y_far, y_odd, none, none]) ⟨kH, hB.mono (by omega), _, _, _, _, _, _, _, _, rfl⟩ (fun i0 σ Hi hi0 hPv => ?_) (fun σ Hi hPv => ?_)
    · clear kH hB
      obtain ⟨kH, hB, y_turn, y_size, y_tie, y_mate, y_due, y_told, y_far, y_odd, rfl⟩ := hPv
      obtain ⟨m, hm⟩ : ∃ z, z = n + (640 + 90 * (4 - (i0 + 1))) := ⟨_, rfl⟩
      replace hB : Box (m + 90) Hi b := hB.mono (by omega)
      refine st_set [some (.ref b), some (.int (((0 : Int) + (i0 : Nat)))), y_size, y_tie, y_mate, y_due, y_told, y_far, y_odd, none, none] ?_ rfl
      refine ⟨_, rfl, b, m + 89, 10, rfl, hB.mono (by omega), by decide, by decide, fun r1 H2 ra3 rb4 hB5 k6 => ?_⟩
      obtain ⟨y_hy7, hy7⟩ := hB.lst
      clear hB
      have hB := hB5
      replace kH := kH.trans k6
      refine ⟨_, _, rfl, rfl, .inl ⟨by omega, by omega⟩, _, _, rfl, rfl, ?_⟩
      have hn : 2 + 2 * r1.toNat ≤ 20 := by omega
      have hn2 : 2 ≤ 2 + 2 * r1.toNat := by omega
      have hev : (2 + 2 * r1.toNat) % 2 = 0 := by omega
      rw [show (fun i j => V.int (i + j)) 2 ((fun i j => i * j) 2 r1) = V.int ((2 + 2 * r1.toNat : Nat) : Int) from congrArg V.int (show (2 + 2 * r1 : Int) = _ by omega)]
      revert hn hn2 hev; generalize 2 + 2 * r1.toNat = N; intro hn hn2 hev
      first | refine st_set [some (.ref b), some (.int (((0 : Int) + (i0 : Nat)))), some (.int (N : Nat)), y_tie, y_mate, y_due, y_told, y_far, y_odd, none, none] ?_ rfl | refine st_eq [some (.ref b), some (.int (((0 : Int) + (i0 : Nat)))), some (.int (N : Nat)), y_tie, y_mate, y_due, y_told, y_far, y_odd, none, none] ?_ rfl
      refine ⟨_, rfl, _, rfl, b, m + 69, N, rfl, hB.mono (by omega), by omega, by omega, fun H8 t9 ps10 hp11 k12 hB13 n14 e_t9 => ?_⟩
      obtain ⟨y_hy15, hy15⟩ := hB.lst
      clear hB
      have hB := hB13
      replace kH := kH.trans k12
      first | refine st_set [some (.ref b), some (.int (((0 : Int) + (i0 : Nat)))), some (.int (N : Nat)), some (.ref t9), y_mate, y_due, y_told, y_far, y_odd, none, none] ?_ rfl | refine st_eq [some (.ref b), some (.int (((0 : Int) + (i0 : Nat)))), some (.int (N : Nat)), some (.ref t9), y_mate, y_due, y_told, y_far, y_odd, none, none] ?_ rfl
      refine ⟨_, rfl, _, rfl, _, rfl, b, m + 49, N, rfl, hB.mono (by omega), by omega, by omega, fun H16 t17 ps18 hp19 k20 hB21 n22 e_t17 => ?_⟩
      obtain ⟨y_hy23, hy23⟩ := hB.lst
      replace e_t9 := k20.tup hy23 e_t9
      clear hB
      have hB := hB21
      replace kH := kH.trans k20
      refine ⟨_, rfl, _, rfl, _, rfl, b, m + 41, N, 3, rfl, hB.mono (by omega), by omega, by omega, by omega, fun H24 t25 as26 qs27 hc28 hl29 n30 e_t25 hA_t25 k31 hB32 => ?_⟩
      have ne_t25 : t25 ≠ b := (hB.ne_new n30).symm
      obtain ⟨y_hy33, hy33⟩ := hB.lst
      replace e_t9 := k31.tup hy33 e_t9
      replace e_t17 := k31.tup hy33 e_t17
      clear hB
      have hB := hB32
      replace kH := kH.trans k31
      refine ⟨t9, t25, as26, qs27, ps10, N, rfl, e_t9, .inl (.inl e_t25), hA_t25, hp11, hc28, fun H34 t35 s36 e_t35 => ?_⟩
      replace e_t9 := s36 _ _ e_t9
      replace e_t17 := s36 _ _ e_t17
      replace e_t25 := s36 _ _ e_t25
      replace hA_t25 := prs_same s36 hA_t25
      replace hB := hB.same s36
      replace kH := kH.trans (Keep.of_same s36)
      refine ⟨_, rfl, (by show 3 ≤ sizeLine; decide), fun l37 nl37 => ?_⟩
      have ne_l37 : l37 ≠ b := (hB.ne_new nl37).symm
      have s38 : Same H34 (upd H34 l37 (.lst [.ref t17, .ref t35, .ref t9])) := same_new nl37
      have e_l37 : upd H34 l37 (.lst [.ref t17, .ref t35, .ref t9]) l37 = some (.lst [.ref t17, .ref t35, .ref t9]) := upd_same
      revert s38 e_l37; generalize upd H34 l37 (.lst [.ref t17, .ref t35, .ref t9]) = H39; intro s38 e_l37
      replace e_t9 := s38 _ _ e_t9
      replace e_t17 := s38 _ _ e_t17
      replace e_t25 := s38 _ _ e_t25
      replace hA_t25 := prs_same s38 hA_t25
      replace e_t35 := s38 _ _ e_t35
      replace hB := hB.same s38
      replace kH := kH.trans (Keep.of_same s38)
      refine ⟨b, l37, m + 40, _, rfl, hB.mono (by omega), ne_l37, e_l37, (by show 0 < 3; decide), (by show 3 ≤ 1000; decide), fun Hp ix vx hvx kp hBp => ?_⟩
      obtain ⟨y_hy40, hy40⟩ := hB.lst
      replace e_t9 := kp.tup hy40 e_t9
      replace e_t17 := kp.tup hy40 e_t17
      replace e_t35 := kp.tup hy40 e_t35
      clear hB
      have hB := hBp
      replace kH := kH.trans kp
      obtain ⟨mt, ms, rfl, e_mt, hms⟩ : ∃ (mt : Addr) (ms : List Nat), vx = .ref mt ∧ Hp mt = some (.tup (nv ms)) ∧ IsPair N ms := by
        have hj : ix < 3 := get_lt hvx
        rcases (show ix = 0 ∨ ix = 1 ∨ ix = 2 by omega) with z | z | z
        · subst z; exact ⟨t17, ps18, (Option.some.inj hvx).symm, e_t17, hp19⟩
        · subst z; exact ⟨t35, (runs qs27 ps10), (Option.some.inj hvx).symm, e_t35, (runs_pair _ hp11 hc28)⟩
        · subst z; exact ⟨t9, ps10, (Option.some.inj hvx).symm, e_t9, hp11⟩
      clear hvx e_t17 e_t35
      first | refine st_set [some (.ref b), some (.int (((0 : Int) + (i0 : Nat)))), some (.int (N : Nat)), some (.ref t9), some (.ref mt), y_due, y_told, y_far, y_odd, none, none] ?_ rfl | refine st_eq [some (.ref b), some (.int (((0 : Int) + (i0 : Nat)))), some (.int (N : Nat)), some (.ref t9), some (.ref mt), y_due, y_told, y_far, y_odd, none, none] ?_ rfl
      refine ⟨_, rfl, _, rfl, t9, mt, ps10, ms, N, rfl, .inl (.inl e_t9), .inl (.inl e_mt), hp11, hms, by omega, fun H41 t42 as43 lsd hRd s46 n47 e_t42 hA_t42 => ?_⟩
      have ne_t42 : t42 ≠ b := (hB.ne_new n47).symm
      replace e_t9 := s46 _ _ e_t9
      replace e_mt := s46 _ _ e_mt
      replace hB := hB.same s46
      replace kH := kH.trans (Keep.of_same s46)
      first | refine st_set [some (.ref b), some (.int (((0 : Int) + (i0 : Nat)))), some (.int (N : Nat)), some (.ref t9), some (.ref mt), some (.ref t42), y_told, y_far, y_odd, none, none] ?_ rfl | refine st_eq [some (.ref b), some (.int (((0 : Int) + (i0 : Nat)))), some (.int (N : Nat)), some (.ref t9), some (.ref mt), some (.ref t42), y_told, y_far, y_odd, none, none] ?_ rfl
      obtain ⟨Fr, hFr⟩ : ∃ Fr : Int, Fr = ((N / 2 : Nat) : Int) - (lsd.length : Nat) := ⟨_, rfl⟩
      have hLb := (rn_bound hp11 hms (by omega) hRd).1
      refine ⟨_, rfl, _, rfl, t9, mt, ps10, ms, N, rfl, .inr (.inl (.inl e_t9)), .inr (.inl (.inl e_mt)), hp11, hms, by omega, fun H48 t49 as50 ls51 hR52 s53 n54 e_t49 hA_t49 => ?_⟩
      rw [hR52.det hRd] at hA_t49
      have n0_t49 : H t49 = none := keep_freeD kH hB n54
      have ap_t42_t49 : t42 ≠ t49 := ne_of_none e_t42 n54
      have ne_t49 : t49 ≠ b := (hB.ne_new n54).symm
      replace e_t9 := s53 _ _ e_t9
      replace e_mt := s53 _ _ e_mt
      replace e_t42 := s53 _ _ e_t42
      replace hA_t42 := tups_same s53 hA_t42
      replace hB := hB.same s53
      replace kH := kH.trans (Keep.of_same s53)
      refine ⟨_, rfl, mt, _, rfl, .inr (.inl (.inl e_mt)), fun l55 nl55 => ?_⟩
      have ne_l55 : l55 ≠ b := (hB.ne_new nl55).symm
      have s56 : Same H48 (upd H48 l55 (.lst (nv (ms)))) := same_new nl55
      have e_l55 : upd H48 l55 (.lst (nv (ms))) l55 = some (.lst (nv (ms))) := upd_same
      revert s56 e_l55; generalize upd H48 l55 (.lst (nv (ms))) = H57; intro s56 e_l55
      replace e_t9 := s56 _ _ e_t9
      replace e_mt := s56 _ _ e_mt
      replace e_t42 := s56 _ _ e_t42
      replace hA_t42 := tups_same s56 hA_t42
      replace e_t49 := s56 _ _ e_t49
      replace hA_t49 := tups_same s56 hA_t49
      replace hB := hB.same s56
      replace kH := kH.trans (Keep.of_same s56)
      refine ⟨_, rfl, t9, _, rfl, .inr (.inl (.inl e_t9)), fun l58 nl58 => ?_⟩
      have ne_l58 : l58 ≠ b := (hB.ne_new nl58).symm
      have s59 : Same H57 (upd H57 l58 (.lst (nv (ps10)))) := same_new nl58
      have e_l58 : upd H57 l58 (.lst (nv (ps10))) l58 = some (.lst (nv (ps10))) := upd_same
      revert s59 e_l58; generalize upd H57 l58 (.lst (nv (ps10))) = H60; intro s59 e_l58
      replace e_t9 := s59 _ _ e_t9
      replace e_mt := s59 _ _ e_mt
      replace e_t42 := s59 _ _ e_t42
      replace hA_t42 := tups_same s59 hA_t42
      replace e_t49 := s59 _ _ e_t49
      replace hA_t49 := tups_same s59 hA_t49
      replace e_l55 := s59 _ _ e_l55
      replace hB := hB.same s59
      replace kH := kH.trans (Keep.of_same s59)
      refine ⟨rfl, l58, l55, ps10, ms, N, rfl, .inl (.inl (.inl e_l58)), .inl (.inl (.inl e_l55)), hp11, hms, by omega, fun H61 t62 as63 ls64 hR65 s66 n67 e_t62 hA_t62 => ?_⟩
      rw [hR65.det hRd] at hA_t62
      have n0_t62 : H t62 = none := keep_freeD kH hB n67
      have ap_t42_t62 : t42 ≠ t62 := ne_of_none e_t42 n67
      have ap_t49_t62 : t49 ≠ t62 := ne_of_none e_t49 n67
      have ap_l55_t62 : l55 ≠ t62 := ne_of_none e_l55 n67
      have ap_l58_t62 : l58 ≠ t62 := ne_of_none e_l58 n67
      have ne_t62 : t62 ≠ b := (hB.ne_new n67).symm
      replace e_t9 := s66 _ _ e_t9
      replace e_mt := s66 _ _ e_mt
      replace e_t42 := s66 _ _ e_t42
      replace hA_t42 := tups_same s66 hA_t42
      replace e_t49 := s66 _ _ e_t49
      replace hA_t49 := tups_same s66 hA_t49
      replace e_l55 := s66 _ _ e_l55
      replace e_l58 := s66 _ _ e_l58
      replace hB := hB.same s66
      replace kH := kH.trans (Keep.of_same s66)
      refine ⟨(by show 2 ≤ sizeLine; decide), fun l68 nl68 => ?_⟩
      have ne_l68 : l68 ≠ b := (hB.ne_new nl68).symm
      have s69 : Same H61 (upd H61 l68 (.lst [.ref t49, .ref t62])) := same_new nl68
      have e_l68 : upd H61 l68 (.lst [.ref t49, .ref t62]) l68 = some (.lst [.ref t49, .ref t62]) := upd_same
      revert s69 e_l68; generalize upd H61 l68 (.lst [.ref t49, .ref t62]) = H70; intro s69 e_l68
      replace e_t9 := s69 _ _ e_t9
      replace e_mt := s69 _ _ e_mt
      replace e_t42 := s69 _ _ e_t42
      replace hA_t42 := tups_same s69 hA_t42
      replace e_t49 := s69 _ _ e_t49
      replace hA_t49 := tups_same s69 hA_t49
      replace e_l55 := s69 _ _ e_l55
      replace e_l58 := s69 _ _ e_l58
      replace e_t62 := s69 _ _ e_t62
      replace hA_t62 := tups_same s69 hA_t62
      replace hB := hB.same s69
      replace kH := kH.trans (Keep.of_same s69)
      first | refine st_set [some (.ref b), some (.int (((0 : Int) + (i0 : Nat)))), some (.int (N : Nat)), some (.ref t9), some (.ref mt), some (.ref t42), some (.ref l68), y_far, y_odd, none, none] ?_ rfl | refine st_eq [some (.ref b), some (.int (((0 : Int) + (i0 : Nat)))), some (.int (N : Nat)), some (.ref t9), some (.ref mt), some (.ref t42), some (.ref l68), y_far, y_odd, none, none] ?_ rfl
      refine ⟨_, rfl, _, rfl, _, rfl, (by show 2 ≤ sizeLine; decide), fun l71 nl71 => ?_⟩
      have ne_l71 : l71 ≠ b := (hB.ne_new nl71).symm
      have s72 : Same H70 (upd H70 l71 (.lst [.ref t42, .ref t42])) := same_new nl71
      have e_l71 : upd H70 l71 (.lst [.ref t42, .ref t42]) l71 = some (.lst [.ref t42, .ref t42]) := upd_same
      revert s72 e_l71; generalize upd H70 l71 (.lst [.ref t42, .ref t42]) = H73; intro s72 e_l71
      replace e_t9 := s72 _ _ e_t9
      replace e_mt := s72 _ _ e_mt
      replace e_t42 := s72 _ _ e_t42
      replace hA_t42 := tups_same s72 hA_t42
      replace e_l68 := s72 _ _ e_l68
      replace e_t49 := s72 _ _ e_t49
      replace hA_t49 := tups_same s72 hA_t49
      replace e_t62 := s72 _ _ e_t62
      replace hA_t62 := tups_same s72 hA_t62
      replace hB := hB.same s72
      replace kH := kH.trans (Keep.of_same s72)
      have fk74 : Fi 3 (.list [.list ((lsd).map td), .list ((lsd).map td)]) := fi_list (j := 2) (n := 2) (fa_cons (fi_tups (rn_bound hp11 hms (by omega) hRd)) (fa_cons (fi_tups (rn_bound hp11 hms (by omega) hRd)) fa_nil)) rfl (by decide)
      refine ⟨_, _, _, rfl, .lst (.inl (.inl e_l68)) (.cons (.lst (.inl (.inl e_t49)) (tups_dp hA_t49)) (.cons (.lst (.inl (.inl e_t62)) (tups_dp hA_t62)) .nil)), .lst (.inl (.inl e_l71)) (.cons (.lst (.inl (.inl e_t42)) (tups_dp hA_t42)) (.cons (.lst (.inl (.inl e_t42)) (tups_dp hA_t42)) .nil)), Nat.lt_succ_of_le (Nat.le_trans fk74.depth (by decide)), fk74.nar, fun H75 s76 => ?_⟩
      replace e_t9 := s76 _ _ e_t9
      replace e_mt := s76 _ _ e_mt
      replace e_t42 := s76 _ _ e_t42
      replace hA_t42 := tups_same s76 hA_t42
      replace e_l68 := s76 _ _ e_l68
      replace e_t49 := s76 _ _ e_t49
      replace hA_t49 := tups_same s76 hA_t49
      replace e_t62 := s76 _ _ e_t62
      replace hA_t62 := tups_same s76 hA_t62
      replace e_l71 := s76 _ _ e_l71
      replace hB := hB.same s76
      replace kH := kH.trans (Keep.of_same s76)
      refine ⟨true, rfl, iteN ?_⟩
      refine ⟨_, rfl, l68, _, _, _, rfl, rfl, .inl (.inl e_l68), rfl, .inl ⟨rfl, _, .inl (.inl e_t49)⟩, t49, _, _, rfl, rfl, e_t49, ?_, ?_⟩
      · rw [List.length_map, hA_t49.length]; exact small1000 (by have := (rn_bound hp11 hms (by omega) hRd).1; omega)
      have k77 : Keep t49 H75 (upd H75 t49 (.lst (as50.map V.ref ++ [.str "more"]))) := keep_upd
      revert k77; generalize upd H75 t49 (.lst (as50.map V.ref ++ [.str "more"])) = H78; intro k77
      replace e_t9 := k77.tup e_t49 e_t9
      replace e_mt := k77.tup e_t49 e_mt
      replace e_t42 := k77 _ _ ap_t42_t49 e_t42
      replace hA_t42 := tups_keep k77 e_t49 hA_t42
      replace hB := hB.keep k77 ne_t49.symm
      replace kH : Keep b H H78 := fun x o nx hx => k77 x o (fun z => by rw [z, n0_t49] at hx; cases hx) (kH x o nx hx)
      clear e_l68 e_t49 hA_t49
      refine ⟨_, rfl, _, rfl, t9, mt, ps10, ms, N, rfl, .inr (.inl (.inl e_t9)), .inr (.inl (.inl e_mt)), hp11, hms, by omega, fun H79 ls80 hR81 s82 => ?_⟩
      rw [hR81.det hRd, ← hFr]
      replace e_t9 := s82 _ _ e_t9
      replace e_mt := s82 _ _ e_mt
      replace e_t42 := s82 _ _ e_t42
      replace hA_t42 := tups_same s82 hA_t42
      replace hB := hB.same s82
      replace kH := kH.trans (Keep.of_same s82)
      refine ⟨_, rfl, mt, _, rfl, .inr (.inl (.inl e_mt)), fun l83 nl83 => ?_⟩
      have ne_l83 : l83 ≠ b := (hB.ne_new nl83).symm
      have s84 : Same H79 (upd H79 l83 (.lst (nv (ms)))) := same_new nl83
      have e_l83 : upd H79 l83 (.lst (nv (ms))) l83 = some (.lst (nv (ms))) := upd_same
      revert s84 e_l83; generalize upd H79 l83 (.lst (nv (ms))) = H85; intro s84 e_l83
      replace e_t9 := s84 _ _ e_t9
      replace e_mt := s84 _ _ e_mt
      replace e_t42 := s84 _ _ e_t42
      replace hA_t42 := tups_same s84 hA_t42
      replace hB := hB.same s84
      replace kH := kH.trans (Keep.of_same s84)
      refine ⟨_, rfl, t9, _, rfl, .inr (.inl (.inl e_t9)), fun l86 nl86 => ?_⟩
      have ne_l86 : l86 ≠ b := (hB.ne_new nl86).symm
      have s87 : Same H85 (upd H85 l86 (.lst (nv (ps10)))) := same_new nl86
      have e_l86 : upd H85 l86 (.lst (nv (ps10))) l86 = some (.lst (nv (ps10))) := upd_same
      revert s87 e_l86; generalize upd H85 l86 (.lst (nv (ps10))) = H88; intro s87 e_l86
      replace e_t9 := s87 _ _ e_t9
      replace e_mt := s87 _ _ e_mt
      replace e_t42 := s87 _ _ e_t42
      replace hA_t42 := tups_same s87 hA_t42
      replace e_l83 := s87 _ _ e_l83
      replace hB := hB.same s87
      replace kH := kH.trans (Keep.of_same s87)
      refine ⟨rfl, l86, l83, ps10, ms, N, rfl, .inl (.inl (.inl e_l86)), .inl (.inl (.inl e_l83)), hp11, hms, by omega, fun H89 ls90 hR91 s92 => ?_⟩
      rw [hR91.det hRd, ← hFr]
      replace e_t9 := s92 _ _ e_t9
      replace e_mt := s92 _ _ e_mt
      replace e_t42 := s92 _ _ e_t42
      replace hA_t42 := tups_same s92 hA_t42
      replace e_l83 := s92 _ _ e_l83
      replace e_l86 := s92 _ _ e_l86
      replace hB := hB.same s92
      replace kH := kH.trans (Keep.of_same s92)
      refine ⟨_, rfl, _, rfl, t9, mt, ps10, ms, N, rfl, .inr (.inl (.inl e_t9)), .inr (.inl (.inl e_mt)), hp11, hms, by omega, fun H93 t94 as95 ls96 hR97 s98 n99 e_t94 hA_t94 => ?_⟩
      rw [hR97.det hRd] at hA_t94
      have n0_t94 : H t94 = none := keep_freeD kH hB n99
      have ap_t42_t94 : t42 ≠ t94 := ne_of_none e_t42 n99
      have ap_l83_t94 : l83 ≠ t94 := ne_of_none e_l83 n99
      have ap_l86_t94 : l86 ≠ t94 := ne_of_none e_l86 n99
      have ne_t94 : t94 ≠ b := (hB.ne_new n99).symm
      replace e_t9 := s98 _ _ e_t9
      replace e_mt := s98 _ _ e_mt
      replace e_t42 := s98 _ _ e_t42
      replace hA_t42 := tups_same s98 hA_t42
      replace e_l83 := s98 _ _ e_l83
      replace e_l86 := s98 _ _ e_l86
      replace hB := hB.same s98
      replace kH := kH.trans (Keep.of_same s98)
      refine ⟨t94, _, rfl, .inl (.inl (.inl e_t94)), ?_⟩
      rw [show ((as95.map V.ref).length : Int) = ((lsd.length : Nat) : Int) by rw [List.length_map, hA_t94.length]]
      refine ⟨(by show 3 ≤ sizeLine; decide), fun l100 nl100 => ?_⟩
      have ne_l100 : l100 ≠ b := (hB.ne_new nl100).symm
      have s101 : Same H93 (upd H93 l100 (.lst [.int (Fr), .int (Fr), .int (lsd.length : Nat)])) := same_new nl100
      have e_l100 : upd H93 l100 (.lst [.int (Fr), .int (Fr), .int (lsd.length : Nat)]) l100 = some (.lst [.int (Fr), .int (Fr), .int (lsd.length : Nat)]) := upd_same
      revert s101 e_l100; generalize upd H93 l100 (.lst [.int (Fr), .int (Fr), .int (lsd.length : Nat)]) = H102; intro s101 e_l100
      replace e_t9 := s101 _ _ e_t9
      replace e_mt := s101 _ _ e_mt
      replace e_t42 := s101 _ _ e_t42
      replace hA_t42 := tups_same s101 hA_t42
      replace hB := hB.same s101
      replace kH := kH.trans (Keep.of_same s101)
      first | refine st_set [some (.ref b), some (.int (((0 : Int) + (i0 : Nat)))), some (.int (N : Nat)), some (.ref t9), some (.ref mt), some (.ref t42), some (.ref l100), y_far, y_odd, none, none] ?_ rfl | refine st_eq [some (.ref b), some (.int (((0 : Int) + (i0 : Nat)))), some (.int (N : Nat)), some (.ref t9), some (.ref mt), some (.ref t42), some (.ref l100), y_far, y_odd, none, none] ?_ rfl
      refine ⟨_, rfl, _, 2, rfl, rfl, ⟨by decide, by decide⟩, _, rfl, t42, _, rfl, .inl (.inl (.inl e_t42)), _, _, rfl, rfl, ?_⟩
      have eFr : ((N : Int) / 2) - ((as43.map V.ref).length : Int) = Fr := by rw [hFr, List.length_map, hA_t42.length]; rfl
      refine st_set [some (.ref b), some (.int (((0 : Int) + (i0 : Nat)))), some (.int (N : Nat)), some (.ref t9), some (.ref mt), some (.ref t42), some (.ref l100), some (.int (Fr)), y_odd, none, none] ?_ (by rw [← eFr]; rfl)
      have hFb : Fr.natAbs < 2 ^ 60 := by omega
      refine ⟨_, rfl, _, rfl, _, rfl, _, rfl, t42, _, rfl, .inl (.inl (.inl e_t42)), ?_⟩
      rw [show ((as43.map V.ref).length : Int) = ((lsd.length : Nat) : Int) by rw [List.length_map, hA_t42.length]]
      refine ⟨(by show 3 ≤ sizeLine; decide), fun l103 nl103 => ?_⟩
      have ne_l103 : l103 ≠ b := (hB.ne_new nl103).symm
      have s104 : Same H102 (upd H102 l103 (.lst [.int (Fr), .int (Fr), .int (lsd.length : Nat)])) := same_new nl103
      have e_l103 : upd H102 l103 (.lst [.int (Fr), .int (Fr), .int (lsd.length : Nat)]) l103 = some (.lst [.int (Fr), .int (Fr), .int (lsd.length : Nat)]) := upd_same
      revert s104 e_l103; generalize upd H102 l103 (.lst [.int (Fr), .int (Fr), .int (lsd.length : Nat)]) = H105; intro s104 e_l103
      replace e_t9 := s104 _ _ e_t9
      replace e_mt := s104 _ _ e_mt
      replace e_t42 := s104 _ _ e_t42
      replace hA_t42 := tups_same s104 hA_t42
      replace e_l100 := s104 _ _ e_l100
      replace hB := hB.same s104
      replace kH := kH.trans (Keep.of_same s104)
      have fk106 : Fi 1 (.list [.int (Fr), .int (Fr), .int ((lsd.length : Nat))]) := fi_list (j := 0) (n := 3) (fa_cons (fi_int (by omega)) (fa_cons (fi_int (by omega)) (fa_cons (fi_int (by omega)) fa_nil))) rfl (by decide)
      refine ⟨_, _, _, rfl, .lst (.inl (.inl e_l100)) (.cons (.int _) (.cons (.int _) (.cons (.int _) .nil))), .lst (.inl (.inl e_l103)) (.cons (.int _) (.cons (.int _) (.cons (.int _) .nil))), Nat.lt_succ_of_le (Nat.le_trans fk106.depth (by decide)), fk106.nar, fun H107 s108 => ?_⟩
      replace e_t9 := s108 _ _ e_t9
      replace e_mt := s108 _ _ e_mt
      replace e_t42 := s108 _ _ e_t42
      replace hA_t42 := tups_same s108 hA_t42
      replace e_l100 := s108 _ _ e_l100
      replace e_l103 := s108 _ _ e_l103
      replace hB := hB.same s108
      replace kH := kH.trans (Keep.of_same s108)
      refine ⟨true, rfl, iteN ?_⟩
      refine ⟨_, rfl, t42, rfl, ⟨_, .inl (.inl e_t42)⟩, fun Dl nDl => ?_⟩
      refine lc_list (xs := as43.map V.ref) (fun i H' => Same H107 H' ∧ ∃ gs : List Addr, H' Dl = some (.lst (gs.map V.ref)) ∧ Lsts H' gs ((lsd.take i).map nv) ∧ ∀ g ∈ gs, g ≠ Dl) ⟨same_new nDl, [], upd_same, .nil, fun _ h => absurd h List.not_mem_nil⟩ (fun i H' _ h => .inl (.inl (h.1 _ _ e_t42))) (fun i v H' hv h => ?_) (fun H' h => ?_)
      · obtain ⟨sm, gs, eD, hg, hgD⟩ := h
        rw [List.getElem?_map] at hv
        obtain ⟨u, hu', rfl⟩ := Option.map_eq_some_iff.mp hv
        obtain ⟨l, el, hu⟩ := tups_get hA_t42 hu'
        refine ⟨rfl, yes_if ⟨_, rfl, u, _, rfl, .inr (.inl (.inl (sm _ _ hu))), fun g ng => ⟨_, same_new ng _ _ eD, ?_, fun y o hy => ?_, gs ++ [g], ?_, ?_, ?_⟩⟩⟩
        · rw [List.length_map, lsts_len hg, List.length_map, List.length_take]; exact small1000 (by omega)
        · rw [upd_ne (ne_of_none hy nDl)]; exact same_new ng _ _ (sm _ _ hy)
        · rw [upd_same, List.map_append]; rfl
        · have gD : g ≠ Dl := fun e => by rw [e, eD] at ng; cases ng
          rw [List.take_add_one, el, List.map_append]
          exact lsts_snoc (lsts_upd hgD (lsts_same (same_new ng) hg)) (by rw [upd_ne gD, upd_same])
        · intro z hz
          rcases List.mem_append.mp hz with hz | hz
          · exact hgD z hz
          · rw [List.mem_singleton.mp hz]; exact fun e => by rw [e, eD] at ng; cases ng
      obtain ⟨sL, gs, e_Dl, hLs, _⟩ := h
      rw [List.length_map, hA_t42.length, List.take_length] at hLs
      revert sL e_Dl hLs; generalize H' = HL; intro sL e_Dl hLs
      replace e_t9 := sL _ _ e_t9
      replace e_mt := sL _ _ e_mt
      replace e_t42 := sL _ _ e_t42
      replace hA_t42 := tups_same sL hA_t42
      replace hB := hB.same sL
      replace kH := kH.trans (Keep.of_same sL)
      refine ⟨(by show 0 ≤ sizeLine; decide), fun l109 nl109 => ?_⟩
      have ne_l109 : l109 ≠ b := (hB.ne_new nl109).symm
      have s110 : Same HL (upd HL l109 (.lst [])) := same_new nl109
      have e_l109 : upd HL l109 (.lst []) l109 = some (.lst []) := upd_same
      revert s110 e_l109; generalize upd HL l109 (.lst []) = H111; intro s110 e_l109
      replace e_t9 := s110 _ _ e_t9
      replace e_mt := s110 _ _ e_mt
      replace e_t42 := s110 _ _ e_t42
      replace hA_t42 := tups_same s110 hA_t42
      replace e_Dl := s110 _ _ e_Dl
      replace hLs := lsts_same s110 hLs
      replace hB := hB.same s110
      replace kH := kH.trans (Keep.of_same s110)
      have hI := hRd.inv hp11 hms (Nat.le_refl _)
      have hIl := hI.len
      refine ⟨Dl, l109, gs, lsd.map nv, [], rfl, .inl (.inl e_Dl), e_l109, hLs, ?_, fun Hs rs ss _ ers => ?_⟩
      · rw [flat_nv, nv_length]; exact Nat.le_of_lt (small1000 (by show 0 + _ ≤ 1000; omega))
      rw [List.nil_append, flat_nv] at ers
      replace e_t9 := ss _ _ e_t9
      replace e_mt := ss _ _ e_mt
      replace e_t42 := ss _ _ e_t42
      replace hA_t42 := tups_same ss hA_t42
      replace hB := hB.same ss
      replace kH := kH.trans (Keep.of_same ss)
      refine sort_natsN (t := List.range N) (.inl (.inl ers)) (by omega) hI.perm.symm List.pairwise_lt_range fun l112 nl112 => ?_
      have ne_l112 : l112 ≠ b := (hB.ne_new nl112).symm
      have s113 : Same Hs (upd Hs l112 (.lst (nv (List.range N)))) := same_new nl112
      have e_l112 : upd Hs l112 (.lst (nv (List.range N))) l112 = some (.lst (nv (List.range N))) := upd_same
      revert s113 e_l112; generalize upd Hs l112 (.lst (nv (List.range N))) = H114; intro s113 e_l112
      replace e_t9 := s113 _ _ e_t9
      replace e_mt := s113 _ _ e_mt
      replace e_t42 := s113 _ _ e_t42
      replace hA_t42 := tups_same s113 hA_t42
      replace hB := hB.same s113
      replace kH := kH.trans (Keep.of_same s113)
      refine ⟨.int N, rfl, N, rfl, RgOk.of_le (by decide) (by omega) (by decide) (by omega), fun l115 nl115 => ?_⟩
      rw [rg_nv]
      have ne_l115 : l115 ≠ b := (hB.ne_new nl115).symm
      have s116 : Same H114 (upd H114 l115 (.lst (nv (List.range N)))) := same_new nl115
      have e_l115 : upd H114 l115 (.lst (nv (List.range N))) l115 = some (.lst (nv (List.range N))) := upd_same
      revert s116 e_l115; generalize upd H114 l115 (.lst (nv (List.range N))) = H117; intro s116 e_l115
      replace e_t9 := s116 _ _ e_t9
      replace e_mt := s116 _ _ e_mt
      replace e_t42 := s116 _ _ e_t42
      replace hA_t42 := tups_same s116 hA_t42
      replace e_l112 := s116 _ _ e_l112
      replace hB := hB.same s116
      replace kH := kH.trans (Keep.of_same s116)
      have fkr : Fi 1 (.list (nd (List.range N))) := fi_lst ⟨by rw [List.length_range]; omega, fun i hi => by have := List.mem_range.mp hi; omega⟩
      refine ⟨_, _, .lst (.inl (.inl e_l112)) (dp_nats _), .lst (.inl (.inl e_l115)) (dp_nats _), fkr.sh, fkr.sh, _, rfl, iteX (fi_ne fkr) ?_⟩
      refine ⟨_, rfl, _, rfl, _, _, rfl, rfl, _, rfl, ?_⟩
      by_cases cn : (N : Int) < 20
      · skip
        refine iteY (decide_eq_true cn) ⟨_, rfl, _, 2, rfl, rfl, ?_⟩
        obtain ⟨M, hM1, hM2, hM3, hM4⟩ : ∃ M : Nat, ((N : Int) + 2) = (M : Int) ∧ M ≠ N ∧ M % 2 = 0 ∧ M ≤ 20 := ⟨N + 2, by omega, by omega, by omega, by omega⟩
        rw [show (fun i j => V.int (i + j)) (N : Int) 2 = V.int ((M : Nat) : Int) from congrArg V.int hM1]
        refine ⟨b, m + 20, M, rfl, hB.mono (by omega), by omega, by omega, fun H118 t119 ps120 hp121 k122 hB123 n124 e_t119 => ?_⟩
        obtain ⟨y_hy125, hy125⟩ := hB.lst
        replace e_t9 := k122.tup hy125 e_t9
        replace e_mt := k122.tup hy125 e_mt
        replace e_t42 := k122 _ _ ne_t42 e_t42
        replace hA_t42 := tups_keep k122 hy125 hA_t42
        clear hB
        have hB := hB123
        replace kH := kH.trans k122
        first | refine st_set [some (.ref b), some (.int (((0 : Int) + (i0 : Nat)))), some (.int (N : Nat)), some (.ref t9), some (.ref mt), some (.ref t42), some (.ref l100), some (.int (Fr)), some (.ref t119), none, none] ?_ rfl | refine st_eq [some (.ref b), some (.int (((0 : Int) + (i0 : Nat)))), some (.int (N : Nat)), some (.ref t9), some (.ref mt), some (.ref t42), some (.ref l100), some (.int (Fr)), some (.ref t119), none, none] ?_ rfl
        refine ⟨5, rfl, by decide, by decide, fun D126 nD126 => ?_⟩
        refine lc_range (n := 5) (fun i H' => Same H118 H' ∧ H' D126 = some (.lst (List.replicate i (.int (M : Nat))))) ⟨same_new nD126, upd_same⟩ (fun i H' hi hPv => ?_) (fun H' hPv => ?_)
        · obtain ⟨sm, eD⟩ := hPv
          refine ⟨rfl, yes_if ⟨_, rfl, _, rfl, _, rfl, (0 : Int) + (i : Nat), t9, t119, _, _, rfl, .inr (.inl (.inl (sm _ _ e_t9))), .inr (.inl (.inl (sm _ _ e_t119))), by rw [hp11.len, hp121.len]; omega, by omega, by omega, fun H6 s6 => ⟨_, s6 _ _ eD, ?_, fun z o hz => ?_, ?_⟩⟩⟩
          · rw [List.length_replicate]; exact small1000 (by omega)
          · rw [upd_ne (ne_of_none hz nD126)]; exact s6 _ _ (sm _ _ hz)
          · rw [upd_same, hp121.len, List.replicate_succ']
        obtain ⟨s127, e_D126⟩ := hPv
        replace e_D126 : H' D126 = some (.lst [.int (M : Nat), .int (M : Nat), .int (M : Nat), .int (M : Nat), .int (M : Nat)]) := e_D126
        revert s127 e_D126; generalize H' = H128; intro s127 e_D126
        have ne_D126 : D126 ≠ b := (hB.ne_new nD126).symm
        replace e_t9 := s127 _ _ e_t9
        replace e_mt := s127 _ _ e_mt
        replace e_t119 := s127 _ _ e_t119
        replace hB := hB.same s127
        replace kH := kH.trans (Keep.of_same s127)
        refine ⟨_, rfl, t119, _, rfl, .inr (.inl (.inl e_t119)), ?_⟩
        rw [show ((nv ps120).length : Int) = ((M : Nat) : Int) by rw [nv_length, hp121.len]]
        refine ⟨(by show 1 ≤ sizeLine; decide), fun l129 nl129 => ?_⟩
        have ne_l129 : l129 ≠ b := (hB.ne_new nl129).symm
        have s130 : Same H128 (upd H128 l129 (.lst [.int (M : Nat)])) := same_new nl129
        have e_l129 : upd H128 l129 (.lst [.int (M : Nat)]) l129 = some (.lst [.int (M : Nat)]) := upd_same
        revert s130 e_l129; generalize upd H128 l129 (.lst [.int (M : Nat)]) = H131; intro s130 e_l129
        replace e_t9 := s130 _ _ e_t9
        replace e_mt := s130 _ _ e_mt
        replace e_t119 := s130 _ _ e_t119
        replace e_D126 := s130 _ _ e_D126
        replace hB := hB.same s130
        replace kH := kH.trans (Keep.of_same s130)
        refine ⟨l129, 5, _, rfl, rfl, e_l129, by decide, by decide, (by show 1 * 5 ≤ sizeLine; decide), fun l132 nl132 => ?_⟩
        rw [show (List.replicate (Int.toNat 5) [V.int (M : Nat)]).flatten = [V.int (M : Nat), V.int (M : Nat), V.int (M : Nat), V.int (M : Nat), V.int (M : Nat)] from rfl]
        have ne_l132 : l132 ≠ b := (hB.ne_new nl132).symm
        have s133 : Same H131 (upd H131 l132 (.lst [.int (M : Nat), .int (M : Nat), .int (M : Nat), .int (M : Nat), .int (M : Nat)])) := same_new nl132
        have e_l132 : upd H131 l132 (.lst [.int (M : Nat), .int (M : Nat), .int (M : Nat), .int (M : Nat), .int (M : Nat)]) l132 = some (.lst [.int (M : Nat), .int (M : Nat), .int (M : Nat), .int (M : Nat), .int (M : Nat)]) := upd_same
        revert s133 e_l132; generalize upd H131 l132 (.lst [.int (M : Nat), .int (M : Nat), .int (M : Nat), .int (M : Nat), .int (M : Nat)]) = H134; intro s133 e_l132
        replace e_t9 := s133 _ _ e_t9
        replace e_mt := s133 _ _ e_mt
        replace e_t119 := s133 _ _ e_t119
        replace e_D126 := s133 _ _ e_D126
        replace e_l129 := s133 _ _ e_l129
        replace hB := hB.same s133
        replace kH := kH.trans (Keep.of_same s133)
        have fk135 : Fi 1 (.list [.int ((M : Nat)), .int ((M : Nat)), .int ((M : Nat)), .int ((M : Nat)), .int ((M : Nat))]) := fi_list (j := 0) (n := 5) (fa_cons (fi_int (by omega)) (fa_cons (fi_int (by omega)) (fa_cons (fi_int (by omega)) (fa_cons (fi_int (by omega)) (fa_cons (fi_int (by omega)) fa_nil))))) rfl (by decide)
        refine ⟨_, _, _, rfl, .lst (.inl (.inl e_D126)) (.cons (.int _) (.cons (.int _) (.cons (.int _) (.cons (.int _) (.cons (.int _) .nil))))), .lst (.inl (.inl e_l132)) (.cons (.int _) (.cons (.int _) (.cons (.int _) (.cons (.int _) (.cons (.int _) .nil))))), Nat.lt_succ_of_le (Nat.le_trans fk135.depth (by decide)), fk135.nar, fun H136 s137 => ?_⟩
        replace e_t9 := s137 _ _ e_t9
        replace e_mt := s137 _ _ e_mt
        replace e_t119 := s137 _ _ e_t119
        replace e_D126 := s137 _ _ e_D126
        replace e_l129 := s137 _ _ e_l129
        replace e_l132 := s137 _ _ e_l132
        replace hB := hB.same s137
        replace kH := kH.trans (Keep.of_same s137)
        refine ⟨true, rfl, iteN ?_⟩
        refine ⟨5, rfl, by decide, by decide, fun D138 nD138 => ?_⟩
        refine lc_range (n := 5) (fun i H' => Same H136 H' ∧ H' D138 = some (.lst (List.replicate i (.int (N : Nat))))) ⟨same_new nD138, upd_same⟩ (fun i H' hi hPv => ?_) (fun H' hPv => ?_)
        · obtain ⟨sm, eD⟩ := hPv
          refine ⟨rfl, yes_if ⟨_, rfl, _, rfl, _, rfl, (0 : Int) + (i : Nat), t119, t9, _, _, rfl, .inr (.inl (.inl (sm _ _ e_t119))), .inr (.inl (.inl (sm _ _ e_t9))), by rw [hp121.len, hp11.len]; omega, by omega, by omega, fun H6 s6 => ⟨_, s6 _ _ eD, ?_, fun z o hz => ?_, ?_⟩⟩⟩
          · rw [List.length_replicate]; exact small1000 (by omega)
          · rw [upd_ne (ne_of_none hz nD138)]; exact s6 _ _ (sm _ _ hz)
          · rw [upd_same, hp11.len, List.replicate_succ']
        obtain ⟨s139, e_D138⟩ := hPv
        replace e_D138 : H' D138 = some (.lst [.int (N : Nat), .int (N : Nat), .int (N : Nat), .int (N : Nat), .int (N : Nat)]) := e_D138
        revert s139 e_D138; generalize H' = H140; intro s139 e_D138
        have ne_D138 : D138 ≠ b := (hB.ne_new nD138).symm
        replace e_t9 := s139 _ _ e_t9
        replace e_mt := s139 _ _ e_mt
        replace e_t119 := s139 _ _ e_t119
        replace hB := hB.same s139
        replace kH := kH.trans (Keep.of_same s139)
        refine ⟨_, rfl, (by show 1 ≤ sizeLine; decide), fun l141 nl141 => ?_⟩
        have ne_l141 : l141 ≠ b := (hB.ne_new nl141).symm
        have s142 : Same H140 (upd H140 l141 (.lst [.int (N : Nat)])) := same_new nl141
        have e_l141 : upd H140 l141 (.lst [.int (N : Nat)]) l141 = some (.lst [.int (N : Nat)]) := upd_same
        revert s142 e_l141; generalize upd H140 l141 (.lst [.int (N : Nat)]) = H143; intro s142 e_l141
        replace e_t9 := s142 _ _ e_t9
        replace e_mt := s142 _ _ e_mt
        replace e_t119 := s142 _ _ e_t119
        replace e_D138 := s142 _ _ e_D138
        replace hB := hB.same s142
        replace kH := kH.trans (Keep.of_same s142)
        refine ⟨l141, 5, _, rfl, rfl, e_l141, by decide, by decide, (by show 1 * 5 ≤ sizeLine; decide), fun l144 nl144 => ?_⟩
        rw [show (List.replicate (Int.toNat 5) [V.int (N : Nat)]).flatten = [V.int (N : Nat), V.int (N : Nat), V.int (N : Nat), V.int (N : Nat), V.int (N : Nat)] from rfl]
        have ne_l144 : l144 ≠ b := (hB.ne_new nl144).symm
        have s145 : Same H143 (upd H143 l144 (.lst [.int (N : Nat), .int (N : Nat), .int (N : Nat), .int (N : Nat), .int (N : Nat)])) := same_new nl144
        have e_l144 : upd H143 l144 (.lst [.int (N : Nat), .int (N : Nat), .int (N : Nat), .int (N : Nat), .int (N : Nat)]) l144 = some (.lst [.int (N : Nat), .int (N : Nat), .int (N : Nat), .int (N : Nat), .int (N : Nat)]) := upd_same
        revert s145 e_l144; generalize upd H143 l144 (.lst [.int (N : Nat), .int (N : Nat), .int (N : Nat), .int (N : Nat), .int (N : Nat)]) = H146; intro s145 e_l144
        replace e_t9 := s145 _ _ e_t9
        replace e_mt := s145 _ _ e_mt
        replace e_t119 := s145 _ _ e_t119
        replace e_D138 := s145 _ _ e_D138
        replace e_l141 := s145 _ _ e_l141
        replace hB := hB.same s145
        replace kH := kH.trans (Keep.of_same s145)
        have fk147 : Fi 1 (.list [.int ((N : Nat)), .int ((N : Nat)), .int ((N : Nat)), .int ((N : Nat)), .int ((N : Nat))]) := fi_list (j := 0) (n := 5) (fa_cons (fi_int (by omega)) (fa_cons (fi_int (by omega)) (fa_cons (fi_int (by omega)) (fa_cons (fi_int (by omega)) (fa_cons (fi_int (by omega)) fa_nil))))) rfl (by decide)
        refine ⟨_, _, _, rfl, .lst (.inl (.inl e_D138)) (.cons (.int _) (.cons (.int _) (.cons (.int _) (.cons (.int _) (.cons (.int _) .nil))))), .lst (.inl (.inl e_l144)) (.cons (.int _) (.cons (.int _) (.cons (.int _) (.cons (.int _) (.cons (.int _) .nil))))), Nat.lt_succ_of_le (Nat.le_trans fk147.depth (by decide)), fk147.nar, fun H148 s149 => ?_⟩
        replace e_t9 := s149 _ _ e_t9
        replace e_mt := s149 _ _ e_mt
        replace e_t119 := s149 _ _ e_t119
        replace e_D138 := s149 _ _ e_D138
        replace e_l141 := s149 _ _ e_l141
        replace e_l144 := s149 _ _ e_l144
        replace hB := hB.same s149
        replace kH := kH.trans (Keep.of_same s149)
        refine ⟨true, rfl, iteN ?_⟩
        exact ⟨kH, hB.mono (by omega), _, _, _, _, _, _, _, _, rfl⟩
      · skip
        refine iteX (decide_eq_false cn) ⟨_, rfl, _, 2, rfl, rfl, ?_⟩
        obtain ⟨M, hM1, hM2, hM3, hM4⟩ : ∃ M : Nat, ((N : Int) - 2) = (M : Int) ∧ M ≠ N ∧ M % 2 = 0 ∧ M ≤ 20 := ⟨N - 2, by omega, by omega, by omega, by omega⟩
        rw [show (fun i j => V.int (i - j)) (N : Int) 2 = V.int ((M : Nat) : Int) from congrArg V.int hM1]
        refine ⟨b, m + 20, M, rfl, hB.mono (by omega), by omega, by omega, fun H150 t151 ps152 hp153 k154 hB155 n156 e_t151 => ?_⟩
        obtain ⟨y_hy157, hy157⟩ := hB.lst
        replace e_t9 := k154.tup hy157 e_t9
        replace e_mt := k154.tup hy157 e_mt
        replace e_t42 := k154 _ _ ne_t42 e_t42
        replace hA_t42 := tups_keep k154 hy157 hA_t42
        clear hB
        have hB := hB155
        replace kH := kH.trans k154
        first | refine st_set [some (.ref b), some (.int (((0 : Int) + (i0 : Nat)))), some (.int (N : Nat)), some (.ref t9), some (.ref mt), some (.ref t42), some (.ref l100), some (.int (Fr)), some (.ref t151), none, none] ?_ rfl | refine st_eq [some (.ref b), some (.int (((0 : Int) + (i0 : Nat)))), some (.int (N : Nat)), some (.ref t9), some (.ref mt), some (.ref t42), some (.ref l100), some (.int (Fr)), some (.ref t151), none, none] ?_ rfl
        refine ⟨5, rfl, by decide, by decide, fun D158 nD158 => ?_⟩
        refine lc_range (n := 5) (fun i H' => Same H150 H' ∧ H' D158 = some (.lst (List.replicate i (.int (M : Nat))))) ⟨same_new nD158, upd_same⟩ (fun i H' hi hPv => ?_) (fun H' hPv => ?_)
        · obtain ⟨sm, eD⟩ := hPv
          refine ⟨rfl, yes_if ⟨_, rfl, _, rfl, _, rfl, (0 : Int) + (i : Nat), t9, t151, _, _, rfl, .inr (.inl (.inl (sm _ _ e_t9))), .inr (.inl (.inl (sm _ _ e_t151))), by rw [hp11.len, hp153.len]; omega, by omega, by omega, fun H6 s6 => ⟨_, s6 _ _ eD, ?_, fun z o hz => ?_, ?_⟩⟩⟩
          · rw [List.length_replicate]; exact small1000 (by omega)
          · rw [upd_ne (ne_of_none hz nD158)]; exact s6 _ _ (sm _ _ hz)
          · rw [upd_same, hp153.len, List.replicate_succ']
        obtain ⟨s159, e_D158⟩ := hPv
        replace e_D158 : H' D158 = some (.lst [.int (M : Nat), .int (M : Nat), .int (M : Nat), .int (M : Nat), .int (M : Nat)]) := e_D158
        revert s159 e_D158; generalize H' = H160; intro s159 e_D158
        have ne_D158 : D158 ≠ b := (hB.ne_new nD158).symm
        replace e_t9 := s159 _ _ e_t9
        replace e_mt := s159 _ _ e_mt
        replace e_t151 := s159 _ _ e_t151
        replace hB := hB.same s159
        replace kH := kH.trans (Keep.of_same s159)
        refine ⟨_, rfl, t151, _, rfl, .inr (.inl (.inl e_t151)), ?_⟩
        rw [show ((nv ps152).length : Int) = ((M : Nat) : Int) by rw [nv_length, hp153.len]]
        refine ⟨(by show 1 ≤ sizeLine; decide), fun l161 nl161 => ?_⟩
        have ne_l161 : l161 ≠ b := (hB.ne_new nl161).symm
        have s162 : Same H160 (upd H160 l161 (.lst [.int (M : Nat)])) := same_new nl161
        have e_l161 : upd H160 l161 (.lst [.int (M : Nat)]) l161 = some (.lst [.int (M : Nat)]) := upd_same
        revert s162 e_l161; generalize upd H160 l161 (.lst [.int (M : Nat)]) = H163; intro s162 e_l161
        replace e_t9 := s162 _ _ e_t9
        replace e_mt := s162 _ _ e_mt
        replace e_t151 := s162 _ _ e_t151
        replace e_D158 := s162 _ _ e_D158
        replace hB := hB.same s162
        replace kH := kH.trans (Keep.of_same s162)
        refine ⟨l161, 5, _, rfl, rfl, e_l161, by decide, by decide, (by show 1 * 5 ≤ sizeLine; decide), fun l164 nl164 => ?_⟩
        rw [show (List.replicate (Int.toNat 5) [V.int (M : Nat)]).flatten = [V.int (M : Nat), V.int (M : Nat), V.int (M : Nat), V.int (M : Nat), V.int (M : Nat)] from rfl]
        have ne_l164 : l164 ≠ b := (hB.ne_new nl164).symm
        have s165 : Same H163 (upd H163 l164 (.lst [.int (M : Nat), .int (M : Nat), .int (M : Nat), .int (M : Nat), .int (M : Nat)])) := same_new nl164
        have e_l164 : upd H163 l164 (.lst [.int (M : Nat), .int (M : Nat), .int (M : Nat), .int (M : Nat), .int (M : Nat)]) l164 = some (.lst [.int (M : Nat), .int (M : Nat), .int (M : Nat), .int (M : Nat), .int (M : Nat)]) := upd_same
        revert s165 e_l164; generalize upd H163 l164 (.lst [.int (M : Nat), .int (M : Nat), .int (M : Nat), .int (M : Nat), .int (M : Nat)]) = H166; intro s165 e_l164
        replace e_t9 := s165 _ _ e_t9
        replace e_mt := s165 _ _ e_mt
        replace e_t151 := s165 _ _ e_t151
        replace e_D158 := s165 _ _ e_D158
        replace e_l161 := s165 _ _ e_l161
        replace hB := hB.same s165
        replace kH := kH.trans (Keep.of_same s165)
        have fk167 : Fi 1 (.list [.int ((M : Nat)), .int ((M : Nat)), .int ((M : Nat)), .int ((M : Nat)), .int ((M : Nat))]) := fi_list (j := 0) (n := 5) (fa_cons (fi_int (by omega)) (fa_cons (fi_int (by omega)) (fa_cons (fi_int (by omega)) (fa_cons (fi_int (by omega)) (fa_cons (fi_int (by omega)) fa_nil))))) rfl (by decide)
        refine ⟨_, _, _, rfl, .lst (.inl (.inl e_D158)) (.cons (.int _) (.cons (.int _) (.cons (.int _) (.cons (.int _) (.cons (.int _) .nil))))), .lst (.inl (.inl e_l164)) (.cons (.int _) (.cons (.int _) (.cons (.int _) (.cons (.int _) (.cons (.int _) .nil))))), Nat.lt_succ_of_le (Nat.le_trans fk167.depth (by decide)), fk167.nar, fun H168 s169 => ?_⟩
        replace e_t9 := s169 _ _ e_t9
        replace e_mt := s169 _ _ e_mt
        replace e_t151 := s169 _ _ e_t151
        replace e_D158 := s169 _ _ e_D158
        replace e_l161 := s169 _ _ e_l161
        replace e_l164 := s169 _ _ e_l164
        replace hB := hB.same s169
        replace kH := kH.trans (Keep.of_same s169)
        refine ⟨true, rfl, iteN ?_⟩
        refine ⟨5, rfl, by decide, by decide, fun D170 nD170 => ?_⟩
        refine lc_range (n := 5) (fun i H' => Same H168 H' ∧ H' D170 = some (.lst (List.replicate i (.int (N : Nat))))) ⟨same_new nD170, upd_same⟩ (fun i H' hi hPv => ?_) (fun H' hPv => ?_)
        · obtain ⟨sm, eD⟩ := hPv
          refine ⟨rfl, yes_if ⟨_, rfl, _, rfl, _, rfl, (0 : Int) + (i : Nat), t151, t9, _, _, rfl, .inr (.inl (.inl (sm _ _ e_t151))), .inr (.inl (.inl (sm _ _ e_t9))), by rw [hp153.len, hp11.len]; omega, by omega, by omega, fun H6 s6 => ⟨_, s6 _ _ eD, ?_, fun z o hz => ?_, ?_⟩⟩⟩
          · rw [List.length_replicate]; exact small1000 (by omega)
          · rw [upd_ne (ne_of_none hz nD170)]; exact s6 _ _ (sm _ _ hz)
          · rw [upd_same, hp11.len, List.replicate_succ']
        obtain ⟨s171, e_D170⟩ := hPv
        replace e_D170 : H' D170 = some (.lst [.int (N : Nat), .int (N : Nat), .int (N : Nat), .int (N : Nat), .int (N : Nat)]) := e_D170
        revert s171 e_D170; generalize H' = H172; intro s171 e_D170
        have ne_D170 : D170 ≠ b := (hB.ne_new nD170).symm
        replace e_t9 := s171 _ _ e_t9
        replace e_mt := s171 _ _ e_mt
        replace e_t151 := s171 _ _ e_t151
        replace hB := hB.same s171
        replace kH := kH.trans (Keep.of_same s171)
        refine ⟨_, rfl, (by show 1 ≤ sizeLine; decide), fun l173 nl173 => ?_⟩
        have ne_l173 : l173 ≠ b := (hB.ne_new nl173).symm
        have s174 : Same H172 (upd H172 l173 (.lst [.int (N : Nat)])) := same_new nl173
        have e_l173 : upd H172 l173 (.lst [.int (N : Nat)]) l173 = some (.lst [.int (N : Nat)]) := upd_same
        revert s174 e_l173; generalize upd H172 l173 (.lst [.int (N : Nat)]) = H175; intro s174 e_l173
        replace e_t9 := s174 _ _ e_t9
        replace e_mt := s174 _ _ e_mt
        replace e_t151 := s174 _ _ e_t151
        replace e_D170 := s174 _ _ e_D170
        replace hB := hB.same s174
        replace kH := kH.trans (Keep.of_same s174)
        refine ⟨l173, 5, _, rfl, rfl, e_l173, by decide, by decide, (by show 1 * 5 ≤ sizeLine; decide), fun l176 nl176 => ?_⟩
        rw [show (List.replicate (Int.toNat 5) [V.int (N : Nat)]).flatten = [V.int (N : Nat), V.int (N : Nat), V.int (N : Nat), V.int (N : Nat), V.int (N : Nat)] from rfl]
        have ne_l176 : l176 ≠ b := (hB.ne_new nl176).symm
        have s177 : Same H175 (upd H175 l176 (.lst [.int (N : Nat), .int (N : Nat), .int (N : Nat), .int (N : Nat), .int (N : Nat)])) := same_new nl176
        have e_l176 : upd H175 l176 (.lst [.int (N : Nat), .int (N : Nat), .int (N : Nat), .int (N : Nat), .int (N : Nat)]) l176 = some (.lst [.int (N : Nat), .int (N : Nat), .int (N : Nat), .int (N : Nat), .int (N : Nat)]) := upd_same
        revert s177 e_l176; generalize upd H175 l176 (.lst [.int (N : Nat), .int (N : Nat), .int (N : Nat), .int (N : Nat), .int (N : Nat)]) = H178; intro s177 e_l176
        replace e_t9 := s177 _ _ e_t9
        replace e_mt := s177 _ _ e_mt
        replace e_t151 := s177 _ _ e_t151
        replace e_D170 := s177 _ _ e_D170
        replace e_l173 := s177 _ _ e_l173
        replace hB := hB.same s177
        replace kH := kH.trans (Keep.of_same s177)
        have fk179 : Fi 1 (.list [.int ((N : Nat)), .int ((N : Nat)), .int ((N : Nat)), .int ((N : Nat)), .int ((N : Nat))]) := fi_list (j := 0) (n := 5) (fa_cons (fi_int (by omega)) (fa_cons (fi_int (by omega)) (fa_cons (fi_int (by omega)) (fa_cons (fi_int (by omega)) (fa_cons (fi_int (by omega)) fa_nil))))) rfl (by decide)
        refine ⟨_, _, _, rfl, .lst (.inl (.inl e_D170)) (.cons (.int _) (.cons (.int _) (.cons (.int _) (.cons (.int _) (.cons (.int _) .nil))))), .lst (.inl (.inl e_l176)) (.cons (.int _) (.cons (.int _) (.cons (.int _) (.cons (.int _) (.cons (.int _) .nil))))), Nat.lt_succ_of_le (Nat.le_trans fk179.depth (by decide)), fk179.nar, fun H180 s181 => ?_⟩
        replace e_t9 := s181 _ _ e_t9
        replace e_mt := s181 _ _ e_mt
        replace e_t151 := s181 _ _ e_t151
        replace e_D170 := s181 _ _ e_D170
        replace e_l173 := s181 _ _ e_l173
        replace e_l176 := s181 _ _ e_l176
        replace hB := hB.same s181
        replace kH := kH.trans (Keep.of_same s181)
        refine ⟨true, rfl, iteN ?_⟩
        exact ⟨kH, hB.mono (by omega), _, _, _, _, _, _, _, _, rfl⟩
    clear kH hB
    obtain ⟨kH, hB, y_turn, y_size, y_tie, y_mate, y_due, y_told, y_far, y_odd, rfl⟩ := hPv
    exact q _ kH (hB.mono (by omega))
end
end Pc
namespace Pc
open PySem PySem.Spec PyProof.Rows L2 RZ
theorem sqL_at {K : PySem.W.Frag} {H H' : Hp} {a : Addr} {xs : List V} (h : SqL K H a xs) (k : ∀ o, H a = some o → H' a = some o) : SqL K H' a xs := by
  rcases h with (h | ⟨o, h⟩) | h
  · exact .inl (.inl (k _ h))
  · exact .inl (.inr ⟨o, k _ h⟩)
  · exact .inr h
theorem sqL_ne {K : PySem.W.Frag} {H H' : Hp} {a : Addr} {xs : List V} (h : SqL K H a xs) (k : ∀ o, H a = some o → H' a = some o) : SqL K H' a xs := sqL_at h k
end Pc
namespace Pc
open PySem PySem.Spec PyProof.Rows L2 RZ
section
variable {P : Program} {w : World} {K : PySem.W.Frag} {mg : Str → Option Value} {base : Heap}
/-! ### the law -/
def spLaw (K : PySem.W.Frag) : Sp := fun vs H Q _ => ∃ (a : Addr) (ns : List Int), vs = [.ref a] ∧ SqL K H a (ns.map V.int) ∧ ns.length ≤ 63 ∧ ∀ H', Q (.bl true) H'
theorem ok_law (T : Env K mg) {f : Addr} {fd : FuncData} (F : Fun K "law" "law" s_law f fd) : FnOk P w K mg base CX0 9 f fd ["_law_script"] (spLaw K) := by
  have GB : FnOk P w K mg base CX0 1 T.f_box T.d_box ["_law_script", "_law_k"] (spBox K) := ok_box T
  have GR : FnOk P w K mg base CX0 8 T.f_right T.d_right ["_law_box_here"] spRight := ok_right T
  refine F.ok sc_law (fun vs H Q E h => ?_) (fun cdv A outer s H vs Q E hr h => ?_)
  · obtain ⟨a, ns, rfl, _⟩ := h
    rfl
  · obtain ⟨a, ns, rfl, hS, hn, q⟩ := h
    have h1 := hr.mono (show 1 ≤ 8 by decide)
    refine ⟨_, pss_one (ps_ret (pe_callB (cr_all rfl) (by rfl) T.n_all (by decide +kernel) (pa_cons
        (pe_lc (own := [("_law_k", 1)]) (g := gName 1) (tt := tYes) rfl sc_law.nd (pi_range1 (by rfl) T.n_range (pa_cons (pe_op op_add pe_int (pe_callB (call_min2 rfl) (by rfl) T.n_min (by decide +kernel) (pa_cons pe_int (pa_cons (pe_callB call_len_seq (by rfl) T.n_len PySem.boot_len (pa_cons (pv 0) pa_nil)) pa_nil)))) pa_nil)) (blkOk_by (N := N_law) (sc := defScope s_law) (by decide +kernel))
          (fun _ _ _ _ _ => pg_name (i := 1) sc_law.nd rfl (.inl rfl)) (fun _ _ _ _ _ => pts_nil)
          (fun _ _ _ _ _ => pe_call GR hr (by rfl) T.g_right T.F_right.kp T.b_right .nil pass0 (pa_cons (pe_call GB h1 (by rfl) T.g_box T.F_box.kp T.b_box .nil pass0 (pa_cons (pv 0) (pa_cons (pv 1) pa_nil))) pa_nil))) pa_nil))), ?_⟩
    have hm : ∃ m : Nat, (1 : Int) + (if ((ns.map V.int).length : Int) < 3 then ((ns.map V.int).length : Int) else 3) = (m : Int) ∧ m ≤ 4 := by
      split
      · exact ⟨1 + (ns.map V.int).length, by omega, by omega⟩
      · exact ⟨4, by omega, by omega⟩
    obtain ⟨m, em, hm4⟩ := hm
    refine ⟨_, rfl, a, _, rfl, .inl hS, 3, _, rfl, 1, _, rfl, rfl, ?_⟩
    rw [show (fun (i j : Int) => V.int (i + j)) 1 (if ((ns.map V.int).length : Int) < 3 then ((ns.map V.int).length : Int) else 3) = V.int (m : Int) from congrArg V.int em]
    refine ⟨_, rfl, by omega, by omega, fun D nD => ?_⟩
    rw [show ((m : Int)).toNat = m by omega]
    refine lc_range (n := m) (fun i H' => (∀ o, H a = some o → H' a = some o) ∧ H' D = some (.lst (List.replicate i (.bl true)))) ⟨fun o ho => same_new nD _ _ ho, upd_same⟩ (fun i H1 hi hPv => ?_) (fun H1 hPv => ?_)
    · obtain ⟨ha1, eD⟩ := hPv
      have hS1 : SqL K H1 a (ns.map V.int) := sqL_at hS ha1
      refine ⟨rfl, yes_if ⟨_, rfl, _, rfl, a, ns, i, ?_, hS1, by omega, fun H2 b s2 nb hB2 => ?_⟩⟩
      · show [V.ref a, V.int ((0 : Int) + (i : Nat))] = _
        rw [Int.zero_add]
      have eD2 := s2 _ _ eD
      have bD : D ≠ b := fun z => by
        obtain ⟨x, y, zz, ex, _⟩ := hB2
        rw [z] at eD; rw [nb] at eD; cases eD
      refine ⟨b, 0, rfl, hB2.mono (by decide), fun H3 k3 hB3 => ⟨_, k3 _ _ bD eD2, ?_, ?_, ?_⟩⟩
      · rw [List.length_replicate]; exact small1000 (by omega)
      · intro o ho
        have h1 := ha1 o ho
        rw [upd_ne (ne_of_none ho nD)]
        exact k3 _ _ (ne_of_none h1 nb) (s2 _ _ h1)
      · rw [upd_same, List.replicate_succ']
    · obtain ⟨_, eD⟩ := hPv
      refine ⟨D, List.replicate m true, rfl, by rw [List.map_replicate]; exact .inl (.inl eD), ?_⟩
      rw [all_rep]
      exact q _
end
end Pc
namespace Pc
open PySem PySem.Spec PyProof.Rows L2 RZ
theorem all_mk {l : PySem.W.OpenLaw} {w : World} {K : PySem.W.Frag} {h : Heap} {mg : Str → Option Value} {fa f_p_is_integer_below f_p_check_person f_p_check_call f_p_check_word f_p_is_call f_p_join_two f_p_called f_p_called_all f_p_check_sizes f_p_choice_at f_p_cycle_from f_p_cycles f_p_distance f_p_ways_to_split f_p_words_many f_p_splitting_calls f_p_first_calls f_p_word_at f_p_leads f_box f_take f_pick f_same f_strewn f_drawn_tie f_calls f_tour_of f_asked f_toured f_rounds f_sized f_right f_law C_OtherSize C_NotResult C_NotShortest f_i_OtherSize : Addr} (X : K.In h) (G : h.Ns mainGlobals mg) (hfa : mg "law" = some (.ref fa))
    {od_p_is_integer_below an_p_is_integer_below : Option Addr} {sl_p_is_integer_below : Array (Option Value)} {oc_p_is_integer_below kV_p_is_integer_below dc_p_is_integer_below pm_p_is_integer_below cd_p_is_integer_below ct_p_is_integer_below : Value}
    {od_p_check_person an_p_check_person : Option Addr} {sl_p_check_person : Array (Option Value)} {oc_p_check_person kV_p_check_person dc_p_check_person pm_p_check_person cd_p_check_person ct_p_check_person : Value}
    {od_p_check_call an_p_check_call : Option Addr} {sl_p_check_call : Array (Option Value)} {oc_p_check_call kV_p_check_call dc_p_check_call pm_p_check_call cd_p_check_call ct_p_check_call : Value}
    {od_p_check_word an_p_check_word : Option Addr} {sl_p_check_word : Array (Option Value)} {oc_p_check_word kV_p_check_word dc_p_check_word pm_p_check_word cd_p_check_word ct_p_check_word : Value}
    {od_p_is_call an_p_is_call : Option Addr} {sl_p_is_call : Array (Option Value)} {oc_p_is_call kV_p_is_call dc_p_is_call pm_p_is_call cd_p_is_call ct_p_is_call : Value}
    {od_p_join_two an_p_join_two : Option Addr} {sl_p_join_two : Array (Option Value)} {oc_p_join_two kV_p_join_two dc_p_join_two pm_p_join_two cd_p_join_two ct_p_join_two : Value}
    {od_p_called an_p_called : Option Addr} {sl_p_called : Array (Option Value)} {oc_p_called kV_p_called dc_p_called pm_p_called cd_p_called ct_p_called : Value}
    {od_p_called_all an_p_called_all : Option Addr} {sl_p_called_all : Array (Option Value)} {oc_p_called_all kV_p_called_all dc_p_called_all pm_p_called_all cd_p_called_all ct_p_called_all : Value}
    {od_p_check_sizes an_p_check_sizes : Option Addr} {sl_p_check_sizes : Array (Option Value)} {oc_p_check_sizes kV_p_check_sizes dc_p_check_sizes pm_p_check_sizes cd_p_check_sizes ct_p_check_sizes : Value}
    {od_p_choice_at an_p_choice_at : Option Addr} {sl_p_choice_at : Array (Option Value)} {oc_p_choice_at kV_p_choice_at dc_p_choice_at pm_p_choice_at cd_p_choice_at ct_p_choice_at : Value}
    {od_p_cycle_from an_p_cycle_from : Option Addr} {sl_p_cycle_from : Array (Option Value)} {oc_p_cycle_from kV_p_cycle_from dc_p_cycle_from pm_p_cycle_from cd_p_cycle_from ct_p_cycle_from : Value}
    {od_p_cycles an_p_cycles : Option Addr} {sl_p_cycles : Array (Option Value)} {oc_p_cycles kV_p_cycles dc_p_cycles pm_p_cycles cd_p_cycles ct_p_cycles : Value}
    {od_p_distance an_p_distance : Option Addr} {sl_p_distance : Array (Option Value)} {oc_p_distance kV_p_distance dc_p_distance pm_p_distance cd_p_distance ct_p_distance : Value}
    {od_p_ways_to_split an_p_ways_to_split : Option Addr} {sl_p_ways_to_split : Array (Option Value)} {oc_p_ways_to_split kV_p_ways_to_split dc_p_ways_to_split pm_p_ways_to_split cd_p_ways_to_split ct_p_ways_to_split : Value}
    {od_p_words_many an_p_words_many : Option Addr} {sl_p_words_many : Array (Option Value)} {oc_p_words_many kV_p_words_many dc_p_words_many pm_p_words_many cd_p_words_many ct_p_words_many : Value}
    {od_p_splitting_calls an_p_splitting_calls : Option Addr} {sl_p_splitting_calls : Array (Option Value)} {oc_p_splitting_calls kV_p_splitting_calls dc_p_splitting_calls pm_p_splitting_calls cd_p_splitting_calls ct_p_splitting_calls : Value}
    {od_p_first_calls an_p_first_calls : Option Addr} {sl_p_first_calls : Array (Option Value)} {oc_p_first_calls kV_p_first_calls dc_p_first_calls pm_p_first_calls cd_p_first_calls ct_p_first_calls : Value}
    {od_p_word_at an_p_word_at : Option Addr} {sl_p_word_at : Array (Option Value)} {oc_p_word_at kV_p_word_at dc_p_word_at pm_p_word_at cd_p_word_at ct_p_word_at : Value}
    {od_p_leads an_p_leads : Option Addr} {sl_p_leads : Array (Option Value)} {oc_p_leads kV_p_leads dc_p_leads pm_p_leads cd_p_leads ct_p_leads : Value}
    {od_box an_box : Option Addr} {sl_box : Array (Option Value)} {oc_box kV_box dc_box pm_box cd_box ct_box : Value}
    {od_take an_take : Option Addr} {sl_take : Array (Option Value)} {oc_take kV_take dc_take pm_take cd_take ct_take : Value}
    {od_pick an_pick : Option Addr} {sl_pick : Array (Option Value)} {oc_pick kV_pick dc_pick pm_pick cd_pick ct_pick : Value}
    {od_same an_same : Option Addr} {sl_same : Array (Option Value)} {oc_same kV_same dc_same pm_same cd_same ct_same : Value}
    {od_strewn an_strewn : Option Addr} {sl_strewn : Array (Option Value)} {oc_strewn kV_strewn dc_strewn pm_strewn cd_strewn ct_strewn : Value}
    {od_drawn_tie an_drawn_tie : Option Addr} {sl_drawn_tie : Array (Option Value)} {oc_drawn_tie kV_drawn_tie dc_drawn_tie pm_drawn_tie cd_drawn_tie ct_drawn_tie : Value}
    {od_calls an_calls : Option Addr} {sl_calls : Array (Option Value)} {oc_calls kV_calls dc_calls pm_calls cd_calls ct_calls : Value}
    {od_tour_of an_tour_of : Option Addr} {sl_tour_of : Array (Option Value)} {oc_tour_of kV_tour_of dc_tour_of pm_tour_of cd_tour_of ct_tour_of : Value}
    {od_asked an_asked : Option Addr} {sl_asked : Array (Option Value)} {oc_asked kV_asked dc_asked pm_asked cd_asked ct_asked : Value}
    {od_toured an_toured : Option Addr} {sl_toured : Array (Option Value)} {oc_toured kV_toured dc_toured pm_toured cd_toured ct_toured : Value}
    {od_rounds an_rounds : Option Addr} {sl_rounds : Array (Option Value)} {oc_rounds kV_rounds dc_rounds pm_rounds cd_rounds ct_rounds : Value}
    {od_sized an_sized : Option Addr} {sl_sized : Array (Option Value)} {oc_sized kV_sized dc_sized pm_sized cd_sized ct_sized : Value}
    {od_right an_right : Option Addr} {sl_right : Array (Option Value)} {oc_right kV_right dc_right pm_right cd_right ct_right : Value}
    {od_law an_law : Option Addr} {sl_law : Array (Option Value)} {oc_law kV_law dc_law pm_law cd_law ct_law : Value}
    {nm_OtherSize qn_OtherSize : Str} {Nn_OtherSize : Addr} {bs_OtherSize : List Value} {sn_OtherSize : List Str} {sub_OtherSize : List Value} {ab_OtherSize : Bool} {col_OtherSize : Option Bool} {dd_OtherSize : Option Addr} {m0_OtherSize m1_OtherSize m2_OtherSize m3_OtherSize m5_OtherSize : Option Value} {od_i_OtherSize an_i_OtherSize : Option Addr} {sl_i_OtherSize : Array (Option Value)} {oc_i_OtherSize kV_i_OtherSize dc_i_OtherSize pm_i_OtherSize cd_i_OtherSize ct_i_OtherSize : Value}
    (a_p_is_integer_below : PySem.W.nsIn K mainGlobals "is_integer_below" = some (some (.ref f_p_is_integer_below))) (l_p_is_integer_below : K.lookup f_p_is_integer_below = some ⟨oc_p_is_integer_below, od_p_is_integer_below, .func (PySem.W.fnOf "is_integer_below" "is_integer_below" (defArgs s_p_is_integer_below) (defBody s_p_is_integer_below) (defScope s_p_is_integer_below) .none kV_p_is_integer_below dc_p_is_integer_below pm_p_is_integer_below an_p_is_integer_below cd_p_is_integer_below ct_p_is_integer_below), sl_p_is_integer_below⟩) (c_p_is_integer_below : PySem.W.codeIn K cd_p_is_integer_below "is_integer_below" = true) (k_p_is_integer_below : PySem.W.keepIn K (.ref f_p_is_integer_below) = true)
    (a_p_check_person : PySem.W.nsIn K mainGlobals "check_person" = some (some (.ref f_p_check_person))) (l_p_check_person : K.lookup f_p_check_person = some ⟨oc_p_check_person, od_p_check_person, .func (PySem.W.fnOf "check_person" "check_person" (defArgs s_p_check_person) (defBody s_p_check_person) (defScope s_p_check_person) .none kV_p_check_person dc_p_check_person pm_p_check_person an_p_check_person cd_p_check_person ct_p_check_person), sl_p_check_person⟩) (c_p_check_person : PySem.W.codeIn K cd_p_check_person "check_person" = true) (k_p_check_person : PySem.W.keepIn K (.ref f_p_check_person) = true)
    (a_p_check_call : PySem.W.nsIn K mainGlobals "check_call" = some (some (.ref f_p_check_call))) (l_p_check_call : K.lookup f_p_check_call = some ⟨oc_p_check_call, od_p_check_call, .func (PySem.W.fnOf "check_call" "check_call" (defArgs s_p_check_call) (defBody s_p_check_call) (defScope s_p_check_call) .none kV_p_check_call dc_p_check_call pm_p_check_call an_p_check_call cd_p_check_call ct_p_check_call), sl_p_check_call⟩) (c_p_check_call : PySem.W.codeIn K cd_p_check_call "check_call" = true) (k_p_check_call : PySem.W.keepIn K (.ref f_p_check_call) = true)
    (a_p_check_word : PySem.W.nsIn K mainGlobals "check_word" = some (some (.ref f_p_check_word))) (l_p_check_word : K.lookup f_p_check_word = some ⟨oc_p_check_word, od_p_check_word, .func (PySem.W.fnOf "check_word" "check_word" (defArgs s_p_check_word) (defBody s_p_check_word) (defScope s_p_check_word) .none kV_p_check_word dc_p_check_word pm_p_check_word an_p_check_word cd_p_check_word ct_p_check_word), sl_p_check_word⟩) (c_p_check_word : PySem.W.codeIn K cd_p_check_word "check_word" = true) (k_p_check_word : PySem.W.keepIn K (.ref f_p_check_word) = true)
    (a_p_is_call : PySem.W.nsIn K mainGlobals "is_call" = some (some (.ref f_p_is_call))) (l_p_is_call : K.lookup f_p_is_call = some ⟨oc_p_is_call, od_p_is_call, .func (PySem.W.fnOf "is_call" "is_call" (defArgs s_p_is_call) (defBody s_p_is_call) (defScope s_p_is_call) .none kV_p_is_call dc_p_is_call pm_p_is_call an_p_is_call cd_p_is_call ct_p_is_call), sl_p_is_call⟩) (c_p_is_call : PySem.W.codeIn K cd_p_is_call "is_call" = true) (k_p_is_call : PySem.W.keepIn K (.ref f_p_is_call) = true)
    (a_p_join_two : PySem.W.nsIn K mainGlobals "join_two" = some (some (.ref f_p_join_two))) (l_p_join_two : K.lookup f_p_join_two = some ⟨oc_p_join_two, od_p_join_two, .func (PySem.W.fnOf "join_two" "join_two" (defArgs s_p_join_two) (defBody s_p_join_two) (defScope s_p_join_two) .none kV_p_join_two dc_p_join_two pm_p_join_two an_p_join_two cd_p_join_two ct_p_join_two), sl_p_join_two⟩) (c_p_join_two : PySem.W.codeIn K cd_p_join_two "join_two" = true) (k_p_join_two : PySem.W.keepIn K (.ref f_p_join_two) = true)
    (a_p_called : PySem.W.nsIn K mainGlobals "called" = some (some (.ref f_p_called))) (l_p_called : K.lookup f_p_called = some ⟨oc_p_called, od_p_called, .func (PySem.W.fnOf "called" "called" (defArgs s_p_called) (defBody s_p_called) (defScope s_p_called) .none kV_p_called dc_p_called pm_p_called an_p_called cd_p_called ct_p_called), sl_p_called⟩) (c_p_called : PySem.W.codeIn K cd_p_called "called" = true) (k_p_called : PySem.W.keepIn K (.ref f_p_called) = true)
    (a_p_called_all : PySem.W.nsIn K mainGlobals "called_all" = some (some (.ref f_p_called_all))) (l_p_called_all : K.lookup f_p_called_all = some ⟨oc_p_called_all, od_p_called_all, .func (PySem.W.fnOf "called_all" "called_all" (defArgs s_p_called_all) (defBody s_p_called_all) (defScope s_p_called_all) .none kV_p_called_all dc_p_called_all pm_p_called_all an_p_called_all cd_p_called_all ct_p_called_all), sl_p_called_all⟩) (c_p_called_all : PySem.W.codeIn K cd_p_called_all "called_all" = true) (k_p_called_all : PySem.W.keepIn K (.ref f_p_called_all) = true)
    (a_p_check_sizes : PySem.W.nsIn K mainGlobals "check_sizes" = some (some (.ref f_p_check_sizes))) (l_p_check_sizes : K.lookup f_p_check_sizes = some ⟨oc_p_check_sizes, od_p_check_sizes, .func (PySem.W.fnOf "check_sizes" "check_sizes" (defArgs s_p_check_sizes) (defBody s_p_check_sizes) (defScope s_p_check_sizes) .none kV_p_check_sizes dc_p_check_sizes pm_p_check_sizes an_p_check_sizes cd_p_check_sizes ct_p_check_sizes), sl_p_check_sizes⟩) (c_p_check_sizes : PySem.W.codeIn K cd_p_check_sizes "check_sizes" = true) (k_p_check_sizes : PySem.W.keepIn K (.ref f_p_check_sizes) = true)
    (a_p_choice_at : PySem.W.nsIn K mainGlobals "choice_at" = some (some (.ref f_p_choice_at))) (l_p_choice_at : K.lookup f_p_choice_at = some ⟨oc_p_choice_at, od_p_choice_at, .func (PySem.W.fnOf "choice_at" "choice_at" (defArgs s_p_choice_at) (defBody s_p_choice_at) (defScope s_p_choice_at) .none kV_p_choice_at dc_p_choice_at pm_p_choice_at an_p_choice_at cd_p_choice_at ct_p_choice_at), sl_p_choice_at⟩) (c_p_choice_at : PySem.W.codeIn K cd_p_choice_at "choice_at" = true) (k_p_choice_at : PySem.W.keepIn K (.ref f_p_choice_at) = true)
    (a_p_cycle_from : PySem.W.nsIn K mainGlobals "cycle_from" = some (some (.ref f_p_cycle_from))) (l_p_cycle_from : K.lookup f_p_cycle_from = some ⟨oc_p_cycle_from, od_p_cycle_from, .func (PySem.W.fnOf "cycle_from" "cycle_from" (defArgs s_p_cycle_from) (defBody s_p_cycle_from) (defScope s_p_cycle_from) .none kV_p_cycle_from dc_p_cycle_from pm_p_cycle_from an_p_cycle_from cd_p_cycle_from ct_p_cycle_from), sl_p_cycle_from⟩) (c_p_cycle_from : PySem.W.codeIn K cd_p_cycle_from "cycle_from" = true) (k_p_cycle_from : PySem.W.keepIn K (.ref f_p_cycle_from) = true)
    (a_p_cycles : PySem.W.nsIn K mainGlobals "cycles" = some (some (.ref f_p_cycles))) (l_p_cycles : K.lookup f_p_cycles = some ⟨oc_p_cycles, od_p_cycles, .func (PySem.W.fnOf "cycles" "cycles" (defArgs s_p_cycles) (defBody s_p_cycles) (defScope s_p_cycles) .none kV_p_cycles dc_p_cycles pm_p_cycles an_p_cycles cd_p_cycles ct_p_cycles), sl_p_cycles⟩) (c_p_cycles : PySem.W.codeIn K cd_p_cycles "cycles" = true) (k_p_cycles : PySem.W.keepIn K (.ref f_p_cycles) = true)
    (a_p_distance : PySem.W.nsIn K mainGlobals "distance" = some (some (.ref f_p_distance))) (l_p_distance : K.lookup f_p_distance = some ⟨oc_p_distance, od_p_distance, .func (PySem.W.fnOf "distance" "distance" (defArgs s_p_distance) (defBody s_p_distance) (defScope s_p_distance) .none kV_p_distance dc_p_distance pm_p_distance an_p_distance cd_p_distance ct_p_distance), sl_p_distance⟩) (c_p_distance : PySem.W.codeIn K cd_p_distance "distance" = true) (k_p_distance : PySem.W.keepIn K (.ref f_p_distance) = true)
    (a_p_ways_to_split : PySem.W.nsIn K mainGlobals "ways_to_split" = some (some (.ref f_p_ways_to_split))) (l_p_ways_to_split : K.lookup f_p_ways_to_split = some ⟨oc_p_ways_to_split, od_p_ways_to_split, .func (PySem.W.fnOf "ways_to_split" "ways_to_split" (defArgs s_p_ways_to_split) (defBody s_p_ways_to_split) (defScope s_p_ways_to_split) .none kV_p_ways_to_split dc_p_ways_to_split pm_p_ways_to_split an_p_ways_to_split cd_p_ways_to_split ct_p_ways_to_split), sl_p_ways_to_split⟩) (c_p_ways_to_split : PySem.W.codeIn K cd_p_ways_to_split "ways_to_split" = true) (k_p_ways_to_split : PySem.W.keepIn K (.ref f_p_ways_to_split) = true)
    (a_p_words_many : PySem.W.nsIn K mainGlobals "words_many" = some (some (.ref f_p_words_many))) (l_p_words_many : K.lookup f_p_words_many = some ⟨oc_p_words_many, od_p_words_many, .func (PySem.W.fnOf "words_many" "words_many" (defArgs s_p_words_many) (defBody s_p_words_many) (defScope s_p_words_many) .none kV_p_words_many dc_p_words_many pm_p_words_many an_p_words_many cd_p_words_many ct_p_words_many), sl_p_words_many⟩) (c_p_words_many : PySem.W.codeIn K cd_p_words_many "words_many" = true) (k_p_words_many : PySem.W.keepIn K (.ref f_p_words_many) = true)
    (a_p_splitting_calls : PySem.W.nsIn K mainGlobals "splitting_calls" = some (some (.ref f_p_splitting_calls))) (l_p_splitting_calls : K.lookup f_p_splitting_calls = some ⟨oc_p_splitting_calls, od_p_splitting_calls, .func (PySem.W.fnOf "splitting_calls" "splitting_calls" (defArgs s_p_splitting_calls) (defBody s_p_splitting_calls) (defScope s_p_splitting_calls) .none kV_p_splitting_calls dc_p_splitting_calls pm_p_splitting_calls an_p_splitting_calls cd_p_splitting_calls ct_p_splitting_calls), sl_p_splitting_calls⟩) (c_p_splitting_calls : PySem.W.codeIn K cd_p_splitting_calls "splitting_calls" = true) (k_p_splitting_calls : PySem.W.keepIn K (.ref f_p_splitting_calls) = true)
    (a_p_first_calls : PySem.W.nsIn K mainGlobals "first_calls" = some (some (.ref f_p_first_calls))) (l_p_first_calls : K.lookup f_p_first_calls = some ⟨oc_p_first_calls, od_p_first_calls, .func (PySem.W.fnOf "first_calls" "first_calls" (defArgs s_p_first_calls) (defBody s_p_first_calls) (defScope s_p_first_calls) .none kV_p_first_calls dc_p_first_calls pm_p_first_calls an_p_first_calls cd_p_first_calls ct_p_first_calls), sl_p_first_calls⟩) (c_p_first_calls : PySem.W.codeIn K cd_p_first_calls "first_calls" = true) (k_p_first_calls : PySem.W.keepIn K (.ref f_p_first_calls) = true)
    (a_p_word_at : PySem.W.nsIn K mainGlobals "word_at" = some (some (.ref f_p_word_at))) (l_p_word_at : K.lookup f_p_word_at = some ⟨oc_p_word_at, od_p_word_at, .func (PySem.W.fnOf "word_at" "word_at" (defArgs s_p_word_at) (defBody s_p_word_at) (defScope s_p_word_at) .none kV_p_word_at dc_p_word_at pm_p_word_at an_p_word_at cd_p_word_at ct_p_word_at), sl_p_word_at⟩) (c_p_word_at : PySem.W.codeIn K cd_p_word_at "word_at" = true) (k_p_word_at : PySem.W.keepIn K (.ref f_p_word_at) = true)
    (a_p_leads : PySem.W.nsIn K mainGlobals "leads" = some (some (.ref f_p_leads))) (l_p_leads : K.lookup f_p_leads = some ⟨oc_p_leads, od_p_leads, .func (PySem.W.fnOf "leads" "leads" (defArgs s_p_leads) (defBody s_p_leads) (defScope s_p_leads) .none kV_p_leads dc_p_leads pm_p_leads an_p_leads cd_p_leads ct_p_leads), sl_p_leads⟩) (c_p_leads : PySem.W.codeIn K cd_p_leads "leads" = true) (k_p_leads : PySem.W.keepIn K (.ref f_p_leads) = true)
    (a_box : PySem.W.nsIn K mainGlobals "_law_box" = some (some (.ref f_box))) (l_box : K.lookup f_box = some ⟨oc_box, od_box, .func (PySem.W.fnOf "_law_box" "_law_box" (defArgs s_box) (defBody s_box) (defScope s_box) .none kV_box dc_box pm_box an_box cd_box ct_box), sl_box⟩) (c_box : PySem.W.codeIn K cd_box "_law_box" = true) (k_box : PySem.W.keepIn K (.ref f_box) = true)
    (a_take : PySem.W.nsIn K mainGlobals "_law_take" = some (some (.ref f_take))) (l_take : K.lookup f_take = some ⟨oc_take, od_take, .func (PySem.W.fnOf "_law_take" "_law_take" (defArgs s_take) (defBody s_take) (defScope s_take) .none kV_take dc_take pm_take an_take cd_take ct_take), sl_take⟩) (c_take : PySem.W.codeIn K cd_take "_law_take" = true) (k_take : PySem.W.keepIn K (.ref f_take) = true)
    (a_pick : PySem.W.nsIn K mainGlobals "_law_pick" = some (some (.ref f_pick))) (l_pick : K.lookup f_pick = some ⟨oc_pick, od_pick, .func (PySem.W.fnOf "_law_pick" "_law_pick" (defArgs s_pick) (defBody s_pick) (defScope s_pick) .none kV_pick dc_pick pm_pick an_pick cd_pick ct_pick), sl_pick⟩) (c_pick : PySem.W.codeIn K cd_pick "_law_pick" = true) (k_pick : PySem.W.keepIn K (.ref f_pick) = true)
    (a_same : PySem.W.nsIn K mainGlobals "_law_same" = some (some (.ref f_same))) (l_same : K.lookup f_same = some ⟨oc_same, od_same, .func (PySem.W.fnOf "_law_same" "_law_same" (defArgs s_same) (defBody s_same) (defScope s_same) .none kV_same dc_same pm_same an_same cd_same ct_same), sl_same⟩) (c_same : PySem.W.codeIn K cd_same "_law_same" = true) (k_same : PySem.W.keepIn K (.ref f_same) = true)
    (a_strewn : PySem.W.nsIn K mainGlobals "_law_strewn" = some (some (.ref f_strewn))) (l_strewn : K.lookup f_strewn = some ⟨oc_strewn, od_strewn, .func (PySem.W.fnOf "_law_strewn" "_law_strewn" (defArgs s_strewn) (defBody s_strewn) (defScope s_strewn) .none kV_strewn dc_strewn pm_strewn an_strewn cd_strewn ct_strewn), sl_strewn⟩) (c_strewn : PySem.W.codeIn K cd_strewn "_law_strewn" = true) (k_strewn : PySem.W.keepIn K (.ref f_strewn) = true)
    (a_drawn_tie : PySem.W.nsIn K mainGlobals "_law_drawn_tie" = some (some (.ref f_drawn_tie))) (l_drawn_tie : K.lookup f_drawn_tie = some ⟨oc_drawn_tie, od_drawn_tie, .func (PySem.W.fnOf "_law_drawn_tie" "_law_drawn_tie" (defArgs s_drawn_tie) (defBody s_drawn_tie) (defScope s_drawn_tie) .none kV_drawn_tie dc_drawn_tie pm_drawn_tie an_drawn_tie cd_drawn_tie ct_drawn_tie), sl_drawn_tie⟩) (c_drawn_tie : PySem.W.codeIn K cd_drawn_tie "_law_drawn_tie" = true) (k_drawn_tie : PySem.W.keepIn K (.ref f_drawn_tie) = true)
    (a_calls : PySem.W.nsIn K mainGlobals "_law_calls" = some (some (.ref f_calls))) (l_calls : K.lookup f_calls = some ⟨oc_calls, od_calls, .func (PySem.W.fnOf "_law_calls" "_law_calls" (defArgs s_calls) (defBody s_calls) (defScope s_calls) .none kV_calls dc_calls pm_calls an_calls cd_calls ct_calls), sl_calls⟩) (c_calls : PySem.W.codeIn K cd_calls "_law_calls" = true) (k_calls : PySem.W.keepIn K (.ref f_calls) = true)
    (a_tour_of : PySem.W.nsIn K mainGlobals "_law_tour_of" = some (some (.ref f_tour_of))) (l_tour_of : K.lookup f_tour_of = some ⟨oc_tour_of, od_tour_of, .func (PySem.W.fnOf "_law_tour_of" "_law_tour_of" (defArgs s_tour_of) (defBody s_tour_of) (defScope s_tour_of) .none kV_tour_of dc_tour_of pm_tour_of an_tour_of cd_tour_of ct_tour_of), sl_tour_of⟩) (c_tour_of : PySem.W.codeIn K cd_tour_of "_law_tour_of" = true) (k_tour_of : PySem.W.keepIn K (.ref f_tour_of) = true)
    (a_asked : PySem.W.nsIn K mainGlobals "_law_asked" = some (some (.ref f_asked))) (l_asked : K.lookup f_asked = some ⟨oc_asked, od_asked, .func (PySem.W.fnOf "_law_asked" "_law_asked" (defArgs s_asked) (defBody s_asked) (defScope s_asked) .none kV_asked dc_asked pm_asked an_asked cd_asked ct_asked), sl_asked⟩) (c_asked : PySem.W.codeIn K cd_asked "_law_asked" = true) (k_asked : PySem.W.keepIn K (.ref f_asked) = true)
    (a_toured : PySem.W.nsIn K mainGlobals "_law_toured" = some (some (.ref f_toured))) (l_toured : K.lookup f_toured = some ⟨oc_toured, od_toured, .func (PySem.W.fnOf "_law_toured" "_law_toured" (defArgs s_toured) (defBody s_toured) (defScope s_toured) .none kV_toured dc_toured pm_toured an_toured cd_toured ct_toured), sl_toured⟩) (c_toured : PySem.W.codeIn K cd_toured "_law_toured" = true) (k_toured : PySem.W.keepIn K (.ref f_toured) = true)
    (a_rounds : PySem.W.nsIn K mainGlobals "_law_rounds" = some (some (.ref f_rounds))) (l_rounds : K.lookup f_rounds = some ⟨oc_rounds, od_rounds, .func (PySem.W.fnOf "_law_rounds" "_law_rounds" (defArgs s_rounds) (defBody s_rounds) (defScope s_rounds) .none kV_rounds dc_rounds pm_rounds an_rounds cd_rounds ct_rounds), sl_rounds⟩) (c_rounds : PySem.W.codeIn K cd_rounds "_law_rounds" = true) (k_rounds : PySem.W.keepIn K (.ref f_rounds) = true)
    (a_sized : PySem.W.nsIn K mainGlobals "_law_sized" = some (some (.ref f_sized))) (l_sized : K.lookup f_sized = some ⟨oc_sized, od_sized, .func (PySem.W.fnOf "_law_sized" "_law_sized" (defArgs s_sized) (defBody s_sized) (defScope s_sized) .none kV_sized dc_sized pm_sized an_sized cd_sized ct_sized), sl_sized⟩) (c_sized : PySem.W.codeIn K cd_sized "_law_sized" = true) (k_sized : PySem.W.keepIn K (.ref f_sized) = true)
    (a_right : PySem.W.nsIn K mainGlobals "_law_right" = some (some (.ref f_right))) (l_right : K.lookup f_right = some ⟨oc_right, od_right, .func (PySem.W.fnOf "_law_right" "_law_right" (defArgs s_right) (defBody s_right) (defScope s_right) .none kV_right dc_right pm_right an_right cd_right ct_right), sl_right⟩) (c_right : PySem.W.codeIn K cd_right "_law_right" = true) (k_right : PySem.W.keepIn K (.ref f_right) = true)
    (a_law : PySem.W.nsIn K mainGlobals "law" = some (some (.ref f_law))) (l_law : K.lookup f_law = some ⟨oc_law, od_law, .func (PySem.W.fnOf "law" "law" (defArgs s_law) (defBody s_law) (defScope s_law) .none kV_law dc_law pm_law an_law cd_law ct_law), sl_law⟩) (c_law : PySem.W.codeIn K cd_law "law" = true) (k_law : PySem.W.keepIn K (.ref f_law) = true)
    (aC_OtherSize : PySem.W.nsIn K mainGlobals "OtherSize" = some (some (.ref C_OtherSize)))
    (eC_OtherSize : PySem.W.subIn K (.ref C_OtherSize) (.type "BaseException") = some true)
    (tC_OtherSize : PySem.W.typeIn K (.ref C_OtherSize) = some (.type "type"))
    (is_OtherSize : PySem.W.isClsIn K C_OtherSize = true)
    (aC_NotResult : PySem.W.nsIn K mainGlobals "NotResult" = some (some (.ref C_NotResult)))
    (eC_NotResult : PySem.W.subIn K (.ref C_NotResult) (.type "BaseException") = some true)
    (tC_NotResult : PySem.W.typeIn K (.ref C_NotResult) = some (.type "type"))
    (is_NotResult : PySem.W.isClsIn K C_NotResult = true)
    (aC_NotShortest : PySem.W.nsIn K mainGlobals "NotShortest" = some (some (.ref C_NotShortest)))
    (eC_NotShortest : PySem.W.subIn K (.ref C_NotShortest) (.type "BaseException") = some true)
    (tC_NotShortest : PySem.W.typeIn K (.ref C_NotShortest) = some (.type "type"))
    (is_NotShortest : PySem.W.isClsIn K C_NotShortest = true)
    (xC_OtherSize : K.lookup C_OtherSize = some (excClassObj nm_OtherSize qn_OtherSize C_OtherSize Nn_OtherSize bs_OtherSize [.type "ValueError", .type "Exception", .type "BaseException", .type "object"] true sn_OtherSize sub_OtherSize ab_OtherSize col_OtherSize dd_OtherSize m0_OtherSize m1_OtherSize m2_OtherSize m3_OtherSize m5_OtherSize "ValueError.__new__"))
    (sa_OtherSize : PySem.W.findIn K (.ref C_OtherSize) "__setattr__" = some (some (.builtin "object.__setattr__")))
    (ga_OtherSize : PySem.W.findIn K (.ref C_OtherSize) "__getattribute__" = some (some (.builtin "BaseException.__getattribute__")))
    (gg_OtherSize : PySem.W.findIn K (.ref C_OtherSize) "__getattr__" = some none)
    (kC_OtherSize : PySem.W.keepIn K (.ref C_OtherSize) = true)
    (hC_OtherSize : PySem.W.hasDictIn K C_OtherSize = true)
    (cl_OtherSize : PySem.W.findIn K (.ref C_OtherSize) "__class__" = some (some (.builtin "object.__class__")))
    (mr_OtherSize : PySem.W.mroIn K C_OtherSize (.type "object") = some true)
    (iC_OtherSize : PySem.W.findIn K (.ref C_OtherSize) "__init__" = some (some (.ref f_i_OtherSize)))
    (tI_OtherSize : PySem.W.typeIn K (.ref f_i_OtherSize) = some (.type "function"))
    (lI_OtherSize : K.lookup f_i_OtherSize = some ⟨oc_i_OtherSize, od_i_OtherSize, .func (PySem.W.fnOf "__init__" "OtherSize.__init__" (defArgs s_i_OtherSize) (defBody s_i_OtherSize) (defScope s_i_OtherSize) .none kV_i_OtherSize dc_i_OtherSize pm_i_OtherSize an_i_OtherSize cd_i_OtherSize ct_i_OtherSize), sl_i_OtherSize⟩)
    (cI_OtherSize : PySem.W.codeIn K cd_i_OtherSize "OtherSize.__init__" = true)
    (kI_OtherSize : PySem.W.keepIn K (.ref f_i_OtherSize) = true)
    (su_OtherSize : PySem.W.subIn K (.ref C_OtherSize) (.ref C_OtherSize) = some true)
    (no_OtherSize : PySem.W.findIn K (.ref C_OtherSize) "size" = some none)
    (su_OtherSize_NotResult : PySem.W.subIn K (.ref C_OtherSize) (.ref C_NotResult) = some false)
    (su_OtherSize_NotShortest : PySem.W.subIn K (.ref C_OtherSize) (.ref C_NotShortest) = some false)
    (sb_OtherSize_ValueError : PySem.W.subIn K (.ref C_OtherSize) (.type "ValueError") = some true)
    (vV_ValueError : PySem.W.findCls K (.type "ValueError") (.type "type") "__init__" = some (.val (.builtin "ValueError.__init__")))
    (spG : PySem.W.specialIn K (.builtin "object.__class__") "__get__" = some (some (.builtin "getset_descriptor.__get__")))
    (tkG : PySem.W.takesIn K (.builtin "object.__class__") = some true)
    (z_isinstance : PySem.W.nsIn K mainGlobals "isinstance" = some none) (z_int : PySem.W.nsIn K mainGlobals "int" = some none) (z_bool : PySem.W.nsIn K mainGlobals "bool" = some none) (z_tuple : PySem.W.nsIn K mainGlobals "tuple" = some none) (z_len : PySem.W.nsIn K mainGlobals "len" = some none) (z_all : PySem.W.nsIn K mainGlobals "all" = some none) (z_list : PySem.W.nsIn K mainGlobals "list" = some none) (z_set : PySem.W.nsIn K mainGlobals "set" = some none) (z_range : PySem.W.nsIn K mainGlobals "range" = some none) (z_enumerate : PySem.W.nsIn K mainGlobals "enumerate" = some none) (z_min : PySem.W.nsIn K mainGlobals "min" = some none) (z_max : PySem.W.nsIn K mainGlobals "max" = some none) (z_sorted : PySem.W.nsIn K mainGlobals "sorted" = some none) (z_abs : PySem.W.nsIn K mainGlobals "abs" = some none) (z_zip : PySem.W.nsIn K mainGlobals "zip" = some none) (z_str : PySem.W.nsIn K mainGlobals "str" = some none) (z_ValueError : PySem.W.nsIn K mainGlobals "ValueError" = some none) (z_sum : PySem.W.nsIn K mainGlobals "sum" = some none) :
    ∃ fd : FuncData, (∀ (s : Shared) (v : Value), BindsTo s fd ⟨[v], []⟩ [("_law_script", v)]) ∧ ∀ base : Heap, K.In base → base.Ns mainGlobals mg → FnOk l.prog w K mg base CX0 9 fa fd ["_law_script"] (spLaw K) := by
  have e := hfa.symm.trans (PySem.W.mg_of X G a_law)
  cases e
  let T : Env K mg := {
    n_isinstance := PySem.W.mg_none_of X G z_isinstance,
    n_int := PySem.W.mg_none_of X G z_int,
    n_bool := PySem.W.mg_none_of X G z_bool,
    n_tuple := PySem.W.mg_none_of X G z_tuple,
    n_len := PySem.W.mg_none_of X G z_len,
    n_all := PySem.W.mg_none_of X G z_all,
    n_list := PySem.W.mg_none_of X G z_list,
    n_set := PySem.W.mg_none_of X G z_set,
    n_range := PySem.W.mg_none_of X G z_range,
    n_enumerate := PySem.W.mg_none_of X G z_enumerate,
    n_min := PySem.W.mg_none_of X G z_min,
    n_max := PySem.W.mg_none_of X G z_max,
    n_sorted := PySem.W.mg_none_of X G z_sorted,
    n_abs := PySem.W.mg_none_of X G z_abs,
    n_zip := PySem.W.mg_none_of X G z_zip,
    n_str := PySem.W.mg_none_of X G z_str,
    n_ValueError := PySem.W.mg_none_of X G z_ValueError,
    n_sum := PySem.W.mg_none_of X G z_sum,
    f_p_is_integer_below := f_p_is_integer_below, d_p_is_integer_below := _, F_p_is_integer_below := fun_mk (st := s_p_is_integer_below) l_p_is_integer_below c_p_is_integer_below k_p_is_integer_below, g_p_is_integer_below := PySem.W.mg_of X G a_p_is_integer_below,
    f_p_check_person := f_p_check_person, d_p_check_person := _, F_p_check_person := fun_mk (st := s_p_check_person) l_p_check_person c_p_check_person k_p_check_person, g_p_check_person := PySem.W.mg_of X G a_p_check_person,
    f_p_check_call := f_p_check_call, d_p_check_call := _, F_p_check_call := fun_mk (st := s_p_check_call) l_p_check_call c_p_check_call k_p_check_call, g_p_check_call := PySem.W.mg_of X G a_p_check_call,
    f_p_check_word := f_p_check_word, d_p_check_word := _, F_p_check_word := fun_mk (st := s_p_check_word) l_p_check_word c_p_check_word k_p_check_word, g_p_check_word := PySem.W.mg_of X G a_p_check_word,
    f_p_is_call := f_p_is_call, d_p_is_call := _, F_p_is_call := fun_mk (st := s_p_is_call) l_p_is_call c_p_is_call k_p_is_call, g_p_is_call := PySem.W.mg_of X G a_p_is_call,
    f_p_join_two := f_p_join_two, d_p_join_two := _, F_p_join_two := fun_mk (st := s_p_join_two) l_p_join_two c_p_join_two k_p_join_two, g_p_join_two := PySem.W.mg_of X G a_p_join_two,
    f_p_called := f_p_called, d_p_called := _, F_p_called := fun_mk (st := s_p_called) l_p_called c_p_called k_p_called, g_p_called := PySem.W.mg_of X G a_p_called,
    f_p_called_all := f_p_called_all, d_p_called_all := _, F_p_called_all := fun_mk (st := s_p_called_all) l_p_called_all c_p_called_all k_p_called_all, g_p_called_all := PySem.W.mg_of X G a_p_called_all,
    f_p_check_sizes := f_p_check_sizes, d_p_check_sizes := _, F_p_check_sizes := fun_mk (st := s_p_check_sizes) l_p_check_sizes c_p_check_sizes k_p_check_sizes, g_p_check_sizes := PySem.W.mg_of X G a_p_check_sizes,
    f_p_choice_at := f_p_choice_at, d_p_choice_at := _, F_p_choice_at := fun_mk (st := s_p_choice_at) l_p_choice_at c_p_choice_at k_p_choice_at, g_p_choice_at := PySem.W.mg_of X G a_p_choice_at,
    f_p_cycle_from := f_p_cycle_from, d_p_cycle_from := _, F_p_cycle_from := fun_mk (st := s_p_cycle_from) l_p_cycle_from c_p_cycle_from k_p_cycle_from, g_p_cycle_from := PySem.W.mg_of X G a_p_cycle_from,
    f_p_cycles := f_p_cycles, d_p_cycles := _, F_p_cycles := fun_mk (st := s_p_cycles) l_p_cycles c_p_cycles k_p_cycles, g_p_cycles := PySem.W.mg_of X G a_p_cycles,
    f_p_distance := f_p_distance, d_p_distance := _, F_p_distance := fun_mk (st := s_p_distance) l_p_distance c_p_distance k_p_distance, g_p_distance := PySem.W.mg_of X G a_p_distance,
    f_p_ways_to_split := f_p_ways_to_split, d_p_ways_to_split := _, F_p_ways_to_split := fun_mk (st := s_p_ways_to_split) l_p_ways_to_split c_p_ways_to_split k_p_ways_to_split, g_p_ways_to_split := PySem.W.mg_of X G a_p_ways_to_split,
    f_p_words_many := f_p_words_many, d_p_words_many := _, F_p_words_many := fun_mk (st := s_p_words_many) l_p_words_many c_p_words_many k_p_words_many, g_p_words_many := PySem.W.mg_of X G a_p_words_many,
    f_p_splitting_calls := f_p_splitting_calls, d_p_splitting_calls := _, F_p_splitting_calls := fun_mk (st := s_p_splitting_calls) l_p_splitting_calls c_p_splitting_calls k_p_splitting_calls, g_p_splitting_calls := PySem.W.mg_of X G a_p_splitting_calls,
    f_p_first_calls := f_p_first_calls, d_p_first_calls := _, F_p_first_calls := fun_mk (st := s_p_first_calls) l_p_first_calls c_p_first_calls k_p_first_calls, g_p_first_calls := PySem.W.mg_of X G a_p_first_calls,
    f_p_word_at := f_p_word_at, d_p_word_at := _, F_p_word_at := fun_mk (st := s_p_word_at) l_p_word_at c_p_word_at k_p_word_at, g_p_word_at := PySem.W.mg_of X G a_p_word_at,
    f_p_leads := f_p_leads, d_p_leads := _, F_p_leads := fun_mk (st := s_p_leads) l_p_leads c_p_leads k_p_leads, g_p_leads := PySem.W.mg_of X G a_p_leads,
    f_box := f_box, d_box := _, F_box := fun_mk (st := s_box) l_box c_box k_box, g_box := PySem.W.mg_of X G a_box,
    f_take := f_take, d_take := _, F_take := fun_mk (st := s_take) l_take c_take k_take, g_take := PySem.W.mg_of X G a_take,
    f_pick := f_pick, d_pick := _, F_pick := fun_mk (st := s_pick) l_pick c_pick k_pick, g_pick := PySem.W.mg_of X G a_pick,
    f_same := f_same, d_same := _, F_same := fun_mk (st := s_same) l_same c_same k_same, g_same := PySem.W.mg_of X G a_same,
    f_strewn := f_strewn, d_strewn := _, F_strewn := fun_mk (st := s_strewn) l_strewn c_strewn k_strewn, g_strewn := PySem.W.mg_of X G a_strewn,
    f_drawn_tie := f_drawn_tie, d_drawn_tie := _, F_drawn_tie := fun_mk (st := s_drawn_tie) l_drawn_tie c_drawn_tie k_drawn_tie, g_drawn_tie := PySem.W.mg_of X G a_drawn_tie,
    f_calls := f_calls, d_calls := _, F_calls := fun_mk (st := s_calls) l_calls c_calls k_calls, g_calls := PySem.W.mg_of X G a_calls,
    f_tour_of := f_tour_of, d_tour_of := _, F_tour_of := fun_mk (st := s_tour_of) l_tour_of c_tour_of k_tour_of, g_tour_of := PySem.W.mg_of X G a_tour_of,
    f_asked := f_asked, d_asked := _, F_asked := fun_mk (st := s_asked) l_asked c_asked k_asked, g_asked := PySem.W.mg_of X G a_asked,
    f_toured := f_toured, d_toured := _, F_toured := fun_mk (st := s_toured) l_toured c_toured k_toured, g_toured := PySem.W.mg_of X G a_toured,
    f_rounds := f_rounds, d_rounds := _, F_rounds := fun_mk (st := s_rounds) l_rounds c_rounds k_rounds, g_rounds := PySem.W.mg_of X G a_rounds,
    f_sized := f_sized, d_sized := _, F_sized := fun_mk (st := s_sized) l_sized c_sized k_sized, g_sized := PySem.W.mg_of X G a_sized,
    f_right := f_right, d_right := _, F_right := fun_mk (st := s_right) l_right c_right k_right, g_right := PySem.W.mg_of X G a_right,
    C_OtherSize := C_OtherSize, gC_OtherSize := PySem.W.mg_of X G aC_OtherSize,
    C_NotResult := C_NotResult, gC_NotResult := PySem.W.mg_of X G aC_NotResult,
    C_NotShortest := C_NotShortest, gC_NotShortest := PySem.W.mg_of X G aC_NotShortest,
    own_OtherSize := ⟨⟨nm_OtherSize, qn_OtherSize, Nn_OtherSize, bs_OtherSize, sn_OtherSize, sub_OtherSize, ab_OtherSize, col_OtherSize, dd_OtherSize, m0_OtherSize, m1_OtherSize, m2_OtherSize, m3_OtherSize, m5_OtherSize, xC_OtherSize⟩, over_of xC_OtherSize (by decide +kernel), sa_OtherSize, ga_OtherSize, gg_OtherSize, eC_OtherSize, tC_OtherSize, kC_OtherSize, hC_OtherSize, cl_OtherSize, mr_OtherSize⟩,
    kpt_OtherSize := ⟨ga_OtherSize, gg_OtherSize, eC_OtherSize, hC_OtherSize, cl_OtherSize, mr_OtherSize, spG, tkG⟩,
    f_i_OtherSize := f_i_OtherSize, d_i_OtherSize := _, F_i_OtherSize := fun_mk (st := s_i_OtherSize) lI_OtherSize cI_OtherSize kI_OtherSize, iC_OtherSize := iC_OtherSize, tI_OtherSize := tI_OtherSize, ee_OtherSize := exm_of' eC_OtherSize is_OtherSize tC_OtherSize su_OtherSize, kk_OtherSize := kit_own su_OtherSize is_OtherSize tC_OtherSize su_OtherSize,
    no_OtherSize := no_OtherSize,
    ex_OtherSize_NotResult := exm_of' eC_NotResult is_NotResult tC_NotResult su_OtherSize_NotResult, ki_OtherSize_NotResult := kit_own su_OtherSize is_NotResult tC_NotResult su_OtherSize_NotResult,
    ex_OtherSize_NotShortest := exm_of' eC_NotShortest is_NotShortest tC_NotShortest su_OtherSize_NotShortest, ki_OtherSize_NotShortest := kit_own su_OtherSize is_NotShortest tC_NotShortest su_OtherSize_NotShortest,
    kb_OtherSize_ValueError := kit_blt (by decide +kernel) sb_OtherSize_ValueError,
    vV_ValueError := vV_ValueError }
  exact ⟨PySem.W.fnOf "law" "law" (defArgs s_law) (defBody s_law) (defScope s_law) .none kV_law dc_law pm_law an_law cd_law ct_law, fun s v => .of_eq rfl, fun base _ _ => ok_law T (fun_mk (st := s_law) l_law c_law k_law)⟩
end Pc
open PySem PySem.W PyProof.Rows
set_option maxHeartbeats 0 in
theorem PySem.Challenge.cw_partnercall_k40_cycles_of_two_pairings_holds : PySem.Challenge.rw_partnercall_k40_cycles_of_two_pairings.Holds := by
  w_on; o_law; k_head; (case hw => w_witness2)
  k_fill
  refine L2.walk_of (l := PySem.Challenge.rw_partnercall_k40_cycles_of_two_pairings) (n := 63) (k := 9) (x := "_law_script") (CX := fun _ => L2.CX0) (sp := fun w => Pc.spLaw _) rfl (by decide) rfl ⟨rfl, by decide, by decide⟩ (fun w h Y => PySem.W.kIn_of Y) ?F (fun _ _ a ns hl _ hS => ⟨a, ns, rfl, hS, hl, fun _ => rfl⟩) (fun _ _ _ _ _ h => h)
  case F =>
    intro w mg fa h KX G hmg
    refine' Pc.all_mk KX G hmg ?a_p_is_integer_below ?l_p_is_integer_below ?c_p_is_integer_below ?k_p_is_integer_below ?a_p_check_person ?l_p_check_person ?c_p_check_person ?k_p_check_person ?a_p_check_call ?l_p_check_call ?c_p_check_call ?k_p_check_call ?a_p_check_word ?l_p_check_word ?c_p_check_word ?k_p_check_word ?a_p_is_call ?l_p_is_call ?c_p_is_call ?k_p_is_call ?a_p_join_two ?l_p_join_two ?c_p_join_two ?k_p_join_two ?a_p_called ?l_p_called ?c_p_called ?k_p_called ?a_p_called_all ?l_p_called_all ?c_p_called_all ?k_p_called_all ?a_p_check_sizes ?l_p_check_sizes ?c_p_check_sizes ?k_p_check_sizes ?a_p_choice_at ?l_p_choice_at ?c_p_choice_at ?k_p_choice_at ?a_p_cycle_from ?l_p_cycle_from ?c_p_cycle_from ?k_p_cycle_from ?a_p_cycles ?l_p_cycles ?c_p_cycles ?k_p_cycles ?a_p_distance ?l_p_distance ?c_p_distance ?k_p_distance ?a_p_ways_to_split ?l_p_ways_to_split ?c_p_ways_to_split ?k_p_ways_to_split ?a_p_words_many ?l_p_words_many ?c_p_words_many ?k_p_words_many ?a_p_splitting_calls ?l_p_splitting_calls ?c_p_splitting_calls ?k_p_splitting_calls ?a_p_first_calls ?l_p_first_calls ?c_p_first_calls ?k_p_first_calls ?a_p_word_at ?l_p_word_at ?c_p_word_at ?k_p_word_at ?a_p_leads ?l_p_leads ?c_p_leads ?k_p_leads ?a_box ?l_box ?c_box ?k_box ?a_take ?l_take ?c_take ?k_take ?a_pick ?l_pick ?c_pick ?k_pick ?a_same ?l_same ?c_same ?k_same ?a_strewn ?l_strewn ?c_strewn ?k_strewn ?a_drawn_tie ?l_drawn_tie ?c_drawn_tie ?k_drawn_tie ?a_calls ?l_calls ?c_calls ?k_calls ?a_tour_of ?l_tour_of ?c_tour_of ?k_tour_of ?a_asked ?l_asked ?c_asked ?k_asked ?a_toured ?l_toured ?c_toured ?k_toured ?a_rounds ?l_rounds ?c_rounds ?k_rounds ?a_sized ?l_sized ?c_sized ?k_sized ?a_right ?l_right ?c_right ?k_right ?a_law ?l_law ?c_law ?k_law ?aC_OtherSize ?eC_OtherSize ?tC_OtherSize ?is_OtherSize ?aC_NotResult ?eC_NotResult ?tC_NotResult ?is_NotResult ?aC_NotShortest ?eC_NotShortest ?tC_NotShortest ?is_NotShortest ?xC_OtherSize ?sa_OtherSize ?ga_OtherSize ?gg_OtherSize ?kC_OtherSize ?hC_OtherSize ?cl_OtherSize ?mr_OtherSize ?iC_OtherSize ?tI_OtherSize ?lI_OtherSize ?cI_OtherSize ?kI_OtherSize ?su_OtherSize ?no_OtherSize ?su_OtherSize_NotResult ?su_OtherSize_NotShortest ?sb_OtherSize_ValueError ?vV_ValueError ?spG ?tkG ?z_isinstance ?z_int ?z_bool ?z_tuple ?z_len ?z_all ?z_list ?z_set ?z_range ?z_enumerate ?z_min ?z_max ?z_sorted ?z_abs ?z_zip ?z_str ?z_ValueError ?z_sum
    (case a_p_is_integer_below => k_is); (case l_p_is_integer_below => k_is); (case c_p_is_integer_below => k_is); (case k_p_is_integer_below => k_is); (case a_p_check_person => k_is); (case l_p_check_person => k_is); (case c_p_check_person => k_is); (case k_p_check_person => k_is); (case a_p_check_call => k_is); (case l_p_check_call => k_is); (case c_p_check_call => k_is); (case k_p_check_call => k_is); (case a_p_check_word => k_is); (case l_p_check_word => k_is); (case c_p_check_word => k_is); (case k_p_check_word => k_is); (case a_p_is_call => k_is); (case l_p_is_call => k_is); (case c_p_is_call => k_is); (case k_p_is_call => k_is); (case a_p_join_two => k_is); (case l_p_join_two => k_is); (case c_p_join_two => k_is); (case k_p_join_two => k_is); (case a_p_called => k_is); (case l_p_called => k_is); (case c_p_called => k_is); (case k_p_called => k_is); (case a_p_called_all => k_is); (case l_p_called_all => k_is); (case c_p_called_all => k_is); (case k_p_called_all => k_is); (case a_p_check_sizes => k_is); (case l_p_check_sizes => k_is); (case c_p_check_sizes => k_is); (case k_p_check_sizes => k_is); (case a_p_choice_at => k_is); (case l_p_choice_at => k_is); (case c_p_choice_at => k_is); (case k_p_choice_at => k_is); (case a_p_cycle_from => k_is); (case l_p_cycle_from => k_is); (case c_p_cycle_from => k_is); (case k_p_cycle_from => k_is); (case a_p_cycles => k_is); (case l_p_cycles => k_is); (case c_p_cycles => k_is); (case k_p_cycles => k_is); (case a_p_distance => k_is); (case l_p_distance => k_is); (case c_p_distance => k_is); (case k_p_distance => k_is); (case a_p_ways_to_split => k_is); (case l_p_ways_to_split => k_is); (case c_p_ways_to_split => k_is); (case k_p_ways_to_split => k_is); (case a_p_words_many => k_is); (case l_p_words_many => k_is); (case c_p_words_many => k_is); (case k_p_words_many => k_is); (case a_p_splitting_calls => k_is); (case l_p_splitting_calls => k_is); (case c_p_splitting_calls => k_is); (case k_p_splitting_calls => k_is); (case a_p_first_calls => k_is); (case l_p_first_calls => k_is); (case c_p_first_calls => k_is); (case k_p_first_calls => k_is); (case a_p_word_at => k_is); (case l_p_word_at => k_is); (case c_p_word_at => k_is); (case k_p_word_at => k_is); (case a_p_leads => k_is); (case l_p_leads => k_is); (case c_p_leads => k_is); (case k_p_leads => k_is); (case a_box => k_is); (case l_box => k_is); (case c_box => k_is); (case k_box => k_is); (case a_take => k_is); (case l_take => k_is); (case c_take => k_is); (case k_take => k_is); (case a_pick => k_is); (case l_pick => k_is); (case c_pick => k_is); (case k_pick => k_is); (case a_same => k_is); (case l_same => k_is); (case c_same => k_is); (case k_same => k_is); (case a_strewn => k_is); (case l_strewn => k_is); (case c_strewn => k_is); (case k_strewn => k_is); (case a_drawn_tie => k_is); (case l_drawn_tie => k_is); (case c_drawn_tie => k_is); (case k_drawn_tie => k_is); (case a_calls => k_is); (case l_calls => k_is); (case c_calls => k_is); (case k_calls => k_is); (case a_tour_of => k_is); (case l_tour_of => k_is); (case c_tour_of => k_is); (case k_tour_of => k_is); (case a_asked => k_is); (case l_asked => k_is); (case c_asked => k_is); (case k_asked => k_is); (case a_toured => k_is); (case l_toured => k_is); (case c_toured => k_is); (case k_toured => k_is); (case a_rounds => k_is); (case l_rounds => k_is); (case c_rounds => k_is); (case k_rounds => k_is); (case a_sized => k_is); (case l_sized => k_is); (case c_sized => k_is); (case k_sized => k_is); (case a_right => k_is); (case l_right => k_is); (case c_right => k_is); (case k_right => k_is); (case a_law => k_is); (case l_law => k_is); (case c_law => k_is); (case k_law => k_is); (case aC_OtherSize => k_is); (case eC_OtherSize => k_is); (case tC_OtherSize => k_is); (case is_OtherSize => k_is); (case aC_NotResult => k_is); (case eC_NotResult => k_is); (case tC_NotResult => k_is); (case is_NotResult => k_is); (case aC_NotShortest => k_is); (case eC_NotShortest => k_is); (case tC_NotShortest => k_is); (case is_NotShortest => k_is); (case xC_OtherSize => k_is); (case sa_OtherSize => k_is); (case ga_OtherSize => k_is); (case gg_OtherSize => k_is); (case kC_OtherSize => k_is); (case hC_OtherSize => k_is); (case cl_OtherSize => k_is); (case mr_OtherSize => k_is); (case iC_OtherSize => k_is); (case tI_OtherSize => k_is); (case lI_OtherSize => k_is); (case cI_OtherSize => k_is); (case kI_OtherSize => k_is); (case su_OtherSize => k_is); (case no_OtherSize => k_is); (case su_OtherSize_NotResult => k_is); (case su_OtherSize_NotShortest => k_is); (case sb_OtherSize_ValueError => k_is); (case vV_ValueError => k_is); (case spG => k_is); (case tkG => k_is); (case z_isinstance => k_is); (case z_int => k_is); (case z_bool => k_is); (case z_tuple => k_is); (case z_len => k_is); (case z_all => k_is); (case z_list => k_is); (case z_set => k_is); (case z_range => k_is); (case z_enumerate => k_is); (case z_min => k_is); (case z_max => k_is); (case z_sorted => k_is); (case z_abs => k_is); (case z_zip => k_is); (case z_str => k_is); (case z_ValueError => k_is); (case z_sum => k_is)
